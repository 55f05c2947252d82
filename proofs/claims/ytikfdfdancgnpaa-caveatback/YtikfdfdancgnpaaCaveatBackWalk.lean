/-
  The walk of CaveatBack.
-/
import Derived.Test.YtikfdfdancgnpaaCaveatLive
import Derived.Test.YtikfdfdancgnpaaBigsizeSame
import Derived.Deep.Cut
import Derived.Deep.CutRange
namespace Go.Proofs.Ytikfdfdancgnpaa
open Go.RowKit Go.WalkArith

theorem putC_len (c : Cav) : (putC c).length ≤ 27 := by
  unfold putC
  split
  · have := octs_len_le (numsC c)
    have h2 : (numsC c).length ≤ 3 := by unfold numsC; split <;> simp
    omega
  · simp
theorem getC_put0 {c : Cav} (hw : CavWf c) (hc : CavOk c) : getC (putC c) = (c, 0) ∧ getC (putC c ++ [0]) = (zeroC, 2) := by
  have h1 := getC_put hw hc []
  have h2 := getC_put hw hc [0]
  rw [List.append_nil] at h1
  rw [h1, h2]
  exact ⟨if_pos ⟨rfl, hc⟩, if_neg fun k => by simp at k⟩

set_option maxRecDepth 100000 in
set_option maxHeartbeats 4000000 in
theorem caveatBack_walk (s0 : Array Value) (x0 : Cav) (A1 : Option Addr) (n1 c1 : Nat) (x1 : List Int) (w : World) (r0 : lay_Caveat.rep w (· < w.heap.size) x0 s0.toList) (r1 : Rd w w.heap.size .u8 A1 n1 c1 x1) :
    Calls Try.prog 4 #[.agg s0, .slice A1 n1 c1] w fun e w' => e = .returned (.bool true) ∧ Below w.heap.size w w' := by
  obtain ⟨rfl, h0⟩ := agg_Caveat r0
  clear r0
  have hc1 := r1.cap
  unfold maxLen at hc1
  have hb0 : Below w.heap.size w (w.alloc (Obj.cells #[.int .i64 x0.Kind, .int .u64 x0.A, .int .u64 x0.B] 24)) := bel_alloc (Below.refl _ _) _
  have v0 := Var3.new w 24 (.int .i64 x0.Kind) (.int .u64 x0.A) (.int .u64 x0.B)
  have P0 := hid (fun W : World => (show lay_Caveat.rep W (fun _ => True) x0 #[.int .i64 x0.Kind, .int .u64 x0.A, .int .u64 x0.B].toList from rep_Caveat.2 ⟨rfl, h0⟩))
  have R1 := hid ((r1.below hb0).more hb0.size)
  have HOC := hid (rd_octs r1)
  clear r1
  go_enter Try.func4, Try.ntmps4
  go_wp2_with fail
  generalize w.alloc (Obj.cells #[.int .i64 x0.Kind, .int .u64 x0.A, .int .u64 x0.B] 24) = W0 at *
  have C0 := hid (fun (W : World) (h : Below W0.heap.size W0 W) => And.intro (v0.call h).c0 (And.intro (v0.call h).c1 (v0.call h).c2))
  have RW := hid (fun (W : World) (h : Below W0.heap.size W0 W) => (R1.out.below h).more h.size)
  have hg0 := v0.lt
  refine (live6_any _).mono ?_
  rintro e w1 ⟨rfl, hb1⟩
  have HB := hb1
  clear hb1 R1
  by_cases hbig : 200 < n1
  · have d1 : (200 : Int) < (n1 : Int) := by omega
    go_wp2
    go_ret
    exact ⟨rfl, bel_call hb0 HB⟩
  have d1 : decide ((200 : Int) < (n1 : Int)) = false := by simp; omega
  have HGW := hid (getC_ok_wf HOC.out)
  have HPG := hid (fun (h : (getC x1).2 = 0) => put_getC HOC.out (c := (getC x1).1) (by rw [← h]))
  go_wp2_with fail
  refine (cGet_any _ _ _ x1 _ (RW.out _ HB) (by omega)).mono ?_
  obtain ⟨⟨d, ge⟩, hg⟩ : ∃ p, getC x1 = p := ⟨_, rfl⟩
  rw [hg] at HGW HPG ⊢
  simp only at HGW HPG
  clear hg
  rintro e w2 ⟨rfl, hb2⟩
  replace HB := bel_call HB hb2
  clear hb2
  have hba := bel_alloc (Below.refl w2.heap.size w2) (Obj.cells #[.int .i64 d.Kind, .int .u64 d.A, .int .u64 d.B] 24)
  have VD := Var3.new w2 24 (.int .i64 d.Kind) (.int .u64 d.A) (.int .u64 d.B)
  replace HB := bel_call HB hba
  clear hba
  -- both ways meet behind the first part
  go_upto_if 26 with (fail)
  generalize w2.alloc (Obj.cells #[.int .i64 d.Kind, .int .u64 d.A, .int .u64 d.B] 24) = W2 at *
  generalize w2.heap.size = gd at *
  have HD := Below.refl W2.heap.size W2
  go_cut [7, 8] from 25 to 44 (fun _ _ wc => Below W2.heap.size W2 wc)
  case first =>
    by_cases hge : ge = 0
    · subst hge
      obtain ⟨hok, hput, -⟩ := HPG.out rfl
      have HPU := hid (cPut_any _ (fun _ => True) d W2 (rep_Caveat.2 ⟨rfl, HGW.out⟩))
      rw [show cavE d = 0 from if_pos hok, hput] at HPU
      have HCK := hid (fun W : World => cCheck_any #[.int .i64 d.Kind, .int .u64 d.A, .int .u64 d.B] (fun _ => True) d W (rep_Caveat.2 ⟨rfl, HGW.out⟩))
      rw [show cavE d = 0 from if_pos hok] at HCK
      have k0 := VD.c0
      have k1 := VD.c1
      have k2 := VD.c2
      clear hok hput
      go_wp2_with fail
      refine HPU.out.mono ?_
      rintro e w3 ⟨v3, rfl, ho3, hb3⟩
      obtain ⟨A3, n3, c3, rfl, q3⟩ := ho3.formN
      have HB3 := bel_call HB hb3
      have VD3 := VD.call hb3
      have j0 := VD3.c0
      have j1 := VD3.c1
      have j2 := VD3.c2
      clear k0 k1 k2
      go_wp2_with fail
      refine (sameBytes_any _ _ _ _ _ _ _ _ x1 x1 _ q3 (RW.out _ HB3)).mono ?_
      rw [decide_eq_true (rfl : x1 = x1)]
      rintro e w4 ⟨rfl, rfl⟩
      go_wp2_with fail
      refine (HCK.out _).mono ?_
      rintro e w5 ⟨rfl, hb5⟩
      go_wp2_with fail
      go_meet
      case rel => exact bel_call hb3 hb5
    · have hne : (ge == 0) = false := by simpa using hge
      go_wp2_with fail
      go_meet
      case rel => exact HD
  case rest =>
  replace HB := bel_call HB hcut
  have HBc := HB
  clear hcut HD VD HPG HGW
  obtain ⟨k0, k1, k2⟩ := C0.out _ HB
  have HPU := hid (cPut_any _ (fun _ => True) x0 wc (P0.out _))
  rcases cavE_is (c := x0) with ⟨hE, hok⟩ | ⟨hE, hok⟩
  rotate_left
  · rw [hE, show putC x0 = [] from if_neg hok] at HPU
    clear hE hok
    go_wp2_with fail
    refine HPU.out.mono ?_
    rintro e w3 ⟨v3, rfl, ho3, hb3⟩
    obtain ⟨A3, n3, c3, rfl, q3⟩ := ho3.formN
    have hn3 : n3 = 0 := q3.len.symm.trans List.length_nil
    subst hn3
    go_wp2
    go_ret
    exact ⟨rfl, bel_call hb0 (bel_call HB hb3)⟩
  rw [hE] at HPU
  obtain ⟨hG1, hG2⟩ := getC_put0 h0 hok
  have HG1 := hid hG1
  have HG2 := hid hG2
  have hpl := putC_len x0
  clear hE hok hG1 hG2
  generalize putC x0 = px at *
  go_wp2_with fail
  refine HPU.out.mono ?_
  rintro e w3 ⟨v3, rfl, ho3, hb3⟩
  obtain ⟨A3, n3, c3, rfl, q3⟩ := ho3.formN
  have hn3 : n3 ≤ 27 := by rw [← q3.len]; exact hpl
  replace HB := bel_call HB hb3
  have hz3 := hb3.size
  clear hb3 k0 k1 k2 HPU
  go_wp2_with fail
  refine (cGet_any _ _ _ px _ q3 (by omega)).mono ?_
  rw [HG1.out]
  rintro e w4 ⟨rfl, hb4⟩
  have ho4 := ho3.below_all hb4
  have hba := bel_alloc (Below.refl w4.heap.size w4) (Obj.cells #[.int .i64 x0.Kind, .int .u64 x0.A, .int .u64 x0.B] 24)
  have VD := Var3.new w4 24 (.int .i64 x0.Kind) (.int .u64 x0.A) (.int .u64 x0.B)
  have ho5 := ho4.below_all hba
  have hz4 := hb4.size
  have hz5 := hba.size
  have hown3 : ∀ g, (Value.slice A3 n3 c3).ownBlock = some g → g < w4.heap.size := fun g hg => (ho4.1.lt g hg).2
  have HOW := hid hown3
  replace HB := bel_call (bel_call HB hb4) hba
  clear hb4 hba ho4 ho3 q3 hown3
  go_upto_region 14 with (fail)
  generalize w4.alloc (Obj.cells #[.int .i64 x0.Kind, .int .u64 x0.A, .int .u64 x0.B] 24) = W4 at *
  generalize w4.heap.size = gd2 at *
  go_wp2_with (at_builtin; go_must (refine wpList_push (w := W4) rfl (.tmp 61) (.tmp 62) 25 rfl wc.heap.size 5 .u8 1 Try.underlying25 Try.infoU8 (.slice A3 n3 c3) px 0 rfl rfl ho5 (by decide) (by omega) (by omega) (by omega) ?_; intro v6 w6 ho6 hx6; have hq6 := ho6.formN; have VD6 : Var3 w6 gd2 24 _ _ _ := (hx6.1.block gd2 VD.lt (fun he => by have := HOW.out gd2 he.symm; omega)).trans VD; have hb6 : Below wc.heap.size W4 w6 := ho5.below hx6 (by omega)))
  obtain ⟨A6, n6, c6, rfl, q6⟩ := hq6
  have hn6 : n6 ≤ 28 := by have := q6.len; simp at this; omega
  replace HB : Below W0.heap.size W0 w6 := HB.trans (hb6.mono (by have := HBc.size; omega))
  have HGC := hid (show Calls Try.prog 11 #[.slice A6 n6 c6] w6 (fun e w' => e = .returned (.tuple #[.agg #[.int .i64 0, .int .u64 0, .int .u64 0], .int .i64 2]) ∧ Below w6.heap.size w6 w') from by
    have := cGet_any _ _ _ _ w6 q6 (by omega)
    rw [HG2.out] at this
    exact this)
  clear hx6 hb6 ho6 ho5 VD q6
  go_wp2_with fail
  refine HGC.out.mono ?_
  rintro e w7 ⟨rfl, hb7⟩
  have VD7 := VD6.call hb7
  replace HB := bel_call HB hb7
  have hba := bel_alloc (Below.refl w7.heap.size w7) (Obj.cells #[.int .i64 0, .int .u64 0, .int .u64 0] 24)
  have VD8 := VD7.call hba
  replace HB := bel_call HB hba
  clear VD6 VD7 hb7 hba
  have i0 := VD8.c0
  have i1 := VD8.c1
  have i2 := VD8.c2
  obtain ⟨k0, k1, k2⟩ := C0.out _ HB
  have heq := run_eqCav h0 h0
  rw [decide_eq_true (rfl : x0 = x0)] at heq
  have HBE := hid (bel_call hb0 HB)
  clear HB
  go_wp2
  go_ret
  exact ⟨rfl, HBE.out⟩
end Go.Proofs.Ytikfdfdancgnpaa
