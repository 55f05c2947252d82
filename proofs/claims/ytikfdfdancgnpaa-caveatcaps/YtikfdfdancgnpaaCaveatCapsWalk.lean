/-
  The walk of CaveatCaps.
-/
import Derived.Test.YtikfdfdancgnpaaCaveatMoreWalk
import Derived.Test.YtikfdfdancgnpaaCaveatMap
import Derived.Laws.IdiomRangeMap
namespace Go.Proofs.Ytikfdfdancgnpaa
open Go.RowKit Go.WalkArith

theorem cp_is {l : List Cav} : (cpE l = 0 ∧ cpL l = l ∧ CapsOk l) ∨ (cpE l = 1 ∧ cpL l = [] ∧ ¬ CapsOk l) := by
  unfold cpE cpL
  by_cases h : CapsOk l
  · exact .inl ⟨if_pos h, if_pos h, h⟩
  · exact .inr ⟨if_neg h, if_neg h, h⟩
theorem capsOk_less {l : List Cav} {c : Cav} (h : CapsOk (l ++ [c])) : CapsOk l := by
  unfold CapsOk cavsB at *
  simp only [List.length_append, List.length_singleton, List.all_append, Bool.and_eq_true] at h
  exact ⟨by omega, h.2.1⟩
theorem all_cap {l : List Cav} {u : Usx} {k n : Int} (h : alV l u = true) (hc : capS l k = some n) : u.Amount ≤ n := by
  obtain ⟨c, hm, h4, -, rfl⟩ := capS_mem hc
  unfold alV at h
  rw [Bool.and_eq_true, List.all_eq_true] at h
  have := h.2 c hm
  unfold hldB at this
  rw [if_neg (by omega), if_neg (by omega), if_neg (by omega)] at this
  simpa using this

set_option maxRecDepth 100000 in
set_option maxHeartbeats 8000000 in
theorem caveatCaps_walkH (HC : CapsSpec) (A0 : Option Addr) (n0 c0 : Nat) (x0 : List Cav) (s1 : Array Value) (x1 : Cav) (s2 : Array Value) (x2 : Usx) (w : World) (r0 : Sl lay_Caveat w (· < w.heap.size) A0 n0 c0 x0) (r1 : lay_Caveat.rep w (· < w.heap.size) x1 s1.toList) (r2 : lay_Use.rep w (· < w.heap.size) x2 s2.toList) :
    Calls Try.prog 7 #[.slice A0 n0 c0, .agg s1, .agg s2] w fun e w' => e = .returned (.bool true) ∧ Below w.heap.size w w' := by
  obtain ⟨rfl, h1⟩ := agg_Caveat r1
  obtain ⟨rfl, h2⟩ := agg_Use r2
  clear r1 r2
  have hc0 := r0.cap
  unfold maxLen at hc0
  have HL := hid r0.len
  have HCS := hid HC
  clear HC
  have hb0 : Below w.heap.size w ((w.alloc (Obj.cells #[.int .i64 x1.Kind, .int .u64 x1.A, .int .u64 x1.B] 24)).alloc (Obj.cells #[.int .u64 x2.Tick, .int .i64 x2.Method, .int .u64 x2.Amount, .int .u64 x2.Who] 27)) := bel_alloc (bel_alloc (Below.refl _ _) _) _
  have v1 : Var3 ((w.alloc (Obj.cells #[.int .i64 x1.Kind, .int .u64 x1.A, .int .u64 x1.B] 24)).alloc (Obj.cells #[.int .u64 x2.Tick, .int .i64 x2.Method, .int .u64 x2.Amount, .int .u64 x2.Who] 27)) w.heap.size 24 (.int .i64 x1.Kind) (.int .u64 x1.A) (.int .u64 x1.B) := heap_alloc2_old _ _ _
  have v2 : Var4 ((w.alloc (Obj.cells #[.int .i64 x1.Kind, .int .u64 x1.A, .int .u64 x1.B] 24)).alloc (Obj.cells #[.int .u64 x2.Tick, .int .i64 x2.Method, .int .u64 x2.Amount, .int .u64 x2.Who] 27)) (w.heap.size + 1) 27 (.int .u64 x2.Tick) (.int .i64 x2.Method) (.int .u64 x2.Amount) (.int .u64 x2.Who) := alloc2_new _ _ _
  have P0 := hid (Sl.call r0 hb0)
  have P1 := hid (fun (W : World) (S : Nat → Prop) => (show lay_Caveat.rep W S x1 #[.int .i64 x1.Kind, .int .u64 x1.A, .int .u64 x1.B].toList from rep_Caveat.2 ⟨rfl, h1⟩))
  have P2 := hid (fun W : World => (show lay_Use.rep W (fun _ => True) x2 #[.int .u64 x2.Tick, .int .i64 x2.Method, .int .u64 x2.Amount, .int .u64 x2.Who].toList from rep_Use.2 ⟨rfl, h2⟩))
  have bx1 := cav_bd h1
  have bx2 := bounds_u64 h2.amount
  clear r0 h1 h2
  go_enter Try.func7, Try.ntmps7
  go_wp2_with fail
  generalize ((w.alloc (Obj.cells #[.int .i64 x1.Kind, .int .u64 x1.A, .int .u64 x1.B] 24)).alloc (Obj.cells #[.int .u64 x2.Tick, .int .i64 x2.Method, .int .u64 x2.Amount, .int .u64 x2.Who] 27)) = W0 at *
  have KK := hid (fun (W : World) (h : Below W0.heap.size W0 W) => (show W.cell? ⟨w.heap.size, 0, none⟩ = some (.int .i64 x1.Kind) ∧ W.cell? ⟨w.heap.size, 1, none⟩ = some (.int .u64 x1.A) ∧ W.cell? ⟨w.heap.size, 2, none⟩ = some (.int .u64 x1.B) ∧ W.cell? ⟨w.heap.size + 1, 0, none⟩ = some (.int .u64 x2.Tick) ∧ W.cell? ⟨w.heap.size + 1, 1, none⟩ = some (.int .i64 x2.Method) ∧ W.cell? ⟨w.heap.size + 1, 2, none⟩ = some (.int .u64 x2.Amount) ∧ W.cell? ⟨w.heap.size + 1, 3, none⟩ = some (.int .u64 x2.Who) from ⟨(v1.call h).c0, (v1.call h).c1, (v1.call h).c2, (v2.call h).c0, (v2.call h).c1, (v2.call h).c2, (v2.call h).c3⟩))
  have PW := hid (fun (W : World) (h : Below W0.heap.size W0 W) => Sl.call P0.out h)
  clear P0 v1 v2
  refine (live6_any _).mono ?_
  rintro e w1 ⟨rfl, hb1⟩
  have HB := hb1
  clear hb1
  by_cases hbig : 15 < n0
  · have d1 : (15 : Int) < (n0 : Int) := by omega
    go_wp2
    go_ret
    exact ⟨rfl, bel_call hb0 HB⟩
  have d1 : decide ((15 : Int) < (n0 : Int)) = false := by simp; omega
  have hlen0 : x0.length ≤ 15 := by rw [HL.out]; omega
  have HC1 := hid (HCS.out _ _ _ x0 w1 (PW.out _ HB))
  go_wp2_with fail
  refine HC1.out.mono ?_
  rintro e w2 ⟨va, rfl, hma, hb2⟩
  replace HB := bel_call HB hb2
  have HMA := hid hma
  clear hb2 hma HC1
  go_upto_region 6 with (fail)
  go_cut [9, 10] from 27 to 35 (fun a b wc => ∃ vb, a = vb ∧ b = .int .i64 (cpE (x0 ++ [x1])) ∧ CapMap wc w2.heap.size vb (cpL (x0 ++ [x1])) ∧ Below w2.heap.size w2 wc)
  case first =>
    have P6 := hid (PW.out _ HB)
    obtain ⟨k0, k1, k2, j0, j1, j2, j3⟩ := KK.out _ HB
    have K7 := hid (fun (W : World) (h : Below w2.heap.size w2 W) => KK.out _ (bel_call HB h))
    have hlen1 : (x0.length + 1) * 24 ≤ 140737488355328 := by omega
    have hlen2 : x0.length + 1 ≤ maxLen := by unfold maxLen; omega
    have hba := fun (W : World) (h : Below w2.heap.size w2 W) => bel_alloc h (Obj.cells #[.int .i64 x1.Kind, .int .u64 x1.A, .int .u64 x1.B] 24)
    have HH := Below.refl w2.heap.size w2
    go_region_held3 (fun W => W.cell? ⟨w.heap.size, 0, none⟩ = some (.int .i64 x1.Kind) ∧ W.cell? ⟨w.heap.size, 1, none⟩ = some (.int .u64 x1.A) ∧ W.cell? ⟨w.heap.size, 2, none⟩ = some (.int .u64 x1.B) ∧ W.cell? ⟨w.heap.size + 1, 0, none⟩ = some (.int .u64 x2.Tick) ∧ W.cell? ⟨w.heap.size + 1, 1, none⟩ = some (.int .i64 x2.Method) ∧ W.cell? ⟨w.heap.size + 1, 2, none⟩ = some (.int .u64 x2.Amount) ∧ W.cell? ⟨w.heap.size + 1, 3, none⟩ = some (.int .u64 x2.Who))
      (first | exact K7.out _ HH | exact K7.out _ HH.drew | exact K7.out _ (hba _ HH.drew) | exact K7.out _ hb7 | exact K7.out _ (hba _ hb7) | exact K7.out _ hb8 | exact K7.out _ hb9 | go_keep)
      (first
        | (refine step_catL (by rfl) (.const (.slice none 0 0)) (.tmp 28) 41 (by rfl) w2.heap.size none 24 _ 24 Try.underlying41 Try.infoCav rfl (by decide) (.slice none 0 0) [] x0 (· < w2.heap.size) A0 n0 c0 (by rfl) (by rfl) (OwnL.nil _ _ _ _ _) (P6.out.drewN 1) (fun b hb => ⟨trivial, hb, by simp [Value.ownBlock]⟩) (Nat.le_refl _) (by simp; omega) (by simp; unfold maxLen; omega) ?_; intro v7 w7 ho7 hx7; rw [List.nil_append] at ho7; have hb7 : Below w2.heap.size w2 w7 := (Below.refl w2.heap.size w2).drew.trans hx7.of_nil)
        | (refine step_pushL (w := w7) (by rfl) (.tmp 29) (.tmp 31) 41 (by rfl) w2.heap.size none 24 _ 24 Try.underlying41 Try.infoCav rfl (by decide) v7 x0 x1 #[.int .i64 x1.Kind, .int .u64 x1.A, .int .u64 x1.B] (fun _ => False) w7.heap.size (by rfl) (by rfl) (bel_alloc (Below.refl _ _) _) (heap_alloc_new _ _) ho7 (P1.out _ _) (fun b hb => hb.elim) hb7.size hlen1 hlen2 ?_; intro v8 w8 ho8 hx8; obtain ⟨A8, n8, c8, rfl, hs8⟩ := ho8.read; have hb8 : Below w2.heap.size w2 w8 := (hb7.alloc hb7.size _).trans ((ho7.keep (bel_alloc (Below.refl _ _) _)).below hx8 (Nat.le_trans hb7.size (by simp))))
        | (refine step_catL (w := (w2.drewN 1).alloc (.cells #[.int .i64 x1.Kind, .int .u64 x1.A, .int .u64 x1.B] 24)) (by rfl) (.const (.slice none 0 0)) (.tmp 28) 41 (by rfl) (w2.heap.size + 1) none 24 _ 24 Try.underlying41 Try.infoCav rfl (by decide) (.slice none 0 0) [] x0 (· < w2.heap.size) A0 n0 c0 (by rfl) (by rfl) (OwnL.nil _ _ _ _ _) ((P6.out.drewN 1).keep fun p hp => (bel_alloc (Below.refl w2.heap.size (w2.drewN 1)) _).cell hp) (fun b hb => ⟨trivial, by show b < ((w2.drewN 1).alloc _).heap.size; simp; omega, by simp [Value.ownBlock]⟩) (by simp) (by simp; omega) (by simp; unfold maxLen; omega) ?_; intro v7 w7 ho7 hx7; rw [List.nil_append] at ho7; have hbx : Below (w2.heap.size + 1) ((w2.drewN 1).alloc (.cells #[.int .i64 x1.Kind, .int .u64 x1.A, .int .u64 x1.B] 24)) w7 := hx7.of_nilB (by simp); have hb7 : Below w2.heap.size w2 w7 := ((bel_drewN (Below.refl w2.heap.size w2) 1).alloc (Nat.le_refl _) _).trans (hbx.mono (by omega)); have hg7 := (hbx.block w2.heap.size (by omega)).trans (heap_alloc_new (w2.drewN 1) (.cells #[.int .i64 x1.Kind, .int .u64 x1.A, .int .u64 x1.B] 24)))
        | (refine step_pushW (w := w7) (by rfl) (.tmp 29) (.tmp 31) 41 (by rfl) (w2.heap.size + 1) none 24 _ 24 Try.underlying41 Try.infoCav rfl (by decide) v7 x0 x1 #[.int .i64 x1.Kind, .int .u64 x1.A, .int .u64 x1.B] (fun _ => False) w2.heap.size (by rfl) (by rfl) hg7 ho7 (P1.out _ _) (fun b hb => hb.elim) (lt_of_block hg7) hlen1 hlen2 ?_; intro v8 w8 ho8 hx8; obtain ⟨A8, n8, c8, rfl, hs8⟩ := ho8.read; have hb8 : Below w2.heap.size w2 w8 := hb7.trans ((ho7.below hx8 (lt_of_block hg7)).mono (by omega)))
        | (go_at_call 21; go_must (refine (HCS.out _ _ _ (x0 ++ [x1]) w8 hs8).mono ?_; rintro e w9 ⟨vb, rfl, hmb, hb9'⟩; have hb9 := bel_call hb8 hb9')))
    all_goals
      go_wp2_with fail
      go_meet
      case rel =>
        refine ⟨vb, rfl, rfl, ?_, hb9⟩
        rcases hmb with h | ⟨b, h1, h2, h3⟩
        · exact .inl h
        · exact .inr ⟨b, h1, Nat.le_trans hb8.size h2, h3⟩
  case rest =>
  obtain ⟨vb, hvb, rfl, hmb, HBC⟩ := hcut
  replace hvb := hvb.symm
  subst hvb
  have HMB := hid hmb
  have HMA2 := hid (HMA.out.below HBC)
  replace HB := bel_call HB HBC
  clear HBC hmb HMA
  rcases cp_is (l := x0 ++ [x1]) with ⟨q1, q2, q3⟩ | ⟨q1, q2, q3⟩
  rotate_left
  · rw [q1]
    rw [q2] at HMB
    have hl := HMB.out.len 3
    have hk0 : (keysN []).length = 0 := rfl
    rw [hk0] at hl
    clear q1 q2 q3
    go_wp2
    go_ret
    exact ⟨rfl, bel_call hb0 HB⟩
  rw [q1]
  rw [q2] at HMB
  have q4 := capsOk_less q3
  rw [show cpE x0 = 0 from if_pos q4]
  rw [show cpL x0 = x0 from if_pos q4] at HMA2
  have hla := HMA2.out.len 3
  have hlb := HMB.out.len 3
  have hk1 := keysN_one x0 x1
  have hk2 := keysN_len x0
  clear q1 q2 q3 q4
  generalize (keysN x0).length = la at *
  generalize (keysN (x0 ++ [x1])).length = lb at *
  have d2 : decide ((lb : Int) < (la : Int)) = false := by simp; omega
  have d3 : decide ((la : Int) + 1 < (lb : Int)) = false := by simp; omega
  have d2' : decide (lb < la) = false := by simp; omega
  have wla : IntKind.i64.wrap ((la : Int) + 1) = (la : Int) + 1 := IntWalk.i64_in _ (by omega)
  obtain ⟨aE, haE⟩ : ∃ p, alE x0 x2 = p := ⟨_, rfl⟩
  obtain ⟨aV, haV⟩ : ∃ p, alV x0 x2 = p := ⟨_, rfl⟩
  have AE := hid haE
  have AV := hid haV
  clear haE haV
  obtain ⟨k0, k1, k2, j0, j1, j2, j3⟩ := KK.out _ HB
  go_wp2_with fail
  refine (cAll_any _ _ _ x0 _ x2 _ (PW.out _ HB) (P2.out _)).mono ?_
  rw [AE.out, AV.out]
  rintro e w5 ⟨rfl, hb5⟩
  replace HB := bel_call HB hb5
  replace HMA2 := hid (HMA2.out.below hb5)
  replace HMB := hid (HMB.out.below hb5)
  clear hb5 k0 k1 k2 j0 j1 j2 j3 hla hlb d2 d3 d2' wla hk1 hk2
  rcases HMA2.out with ⟨rfl, -⟩ | ⟨ba, rfl, -, hca⟩
  · -- no caps at all
    have hrg := run_range_nilMap (P := Try.prog) w5 45 22 22 Try.underlying45
    have hnx : ∀ ty, (Instr.next (.pointer (some ⟨w5.heap.size, 0, none⟩)) false ty).run Try.prog (w5.alloc (.mapIter none 0 #[] 0)) = _ := fun ty => run_next_nilMap w5 ty 0 0 #[]
    have HBE := hid (bel_call hb0 (bel_alloc HB (.mapIter none 0 #[] 0)))
    go_wp2
    refine wp_loop_rounds 1 ?_
    rw [rounds_succ]
    go_wp2
    go_ret
    exact ⟨rfl, HBE.out⟩
  · obtain ⟨n, D, hown, -, hhas, hat, -⟩ := hca
    have HHAS := hid hhas
    have HAT := hid hat
    clear hhas hat
    go_wp2_with (first | (at_range; refine wpList_range_own _ rfl _ 45 rfl 22 22 cvLaw Try.underlying45 _ ba n D rfl hown ?_; intro w6 hrg0 hg0 hs0) | go_in)
    go_frame
    have hb6 : Below w5.heap.size w5 w6 := ⟨hg0.os, hg0.tape, hg0.output, hg0.size, fun i hi => hg0.block i hi (by simp)⟩
    go_loopw [13] (fun _ wr => ∃ (left : Lit → Bool) (cnt : Nat), wr.ranges Try.prog 22 (plainElem Try.prog 22) ba w5.heap.size n D left cnt ∧ Below w5.heap.size w5 wr) (fun _ wr => wr.rangeLeft ba w5.heap.size)
    case atStart => exact ⟨_, _, hrg0, hb6⟩
    case round =>
      obtain ⟨left, cnt, hrg, hbel⟩ := hrel
      clear hrg0 hg0 hs0 hb6
      go_wp2_with (first | (at_next; refine wpList_next_ranges_ii _ rfl _ rfl 22 22 .u64 .u64 cvLaw Try.underlying22 Try.underlying22 ba w5.heap.size n D left cnt rfl hrg ?_ ?_) | go_in)
      · intro _ hl0
        have HBE := hid (bel_call hb0 (bel_call HB hbel))
        go_wp2
        go_ret
        exact ⟨rfl, HBE.out⟩
      · intro x c w7 cnt1 hwx hwc hlx hatx hrg1 hlt hg1 hs1 hen
        have hb7 : Below w5.heap.size w5 w7 := hbel.trans (grown_below hg1 (Nat.le_refl _) hbel.size)
        have HB7 := bel_call HB hb7
        have hcx : capS x0 x = some c := by
          have hh := HHAS.out x hwx
          rw [Maps.has_true_of_atKey hatx] at hh
          obtain ⟨m, hm⟩ := Option.isSome_iff_exists.1 hh.symm
          have e := HAT.out x m hwx hm (.lit (.int .u64 0))
          rw [hatx] at e
          injection e with e
          injection e with e1 e2
          rw [hm, e2]
        obtain ⟨m, hm1, hm2, hm3⟩ := capS_one (c := x1) hcx
        have HAM := hid (fun h : aV = true => all_cap (l := x0) (u := x2) (by rw [AV.out]; exact h) hcx)
        have hlook : (Instr.lookup 45 vb (.int .u64 x) true).run Try.prog w7 = .ok (.tuple #[.int .u64 m, .bool true]) w7 := by
          rcases (HMB.out.below hb7) with ⟨-, h⟩ | ⟨bb, rfl, -, hcb⟩
          · have := (keysN_mem (x0 ++ [x1]) x).2 (by rw [hm1]; rfl)
            rw [h] at this
            simp at this
          · rw [hcb.look hwx, hm1]
            rfl
        have bm := bounds_u64 hwc
        obtain ⟨k0, k1, k2, j0, j1, j2, j3⟩ := KK.out _ HB7
        have e1 : decide (c < m) = false := by simp; omega
        have HMS := hid (show wr.rangeLeft ba w5.heap.size = cnt ∧ w7.rangeLeft ba w5.heap.size = cnt1 from ⟨hrg.left_eq, hrg1.left_eq⟩)
        have HRG := hid hrg1
        have HB77 := hid hb7
        clear hrg1 hrg hg1 hs1 hb7 HB7 hatx hlx hcx hm1 hbel
        have HCUT : Hid (∀ g : Bool, (g = true → (m != c) = false ∨ (m != c) = true) → True) := hid fun _ _ => trivial
        clear HCUT
        have HWAYS : Hid (((m != c) = false) ∨ ((m != c) = true ∧ (x1.Kind != 4) = false ∧ (x1.B != x) = false ∧ (m != x1.A) = false)) := hid (by
          by_cases e : m = c
          · exact .inl (by simpa using e)
          · obtain ⟨y1, y2, y3⟩ := hm3 e
            exact .inr ⟨by simpa using e, by simpa using y1, by simpa using y2, by simpa using y3⟩)
        have HEND : Hid (((aE == 0) = false) ∨ ((aE == 0) = true ∧ aV = false) ∨ ((aE == 0) = true ∧ aV = true ∧ decide (c < x2.Amount) = false)) := hid (by
          cases he : (aE == 0)
          · exact .inl rfl
          · cases hv : aV
            · exact .inr (.inl ⟨rfl, rfl⟩)
            · refine .inr (.inr ⟨rfl, rfl, ?_⟩)
              have := HAM.out hv
              simp
              omega)
        clear HAM hm3
        rcases HWAYS.out with y1 | ⟨y1, y2, y3, y4⟩ <;> rcases HEND.out with z1 | ⟨z1, z2⟩ | ⟨z1, z2, z3⟩
        all_goals
          clear HWAYS HEND
          try subst z2
          go_wp2
          go_roundw
          case rel => exact ⟨_, _, HRG.out, HB77.out⟩
          case measure => rw [HMS.out.1, HMS.out.2]; exact hlt

theorem caveatCaps_walk (A0 : Option Addr) (n0 c0 : Nat) (x0 : List Cav) (s1 : Array Value) (x1 : Cav) (s2 : Array Value) (x2 : Usx) (w : World) (r0 : Sl lay_Caveat w (· < w.heap.size) A0 n0 c0 x0) (r1 : lay_Caveat.rep w (· < w.heap.size) x1 s1.toList) (r2 : lay_Use.rep w (· < w.heap.size) x2 s2.toList) :
    Calls Try.prog 7 #[.slice A0 n0 c0, .agg s1, .agg s2] w fun e w' => e = .returned (.bool true) ∧ Below w.heap.size w w' :=
  caveatCaps_walkH cCaps_any A0 n0 c0 x0 s1 x1 s2 x2 w r0 r1 r2
end Go.Proofs.Ytikfdfdancgnpaa
