/-
  The contracts of package caveat's own Tighter, and of rows of caveats.
-/
import Derived.Test.YtikfdfdancgnpaaCaveat5
namespace Go.Proofs.Ytikfdfdancgnpaa
open Go.RowKit Go.WalkArith

set_option maxRecDepth 100000 in
set_option maxHeartbeats 4000000 in
theorem cTighter_any (s1 s2 : Array Value) (S : Nat → Prop) (c d : Cav) (w : World) (h1 : lay_Caveat.rep w S c s1.toList) (h2 : lay_Caveat.rep w S d s2.toList) :
    Calls Try.prog 15 #[.agg s1, .agg s2] w fun e w' => e = .returned (.tuple #[.bool (tgV c d), .int .i64 (tgE c d)]) ∧ Below w.heap.size w w' := by
  obtain ⟨rfl, hw⟩ := agg_Caveat h1
  obtain ⟨rfl, hv⟩ := agg_Caveat h2
  clear h1 h2
  have bc := cav_bd hw
  have bd := cav_bd hv
  have HC1 := hid (fun W => cCheck_any #[.int .i64 c.Kind, .int .u64 c.A, .int .u64 c.B] (fun _ => True) c W (rep_Caveat.2 ⟨rfl, hw⟩))
  have HC2 := hid (fun W => cCheck_any #[.int .i64 d.Kind, .int .u64 d.A, .int .u64 d.B] (fun _ => True) d W (rep_Caveat.2 ⟨rfl, hv⟩))
  clear hw hv
  have HIS := hid (tg_is (a := c) (b := d))
  have HE1 := hid (cavE_is (c := c))
  have HE2 := hid (cavE_is (c := d))
  obtain ⟨k, a, b⟩ := c
  obtain ⟨k', a', b'⟩ := d
  simp only at *
  have hb0 : Below w.heap.size w ((w.alloc (Obj.cells #[.int .i64 k, .int .u64 a, .int .u64 b] 24)).alloc (Obj.cells #[.int .i64 k', .int .u64 a', .int .u64 b'] 24)) := bel_alloc (bel_alloc (Below.refl _ _) _) _
  have V0 : Var3 ((w.alloc (Obj.cells #[.int .i64 k, .int .u64 a, .int .u64 b] 24)).alloc (Obj.cells #[.int .i64 k', .int .u64 a', .int .u64 b'] 24)) w.heap.size 24 (.int .i64 k) (.int .u64 a) (.int .u64 b) := heap_alloc2_old _ _ _
  have U0 : Var3 ((w.alloc (Obj.cells #[.int .i64 k, .int .u64 a, .int .u64 b] 24)).alloc (Obj.cells #[.int .i64 k', .int .u64 a', .int .u64 b'] 24)) (w.heap.size + 1) 24 (.int .i64 k') (.int .u64 a') (.int .u64 b') := alloc2_new _ _ _
  go_enter Try.func15, Try.ntmps15
  go_wp2_with fail
  refine (HC1.out _).mono ?_
  rintro e w1 ⟨rfl, hb1⟩
  have HB1 := bel_call hb0 hb1
  have V1 := V0.call hb1
  have U1 := U0.call hb1
  have j0 := U1.c0
  have j1 := U1.c1
  have j2 := U1.c2
  clear hb1 hb0 V0 U0 HC1
  rcases HE1.out with ⟨hE, hok⟩ | ⟨hE, hok⟩
  rotate_left
  · rw [hE]
    rcases HIS.out with ⟨-, -, q⟩ | ⟨x1, x2, -⟩
    · exact absurd q.1 hok
    have X1 := hid x1
    have X2 := hid x2
    clear x1 x2 hE hok
    go_wp2
    go_ret2
    exact ⟨by rw [X1.out, X2.out]; rfl, HB1⟩
  rw [hE]
  clear hE
  go_wp2_with fail
  refine (HC2.out _).mono ?_
  rintro e w2 ⟨rfl, hb2⟩
  have HB2 := bel_call HB1 hb2
  have V2 := V1.call hb2
  have U2 := U1.call hb2
  have k0 := V2.c0
  have k1 := V2.c1
  have k2 := V2.c2
  have i0 := U2.c0
  have i1 := U2.c1
  have i2 := U2.c2
  clear hb2 V1 U1 j0 j1 j2 HC2
  rcases HE2.out with ⟨hE, hok2⟩ | ⟨hE, hok2⟩
  rotate_left
  · rw [hE]
    rcases HIS.out with ⟨-, -, q⟩ | ⟨x1, x2, -⟩
    · exact absurd q.2.1 hok2
    have X1 := hid x1
    have X2 := hid x2
    clear x1 x2 hE hok2 hok
    go_wp2
    go_ret2
    exact ⟨by rw [X1.out, X2.out]; rfl, HB2⟩
  rw [hE]
  clear hE
  by_cases hk : k = k'
  rotate_left
  · rcases HIS.out with ⟨-, -, q⟩ | ⟨x1, x2, -⟩
    · exact absurd q.2.2.1 hk
    have X1 := hid x1
    have X2 := hid x2
    have d1 : (k != k') = true := by simpa using hk
    clear x1 x2 hok2 hok hk
    go_wp2
    go_ret2
    exact ⟨by rw [X1.out, X2.out]; rfl, HB2⟩
  subst hk
  by_cases hb : b = b'
  rotate_left
  · rcases HIS.out with ⟨-, -, q⟩ | ⟨x1, x2, -⟩
    · exact absurd q.2.2.2 hb
    have X1 := hid x1
    have X2 := hid x2
    have d1 : (k != k) = false := by simp
    have d2 : (b != b') = true := by simpa using hb
    clear x1 x2 hok2 hok hb
    go_wp2
    go_ret2
    exact ⟨by rw [X1.out, X2.out]; rfl, HB2⟩
  subst hb
  rcases HIS.out with ⟨x1, x2, -⟩ | ⟨-, -, q⟩
  rotate_left
  · exact absurd ⟨hok, hok2, rfl, rfl⟩ q
  have X1 := hid x1
  have hk1 : 1 ≤ k := hok.1
  have hk2 : k ≤ 5 := hok.2.1
  have HA := hid (show k = 2 → a ≤ 65535 from hok.2.2.1)
  clear x1 HIS HE1 HE2 hok hok2
  have dk : (k != k) = false := by simp
  have db : (b != b) = false := by simp
  rcases (show k = 1 ∨ k = 2 ∨ k = 3 ∨ k = 4 ∨ k = 5 by omega) with hk | hk | hk | hk | hk
  all_goals subst hk
  · have X2 := hid (x2.trans (show tgB ⟨1, a, b⟩ ⟨1, a', b⟩ = decide (a ≤ a') from rfl))
    clear x2
    go_wp2
    go_ret2
    exact ⟨by rw [X1.out, X2.out]; rfl, HB2⟩
  · have h65 := HA.out rfl
    have X2 := hid (x2.trans ((show tgB ⟨2, a, b⟩ ⟨2, a', b⟩ = subB a a' from rfl).trans (sub_bits (by omega) h65 (by omega) (by omega)).symm))
    clear x2 HA
    go_wp2
    go_ret2
    exact ⟨by rw [X1.out, X2.out]; rfl, HB2⟩
  · have X2 := hid (x2.trans (show tgB ⟨3, a, b⟩ ⟨3, a', b⟩ = (decide (a ≤ a')) from rfl))
    clear x2
    go_wp2
    go_ret2
    exact ⟨by rw [X1.out, X2.out]; rfl, HB2⟩
  · have X2 := hid (x2.trans (show tgB ⟨4, a, b⟩ ⟨4, a', b⟩ = (decide (a ≤ a')) from rfl))
    clear x2
    go_wp2
    go_ret2
    exact ⟨by rw [X1.out, X2.out]; rfl, HB2⟩
  · have X2 := hid (x2.trans (show tgB ⟨5, a, b⟩ ⟨5, a', b⟩ = (a == a') from rfl))
    clear x2
    go_wp2
    go_ret2
    exact ⟨by rw [X1.out, X2.out]; rfl, HB2⟩

set_option maxRecDepth 100000 in
set_option maxHeartbeats 4000000 in
theorem checkList_any (A : Option Addr) (n c : Nat) (l : List Cav) (w : World) (h1 : Sl lay_Caveat w (· < w.heap.size) A n c l) :
    Calls Try.prog 30 #[.slice A n c] w fun e w' => e = .returned (.int .i64 (cpE l)) ∧ Below w.heap.size w w' := by
  have HL := hid h1.len
  have hcap := h1.cap
  unfold maxLen at hcap
  by_cases hbig : 16 < n
  · have HN := hid (show cpE l = 1 from if_neg fun k => by have := k.1; rw [HL.out] at this; omega)
    have d1 : decide ((16 : Int) < (n : Int)) = true := by simp; omega
    go_enter Try.func30, Try.ntmps30
    go_wp2
    go_ret
    exact ⟨ret_num HN.out.symm, Below.refl _ _⟩
  have d1 : decide ((16 : Int) < (n : Int)) = false := by simp; omega
  go_enter Try.func30, Try.ntmps30
  go_wp2
  go_loopw [11] (fun i wr => ∃ j : Nat, j ≤ n ∧ i = .int .i64 j ∧ (l.take j).all (fun c => decide (CavOk c)) = true ∧ Below w.heap.size w wr) (fun i _ => n - (intOf i).toNat)
  case atStart => exact ⟨0, Nat.zero_le _, rfl, by simp, Below.refl _ _⟩
  case round =>
    obtain ⟨j, hj, rfl, hpre, hbel⟩ := hrel
    have HP := hid hpre
    clear hpre
    by_cases hlt : j < n
    · obtain ⟨b1, o1, hx1, rfl, hb1, t1, t2, t3, hw⟩ := cav_at h1 hlt
      have q1 := (hbel.cell (p := ⟨b1, o1 + j * 3, none⟩) hb1).trans t1
      have q2 := (hbel.cell (p := ⟨b1, o1 + j * 3 + 1, none⟩) hb1).trans t2
      have q3 := (hbel.cell (p := ⟨b1, o1 + j * 3 + 2, none⟩) hb1).trans t3
      have HT2 := hid (take_allC (p := fun c => decide (CavOk c)) hx1)
      have hbw : Below wr.heap.size wr (wr.alloc (Obj.cells #[.int .i64 l[j].Kind, .int .u64 l[j].A, .int .u64 l[j].B] 24)) := bel_alloc (Below.refl _ _) _
      have hba := bel_call hbel hbw
      have HCK := hid (cCheck_any #[.int .i64 l[j].Kind, .int .u64 l[j].A, .int .u64 l[j].B] (fun _ => True) l[j] (wr.alloc (Obj.cells #[.int .i64 l[j].Kind, .int .u64 l[j].A, .int .u64 l[j].B] 24)) (rep_Caveat.2 ⟨rfl, hw⟩))
      clear t1 t2 t3 hbw
      rcases cavE_is (c := l[j]) with ⟨hE, hok⟩ | ⟨hE, hok⟩
      · rw [hE] at HCK
        have HN1 := hid (show (l.take (j + 1)).all (fun c => decide (CavOk c)) = true from by rw [HT2.out, HP.out, decide_eq_true hok]; rfl)
        clear hE hok
        go_wp2_with fail
        refine HCK.out.mono ?_
        rintro e w2 ⟨rfl, hb2⟩
        have HB3 := bel_call hba hb2
        clear hb2 hba
        go_wp2
        go_roundw
        case rel => exact ⟨j + 1, by omega, by go_num, HN1.out, HB3⟩
        case measure => simp [intOf]; omega
      · rw [hE] at HCK
        have HN := hid (show cpE l = 1 from if_neg fun k => by
          have := cavsB_bad hx1 hok
          rw [k.2] at this
          cases this)
        clear hE hok
        go_wp2_with fail
        refine HCK.out.mono ?_
        rintro e w2 ⟨rfl, hb2⟩
        go_wp2
        go_ret
        exact ⟨ret_num HN.out.symm, bel_call hba hb2⟩
    · have HTK := hid (show l.take j = l from List.take_of_length_le (by rw [HL.out]; omega))
      have HN := hid (show cpE l = 0 from if_pos ⟨by rw [HL.out]; omega, by have := HP.out; rwa [HTK.out] at this⟩)
      go_wp2
      go_ret
      exact ⟨ret_num HN.out.symm, hbel⟩
end Go.Proofs.Ytikfdfdancgnpaa
