/-
  The contracts of package caveat's own small functions: which caveat, which use, and which row of caveats may be, whether one holds.
-/
import Derived.Test.YtikfdfdancgnpaaCaveatRef3
import Derived.Test.YtikfdfdancgnpaaMoney1
namespace Go.Proofs.Ytikfdfdancgnpaa
open Go.RowKit Go.WalkArith

theorem rd_oneC (w : World) (a : Int) (b : Nat) (hb : b = w.heap.size) (ha : (Lit.int .u64 a).wf = true) : Rd (w.alloc (.cells #[.int .u64 a] 22)) (w.alloc (.cells #[.int .u64 a] 22)).heap.size .u64 (some ⟨b, 0, none⟩) 1 1 [a] := by
  subst hb
  exact ⟨rfl, Nat.le_refl _, by simp [maxLen], by simpa using ha, by simp, fun _ => ⟨w.heap.size, 0, rfl, by simp, fun j hj => by
    match j, hj with
    | 0, _ => rw [World.cell?_alloc_at _ _ _ _ rfl]; rfl⟩⟩
/-- One amount, checked. -/
theorem mOne_any (a : Int) (b : Nat) (w : World) (hb : b = w.heap.size) (ha : (Lit.int .u64 a).wf = true) :
    Calls Try.prog 29 #[.slice (some ⟨b, 0, none⟩) 1 1] (w.alloc (.cells #[.int .u64 a] 22)) fun e w' => e = .returned (.int .i64 (if a ≤ 4611686018427387904 then 0 else 1)) ∧ Below w.heap.size w w' := by
  refine (mCheck_any _ _ _ _ [a] _ (rd_oneC w a b hb ha) (Nat.le_refl _)).mono ?_
  rintro e w1 ⟨rfl, hb1⟩
  exact ⟨by rw [chkM_one]; rfl, bel_call (bel_alloc (Below.refl _ _) _) hb1⟩

set_option maxHeartbeats 2000000 in
theorem cCheck_any (s : Array Value) (S : Nat → Prop) (c : Cav) (w : World) (h : lay_Caveat.rep w S c s.toList) :
    Calls Try.prog 18 #[.agg s] w fun e w' => e = .returned (.int .i64 (cavE c)) ∧ Below w.heap.size w w' := by
  obtain ⟨rfl, hw⟩ := agg_Caveat h
  clear h
  have bd := cav_bd hw
  have hwa := hw.a
  clear hw
  obtain ⟨k, a, b⟩ := c
  simp only at bd hwa ⊢
  have hb0 : Below w.heap.size w (w.alloc (Obj.cells #[.int .i64 k, .int .u64 a, .int .u64 b] 24)) := bel_alloc (Below.refl _ _) _
  have HGO : ∀ e : Int, ((e = 0 ∧ CavOk ⟨k, a, b⟩) ∨ (e = 1 ∧ ¬ CavOk ⟨k, a, b⟩)) → Hid (cavE ⟨k, a, b⟩ = e) := fun e h => hid (cavE_of h)
  have HM := hid (mOne_any a (w.heap.size + 1) (w.alloc (Obj.cells #[.int .i64 k, .int .u64 a, .int .u64 b] 24)) (by simp) hwa)
  rcases (show k < 1 ∨ 5 < k ∨ k = 1 ∨ k = 2 ∨ k = 3 ∨ k = 4 ∨ k = 5 by omega) with hk | hk | hk | hk | hk | hk | hk
  · have HE := HGO 1 (.inr ⟨rfl, fun q => by have : (1 : Int) ≤ k := q.1; omega⟩)
    have e1 : (k == 1) = false := by simp; omega
    have e2 : (k == 2) = false := by simp; omega
    have e3 : (k == 3) = false := by simp; omega
    have e4 : (k == 4) = false := by simp; omega
    have e5 : (k == 5) = false := by simp; omega
    have n4 : (k != 4) = true := by simp; omega
    clear hk
    by_cases hb : b = 0
    · subst hb
      clear HGO HM
      go_enter Try.func18, Try.ntmps18
      go_wp2
      go_ret
      exact ⟨ret_num HE.out.symm, hb0⟩
    · have d4 : (b != 0) = true := by simpa using hb
      clear HGO HM
      go_enter Try.func18, Try.ntmps18
      go_wp2
      go_ret
      exact ⟨ret_num HE.out.symm, hb0⟩
  · have HE := HGO 1 (.inr ⟨rfl, fun q => by have : k ≤ 5 := q.2.1; omega⟩)
    have e1 : (k == 1) = false := by simp; omega
    have e2 : (k == 2) = false := by simp; omega
    have e3 : (k == 3) = false := by simp; omega
    have e4 : (k == 4) = false := by simp; omega
    have e5 : (k == 5) = false := by simp; omega
    have n4 : (k != 4) = true := by simp; omega
    clear hk
    by_cases hb : b = 0
    · subst hb
      clear HGO HM
      go_enter Try.func18, Try.ntmps18
      go_wp2
      go_ret
      exact ⟨ret_num HE.out.symm, hb0⟩
    · have d4 : (b != 0) = true := by simpa using hb
      clear HGO HM
      go_enter Try.func18, Try.ntmps18
      go_wp2
      go_ret
      exact ⟨ret_num HE.out.symm, hb0⟩
  · subst hk
    by_cases hb : b = 0
    rotate_left
    · have HE := HGO 1 (.inr ⟨rfl, fun q => hb (q.2.2.2.2 (by show (1 : Int) ≠ 4; decide))⟩)
      have d4 : (b != 0) = true := by simpa using hb
      clear HGO HM
      go_enter Try.func18, Try.ntmps18
      go_wp2
      go_ret
      exact ⟨ret_num HE.out.symm, hb0⟩
    subst hb
    have HE := HGO 0 (.inl ⟨rfl, by refine ⟨?_, ?_, ?_, ?_, ?_⟩ <;> simp <;> omega⟩)
    clear HGO HM
    go_enter Try.func18, Try.ntmps18
    go_wp2
    go_ret
    exact ⟨ret_num HE.out.symm, hb0⟩
  · subst hk
    by_cases hb : b = 0
    rotate_left
    · have HE := HGO 1 (.inr ⟨rfl, fun q => hb (q.2.2.2.2 (by show (2 : Int) ≠ 4; decide))⟩)
      have d4 : (b != 0) = true := by simpa using hb
      clear HGO HM
      go_enter Try.func18, Try.ntmps18
      go_wp2
      go_ret
      exact ⟨ret_num HE.out.symm, hb0⟩
    subst hb
    by_cases ha : a ≤ 65535
    · have HE := HGO 0 (.inl ⟨rfl, by refine ⟨?_, ?_, ?_, ?_, ?_⟩ <;> simp <;> omega⟩)
      have d2 : a / 65536 = 0 := by omega
      clear HGO HM
      go_enter Try.func18, Try.ntmps18
      go_wp2
      go_ret
      exact ⟨ret_num HE.out.symm, hb0⟩
    · have HE := HGO 1 (.inr ⟨rfl, fun q => by have : a ≤ 65535 := q.2.2.1 rfl; omega⟩)
      have d2 : (a / 65536 == 0) = false := by simp; omega
      clear HGO HM
      go_enter Try.func18, Try.ntmps18
      go_wp2
      go_ret
      exact ⟨ret_num HE.out.symm, hb0⟩
  · subst hk
    by_cases hb : b = 0
    rotate_left
    · have HE := HGO 1 (.inr ⟨rfl, fun q => hb (q.2.2.2.2 (by show (3 : Int) ≠ 4; decide))⟩)
      have d4 : (b != 0) = true := by simpa using hb
      clear HGO HM
      go_enter Try.func18, Try.ntmps18
      go_wp2
      go_ret
      exact ⟨ret_num HE.out.symm, hb0⟩
    subst hb
    by_cases ha : a ≤ 4611686018427387904
    · have HE := HGO 0 (.inl ⟨rfl, by refine ⟨?_, ?_, ?_, ?_, ?_⟩ <;> simp <;> omega⟩)
      rw [if_pos ha] at HM
      clear HGO
      go_enter Try.func18, Try.ntmps18
      go_wp2_with fail
      refine HM.out.mono ?_
      rintro e w1 ⟨rfl, hb1⟩
      go_wp2
      go_ret
      exact ⟨ret_num HE.out.symm, bel_call hb0 hb1⟩
    · have HE := HGO 1 (.inr ⟨rfl, fun q => by have : a ≤ 4611686018427387904 := q.2.2.2.1 (.inl rfl); omega⟩)
      rw [if_neg ha] at HM
      clear HGO
      go_enter Try.func18, Try.ntmps18
      go_wp2_with fail
      refine HM.out.mono ?_
      rintro e w1 ⟨rfl, hb1⟩
      go_wp2
      go_ret
      exact ⟨ret_num HE.out.symm, bel_call hb0 hb1⟩
  · subst hk
    by_cases hb : b = 0
    · subst hb
      by_cases ha : a ≤ 4611686018427387904
      · have HE := HGO 0 (.inl ⟨rfl, by refine ⟨?_, ?_, ?_, ?_, ?_⟩ <;> simp <;> omega⟩)
        rw [if_pos ha] at HM
        clear HGO
        go_enter Try.func18, Try.ntmps18
        go_wp2_with fail
        refine HM.out.mono ?_
        rintro e w1 ⟨rfl, hb1⟩
        go_wp2
        go_ret
        exact ⟨ret_num HE.out.symm, bel_call hb0 hb1⟩
      · have HE := HGO 1 (.inr ⟨rfl, fun q => by have : a ≤ 4611686018427387904 := q.2.2.2.1 (.inr rfl); omega⟩)
        rw [if_neg ha] at HM
        clear HGO
        go_enter Try.func18, Try.ntmps18
        go_wp2_with fail
        refine HM.out.mono ?_
        rintro e w1 ⟨rfl, hb1⟩
        go_wp2
        go_ret
        exact ⟨ret_num HE.out.symm, bel_call hb0 hb1⟩
    · have d4 : (b != 0) = true := by simpa using hb
      by_cases ha : a ≤ 4611686018427387904
      · have HE := HGO 0 (.inl ⟨rfl, by refine ⟨?_, ?_, ?_, ?_, ?_⟩ <;> simp <;> omega⟩)
        rw [if_pos ha] at HM
        clear HGO
        go_enter Try.func18, Try.ntmps18
        go_wp2_with fail
        refine HM.out.mono ?_
        rintro e w1 ⟨rfl, hb1⟩
        go_wp2
        go_ret
        exact ⟨ret_num HE.out.symm, bel_call hb0 hb1⟩
      · have HE := HGO 1 (.inr ⟨rfl, fun q => by have : a ≤ 4611686018427387904 := q.2.2.2.1 (.inr rfl); omega⟩)
        rw [if_neg ha] at HM
        clear HGO
        go_enter Try.func18, Try.ntmps18
        go_wp2_with fail
        refine HM.out.mono ?_
        rintro e w1 ⟨rfl, hb1⟩
        go_wp2
        go_ret
        exact ⟨ret_num HE.out.symm, bel_call hb0 hb1⟩
  · subst hk
    by_cases hb : b = 0
    rotate_left
    · have HE := HGO 1 (.inr ⟨rfl, fun q => hb (q.2.2.2.2 (by show (5 : Int) ≠ 4; decide))⟩)
      have d4 : (b != 0) = true := by simpa using hb
      clear HGO HM
      go_enter Try.func18, Try.ntmps18
      go_wp2
      go_ret
      exact ⟨ret_num HE.out.symm, hb0⟩
    subst hb
    have HE := HGO 0 (.inl ⟨rfl, by refine ⟨?_, ?_, ?_, ?_, ?_⟩ <;> simp <;> omega⟩)
    clear HGO HM
    go_enter Try.func18, Try.ntmps18
    go_wp2
    go_ret
    exact ⟨ret_num HE.out.symm, hb0⟩

def useE (u : Usx) : Int := if UseOk u then 0 else 1

set_option maxHeartbeats 1000000 in
theorem written_any (k : Int) (w : World) :
    Calls Try.prog 23 #[.int .u64 k] w fun e w' => e = .returned (.int .i64 (if k = 4 then 3 else 2)) ∧ w = w' := by
  by_cases h : k = 4
  · subst h
    go_enter Try.func23, Try.ntmps23
    go_wp2
    go_ret
    exact ⟨rfl, rfl⟩
  · rw [if_neg h]
    have d : (k == 4) = false := by simpa using h
    go_enter Try.func23, Try.ntmps23
    go_wp2
    go_ret
    exact ⟨rfl, rfl⟩

set_option maxHeartbeats 1000000 in
theorem checkUse_any (s : Array Value) (S : Nat → Prop) (u : Usx) (w : World) (h : lay_Use.rep w S u s.toList) :
    Calls Try.prog 31 #[.agg s] w fun e w' => e = .returned (.int .i64 (useE u)) ∧ Below w.heap.size w w' := by
  obtain ⟨rfl, hw⟩ := agg_Use h
  clear h
  have b1 := bounds_i64 hw.method
  have b2 := bounds_u64 hw.amount
  have hwa := hw.amount
  clear hw
  obtain ⟨t, m, am, wh⟩ := u
  simp only at b1 b2 hwa ⊢
  have hb0 : Below w.heap.size w (w.alloc (Obj.cells #[.int .u64 t, .int .i64 m, .int .u64 am, .int .u64 wh] 27)) := bel_alloc (Below.refl _ _) _
  have HM := hid (mOne_any am (w.heap.size + 1) (w.alloc (Obj.cells #[.int .u64 t, .int .i64 m, .int .u64 am, .int .u64 wh] 27)) (by simp) hwa)
  by_cases h1 : m < 0
  · have d1 : decide (m < 0) = true := by simpa using h1
    have HE := hid (show useE ⟨t, m, am, wh⟩ = 1 from if_neg fun q => by have : 0 ≤ m := q.1; omega)
    clear h1 HM
    go_enter Try.func31, Try.ntmps31
    go_wp2
    go_ret
    exact ⟨ret_num HE.out.symm, hb0⟩
  have d1 : decide (m < 0) = false := by simpa using h1
  by_cases h2 : 16 ≤ m
  · have d2 : decide (16 ≤ m) = true := by simpa using h2
    have HE := hid (show useE ⟨t, m, am, wh⟩ = 1 from if_neg fun q => by have : m ≤ 15 := q.2.1; omega)
    clear h1 h2 HM
    go_enter Try.func31, Try.ntmps31
    go_wp2
    go_ret
    exact ⟨ret_num HE.out.symm, hb0⟩
  have d2 : decide (16 ≤ m) = false := by simpa using h2
  have HE := hid (show (if am ≤ 4611686018427387904 then (0 : Int) else 1) = useE ⟨t, m, am, wh⟩ from by
    unfold useE
    have : UseOk ⟨t, m, am, wh⟩ ↔ am ≤ 4611686018427387904 := ⟨fun q => q.2.2, fun q => ⟨by show 0 ≤ m; omega, by show m ≤ 15; omega, q⟩⟩
    simp only [this])
  clear h1 h2
  generalize (if am ≤ 4611686018427387904 then (0 : Int) else 1) = z at *
  go_enter Try.func31, Try.ntmps31
  go_wp2_with fail
  refine HM.out.mono ?_
  rintro e w1 ⟨rfl, hb1⟩
  go_wp2
  go_ret
  exact ⟨ret_num HE.out, bel_call hb0 hb1⟩
end Go.Proofs.Ytikfdfdancgnpaa
