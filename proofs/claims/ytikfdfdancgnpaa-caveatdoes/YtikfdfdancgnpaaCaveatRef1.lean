/-
  The contracts of the document's small answers of layer 6: which caveat, and which use, may be, whether a number has a bit.
-/
import Derived.Test.YtikfdfdancgnpaaCaveatMath
import Derived.Test.YtikfdfdancgnpaaBigsizeRefAll
import Derived.Test.YtikfdfdancgnpaaRet
import Derived.Test.YtikfdfdancgnpaaStd
import Derived.OneCell
import Derived.Deep.Cut
namespace Go.Proofs.Ytikfdfdancgnpaa
open Go.RowKit Go.WalkArith

theorem cavE_is {c : Cav} : (cavE c = 0 ∧ CavOk c) ∨ (cavE c = 1 ∧ ¬ CavOk c) := by
  unfold cavE
  by_cases h : CavOk c
  · exact .inl ⟨if_pos h, h⟩
  · exact .inr ⟨if_neg h, h⟩
theorem cavE_of {k a b : Int} {e : Int} (h : (e = 0 ∧ CavOk ⟨k, a, b⟩) ∨ (e = 1 ∧ ¬ CavOk ⟨k, a, b⟩)) : cavE ⟨k, a, b⟩ = e := by
  unfold cavE
  rcases h with ⟨rfl, h⟩ | ⟨rfl, h⟩
  · exact if_pos h
  · exact if_neg h

set_option maxHeartbeats 2000000 in
theorem refCheckC_any (s : Array Value) (S : Nat → Prop) (c : Cav) (w : World) (h : lay_Caveat.rep w S c s.toList) :
    Calls Try.prog 19 #[.agg s] w fun e w' => e = .returned (.int .i64 (cavE c)) ∧ Below w.heap.size w w' := by
  obtain ⟨rfl, hw⟩ := agg_Caveat h
  clear h
  have bd := cav_bd hw
  clear hw
  obtain ⟨k, a, b⟩ := c
  simp only at bd ⊢
  have hb0 : Below w.heap.size w (w.alloc (Obj.cells #[.int .i64 k, .int .u64 a, .int .u64 b] 24)) := bel_alloc (Below.refl _ _) _
  have HGO : ∀ e : Int, ((e = 0 ∧ CavOk ⟨k, a, b⟩) ∨ (e = 1 ∧ ¬ CavOk ⟨k, a, b⟩)) → Hid (cavE ⟨k, a, b⟩ = e) := fun e h => hid (cavE_of h)
  rcases (show k < 1 ∨ 5 < k ∨ k = 1 ∨ k = 2 ∨ k = 3 ∨ k = 4 ∨ k = 5 by omega) with hk | hk | hk | hk | hk | hk | hk
  · have HE := HGO 1 (.inr ⟨rfl, fun q => by have : (1 : Int) ≤ k := q.1; omega⟩)
    clear HGO
    go_enter Try.func19, Try.ntmps19
    go_wp2
    go_ret
    exact ⟨ret_num HE.out.symm, hb0⟩
  · have HE := HGO 1 (.inr ⟨rfl, fun q => by have : k ≤ 5 := q.2.1; omega⟩)
    have d1 : decide (k < 1) = false := by simp; omega
    clear HGO
    go_enter Try.func19, Try.ntmps19
    go_wp2
    go_ret
    exact ⟨ret_num HE.out.symm, hb0⟩
  · subst hk
    by_cases hb : b = 0
    · have HE := HGO 0 (.inl ⟨rfl, by refine ⟨?_, ?_, ?_, ?_, ?_⟩ <;> simp <;> omega⟩)
      subst hb
      clear HGO
      go_enter Try.func19, Try.ntmps19
      go_wp2
      go_ret
      exact ⟨ret_num HE.out.symm, hb0⟩
    · have HE := HGO 1 (.inr ⟨rfl, fun q => hb (q.2.2.2.2 (by show (1 : Int) ≠ 4; decide))⟩)
      have d4 : (b != 0) = true := by simpa using hb
      clear HGO
      go_enter Try.func19, Try.ntmps19
      go_wp2
      go_ret
      exact ⟨ret_num HE.out.symm, hb0⟩
  · subst hk
    by_cases ha : a ≤ 65535
    · by_cases hb : b = 0
      · have HE := HGO 0 (.inl ⟨rfl, by refine ⟨?_, ?_, ?_, ?_, ?_⟩ <;> simp <;> omega⟩)
        have d2 : decide ((65535 : Int) < a) = false := by simp; omega
        subst hb
        clear HGO
        go_enter Try.func19, Try.ntmps19
        go_wp2
        go_ret
        exact ⟨ret_num HE.out.symm, hb0⟩
      · have HE := HGO 1 (.inr ⟨rfl, fun q => hb (q.2.2.2.2 (by show (2 : Int) ≠ 4; decide))⟩)
        have d2 : decide ((65535 : Int) < a) = false := by simp; omega
        have d4 : (b != 0) = true := by simpa using hb
        clear HGO
        go_enter Try.func19, Try.ntmps19
        go_wp2
        go_ret
        exact ⟨ret_num HE.out.symm, hb0⟩
    · have HE := HGO 1 (.inr ⟨rfl, fun q => by have : a ≤ 65535 := q.2.2.1 rfl; omega⟩)
      have d2 : decide ((65535 : Int) < a) = true := by simp; omega
      clear HGO
      go_enter Try.func19, Try.ntmps19
      go_wp2
      go_ret
      exact ⟨ret_num HE.out.symm, hb0⟩
  · subst hk
    by_cases ha : a ≤ 4611686018427387904
    · by_cases hb : b = 0
      · have HE := HGO 0 (.inl ⟨rfl, by refine ⟨?_, ?_, ?_, ?_, ?_⟩ <;> simp <;> omega⟩)
        have d3 : decide ((4611686018427387904 : Int) < a) = false := by simp; omega
        subst hb
        clear HGO
        go_enter Try.func19, Try.ntmps19
        go_wp2
        go_ret
        exact ⟨ret_num HE.out.symm, hb0⟩
      · have HE := HGO 1 (.inr ⟨rfl, fun q => hb (q.2.2.2.2 (by show (3 : Int) ≠ 4; decide))⟩)
        have d3 : decide ((4611686018427387904 : Int) < a) = false := by simp; omega
        have d4 : (b != 0) = true := by simpa using hb
        clear HGO
        go_enter Try.func19, Try.ntmps19
        go_wp2
        go_ret
        exact ⟨ret_num HE.out.symm, hb0⟩
    · have HE := HGO 1 (.inr ⟨rfl, fun q => by have : a ≤ 4611686018427387904 := q.2.2.2.1 (.inl rfl); omega⟩)
      have d3 : decide ((4611686018427387904 : Int) < a) = true := by simp; omega
      clear HGO
      go_enter Try.func19, Try.ntmps19
      go_wp2
      go_ret
      exact ⟨ret_num HE.out.symm, hb0⟩
  · subst hk
    by_cases ha : a ≤ 4611686018427387904
    · have HE := HGO 0 (.inl ⟨rfl, by refine ⟨?_, ?_, ?_, ?_, ?_⟩ <;> simp <;> omega⟩)
      have d3 : decide ((4611686018427387904 : Int) < a) = false := by simp; omega
      clear HGO
      go_enter Try.func19, Try.ntmps19
      go_wp2
      go_ret
      exact ⟨ret_num HE.out.symm, hb0⟩
    · have HE := HGO 1 (.inr ⟨rfl, fun q => by have : a ≤ 4611686018427387904 := q.2.2.2.1 (.inr rfl); omega⟩)
      have d3 : decide ((4611686018427387904 : Int) < a) = true := by simp; omega
      clear HGO
      go_enter Try.func19, Try.ntmps19
      go_wp2
      go_ret
      exact ⟨ret_num HE.out.symm, hb0⟩
  · subst hk
    by_cases hb : b = 0
    · have HE := HGO 0 (.inl ⟨rfl, by refine ⟨?_, ?_, ?_, ?_, ?_⟩ <;> simp <;> omega⟩)
      subst hb
      clear HGO
      go_enter Try.func19, Try.ntmps19
      go_wp2
      go_ret
      exact ⟨ret_num HE.out.symm, hb0⟩
    · have HE := HGO 1 (.inr ⟨rfl, fun q => hb (q.2.2.2.2 (by show (5 : Int) ≠ 4; decide))⟩)
      have d4 : (b != 0) = true := by simpa using hb
      clear HGO
      go_enter Try.func19, Try.ntmps19
      go_wp2
      go_ret
      exact ⟨ret_num HE.out.symm, hb0⟩

set_option maxHeartbeats 1000000 in
theorem refMay_any (s : Array Value) (S : Nat → Prop) (u : Usx) (w : World) (h : lay_Use.rep w S u s.toList) :
    Calls Try.prog 27 #[.agg s] w fun e w' => e = .returned (.bool (useB u)) ∧ Below w.heap.size w w' := by
  obtain ⟨rfl, hw⟩ := agg_Use h
  clear h
  have b1 := bounds_i64 hw.method
  have b2 := bounds_u64 hw.amount
  clear hw
  obtain ⟨t, m, am, wh⟩ := u
  simp only at b1 b2 ⊢
  have hb0 : Below w.heap.size w (w.alloc (Obj.cells #[.int .u64 t, .int .i64 m, .int .u64 am, .int .u64 wh] 27)) := bel_alloc (Below.refl _ _) _
  have HU := hid (show useB ⟨t, m, am, wh⟩ = (decide (0 ≤ m) && decide (m ≤ 15) && decide (am ≤ 4611686018427387904)) from by
    unfold useB UseOk
    rw [Bool.eq_iff_iff]
    simp only [Bool.and_eq_true, decide_eq_true_eq, and_assoc]
    exact decide_eq_true_iff)
  by_cases h1 : 0 ≤ m
  · have d1 : decide (0 ≤ m) = true := by simpa using h1
    by_cases h2 : m ≤ 15
    · have d2 : decide (m ≤ 15) = true := by simpa using h2
      have HR := hid (show decide (am ≤ 4611686018427387904) = useB ⟨t, m, am, wh⟩ from by rw [HU.out, d1, d2]; rfl)
      go_enter Try.func27, Try.ntmps27
      go_wp2
      go_ret
      exact ⟨ret_bool HR.out, hb0⟩
    · have d2 : decide (m ≤ 15) = false := by simpa using h2
      have HR := hid (show false = useB ⟨t, m, am, wh⟩ from by rw [HU.out, d1, d2]; rfl)
      go_enter Try.func27, Try.ntmps27
      go_wp2
      go_ret
      exact ⟨ret_bool HR.out, hb0⟩
  · have d1 : decide (0 ≤ m) = false := by simpa using h1
    have HR := hid (show false = useB ⟨t, m, am, wh⟩ from by rw [HU.out, d1]; rfl)
    go_enter Try.func27, Try.ntmps27
    go_wp2
    go_ret
    exact ⟨ret_bool HR.out, hb0⟩

set_option maxHeartbeats 1000000 in
theorem refBit_any (n : Int) (i : Nat) (w : World) (h0 : 0 ≤ n) (h1 : n ≤ 18446744073709551615) (hi : i ≤ 1000) :
    Calls Try.prog 28 #[.int .u64 n, .int .i64 i] w fun e w' => e = .returned (.bool (bitN n i)) ∧ w = w' := by
  go_enter Try.func28, Try.ntmps28
  go_wp2
  go_loop [0, 6] (fun a b => ∃ j : Nat, j ≤ i ∧ b = .int .i64 j ∧ a = .int .u64 (n / 2 ^ j)) (fun _ b => i - (intOf b).toNat)
  case atStart => exact ⟨0, Nat.zero_le _, rfl, by simp⟩
  case round =>
    obtain ⟨j, hj, rfl, rfl⟩ := hrel
    have q1 : 0 ≤ n / 2 ^ j := Int.ediv_nonneg h0 (Int.pow_nonneg (by omega))
    have q2 : n / 2 ^ j ≤ 18446744073709551615 := Int.le_trans (Int.ediv_le_self _ h0) h1
    by_cases hlt : j < i
    · have HN := hid (show n / 2 ^ (j + 1) = n / 2 ^ j / 2 from by rw [Int.pow_succ, Int.ediv_ediv_of_nonneg (Int.pow_nonneg (by omega))])
      generalize n / 2 ^ j = m at *
      have e1 : m.tdiv 2 = m / 2 := Int.tdiv_eq_ediv_of_nonneg q1
      have e2 : IntKind.u64.wrap (m / 2) = m / 2 := IntWalk.u64_in _ (by omega)
      go_wp2
      go_round
      case rel => exact ⟨j + 1, by omega, by go_num, by rw [HN.out]⟩
      case measure => simp [intOf]; omega
    · obtain rfl : j = i := by omega
      have HB := hid (show (n / 2 ^ j % 2 == 1) = bitN n j from rfl)
      generalize n / 2 ^ j = m at *
      have e1 : m.tmod 2 = m % 2 := Int.tmod_eq_emod_of_nonneg q1
      have e2 : IntKind.u64.wrap (m % 2) = m % 2 := IntWalk.u64_in _ (by omega)
      go_wp2
      go_ret
      exact ⟨ret_bool HB.out, rfl⟩
end Go.Proofs.Ytikfdfdancgnpaa
