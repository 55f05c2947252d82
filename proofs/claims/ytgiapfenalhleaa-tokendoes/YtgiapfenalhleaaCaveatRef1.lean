/-
  The contracts of the document's small answers of layer 6: which caveat, and which use, may be, whether a number has a bit.
-/
import Derived.Test.YtgiapfenalhleaaCaveatMath
import Derived.Test.YtgiapfenalhleaaBigsizeRefAll
import Derived.Test.YtgiapfenalhleaaRet
import Derived.Test.YtgiapfenalhleaaStd
import Derived.OneCell
import Derived.Deep.Cut
namespace Go.Proofs.Ytgiapfenalhleaa
open Go.RowKit Go.WalkArith

theorem cavE_is {c : Cav} : (cavE c = 0 ∧ CavOk c) ∨ (cavE c = 1 ∧ ¬ CavOk c) := by
  unfold cavE
  by_cases h : CavOk c
  · exact .inl ⟨if_pos h, h⟩
  · exact .inr ⟨if_neg h, h⟩
theorem cavE_of {k a b : Int} {e : Int} (h : (e = 0 ∧ CavOk ⟨k, a, b⟩) ∨ (e = 1 ∧ ¬ CavOk ⟨k, a, b⟩)) : cavE ⟨k, a, b⟩ = e := by
  unfold cavE
  rcases h with ⟨rfl, h⟩ | ⟨rfl, h⟩
  · exact if_pos h
  · exact if_neg h

set_option maxHeartbeats 2000000 in
theorem refCheckC_any (s : Array Value) (S : Nat → Prop) (c : Cav) (w : World) (h : lay_Caveat.rep w S c s.toList) :
    Calls Try.prog 74 #[.agg s] w fun e w' => e = .returned (.int .i64 (cavE c)) ∧ Below w.heap.size w w' := by
  obtain ⟨rfl, hw⟩ := agg_Caveat h
  clear h
  have bd := cav_bd hw
  clear hw
  obtain ⟨k, a, b⟩ := c
  simp only at bd ⊢
  have hb0 : Below w.heap.size w (w.alloc (Obj.cells #[.int .i64 k, .int .u64 a, .int .u64 b] 30)) := bel_alloc (Below.refl _ _) _
  have HGO : ∀ e : Int, ((e = 0 ∧ CavOk ⟨k, a, b⟩) ∨ (e = 1 ∧ ¬ CavOk ⟨k, a, b⟩)) → Hid (cavE ⟨k, a, b⟩ = e) := fun e h => hid (cavE_of h)
  rcases (show k < 1 ∨ 5 < k ∨ k = 1 ∨ k = 2 ∨ k = 3 ∨ k = 4 ∨ k = 5 by omega) with hk | hk | hk | hk | hk | hk | hk
  · have HE := HGO 1 (.inr ⟨rfl, fun q => by have : (1 : Int) ≤ k := q.1; omega⟩)
    clear HGO
    go_enter Try.func74, Try.ntmps74
    go_wp2
    go_ret
    exact ⟨ret_num HE.out.symm, hb0⟩
  · have HE := HGO 1 (.inr ⟨rfl, fun q => by have : k ≤ 5 := q.2.1; omega⟩)
    have d1 : decide (k < 1) = false := by simp; omega
    clear HGO
    go_enter Try.func74, Try.ntmps74
    go_wp2
    go_ret
    exact ⟨ret_num HE.out.symm, hb0⟩
  · subst hk
    by_cases hb : b = 0
    · have HE := HGO 0 (.inl ⟨rfl, by refine ⟨?_, ?_, ?_, ?_, ?_⟩ <;> simp <;> omega⟩)
      subst hb
      clear HGO
      go_enter Try.func74, Try.ntmps74
      go_wp2
      go_ret
      exact ⟨ret_num HE.out.symm, hb0⟩
    · have HE := HGO 1 (.inr ⟨rfl, fun q => hb (q.2.2.2.2 (by show (1 : Int) ≠ 4; decide))⟩)
      have d4 : (b != 0) = true := by simpa using hb
      clear HGO
      go_enter Try.func74, Try.ntmps74
      go_wp2
      go_ret
      exact ⟨ret_num HE.out.symm, hb0⟩
  · subst hk
    by_cases ha : a ≤ 65535
    · by_cases hb : b = 0
      · have HE := HGO 0 (.inl ⟨rfl, by refine ⟨?_, ?_, ?_, ?_, ?_⟩ <;> simp <;> omega⟩)
        have d2 : decide ((65535 : Int) < a) = false := by simp; omega
        subst hb
        clear HGO
        go_enter Try.func74, Try.ntmps74
        go_wp2
        go_ret
        exact ⟨ret_num HE.out.symm, hb0⟩
      · have HE := HGO 1 (.inr ⟨rfl, fun q => hb (q.2.2.2.2 (by show (2 : Int) ≠ 4; decide))⟩)
        have d2 : decide ((65535 : Int) < a) = false := by simp; omega
        have d4 : (b != 0) = true := by simpa using hb
        clear HGO
        go_enter Try.func74, Try.ntmps74
        go_wp2
        go_ret
        exact ⟨ret_num HE.out.symm, hb0⟩
    · have HE := HGO 1 (.inr ⟨rfl, fun q => by have : a ≤ 65535 := q.2.2.1 rfl; omega⟩)
      have d2 : decide ((65535 : Int) < a) = true := by simp; omega
      clear HGO
      go_enter Try.func74, Try.ntmps74
      go_wp2
      go_ret
      exact ⟨ret_num HE.out.symm, hb0⟩
  · subst hk
    by_cases ha : a ≤ 4611686018427387904
    · by_cases hb : b = 0
      · have HE := HGO 0 (.inl ⟨rfl, by refine ⟨?_, ?_, ?_, ?_, ?_⟩ <;> simp <;> omega⟩)
        have d3 : decide ((4611686018427387904 : Int) < a) = false := by simp; omega
        subst hb
        clear HGO
        go_enter Try.func74, Try.ntmps74
        go_wp2
        go_ret
        exact ⟨ret_num HE.out.symm, hb0⟩
      · have HE := HGO 1 (.inr ⟨rfl, fun q => hb (q.2.2.2.2 (by show (3 : Int) ≠ 4; decide))⟩)
        have d3 : decide ((4611686018427387904 : Int) < a) = false := by simp; omega
        have d4 : (b != 0) = true := by simpa using hb
        clear HGO
        go_enter Try.func74, Try.ntmps74
        go_wp2
        go_ret
        exact ⟨ret_num HE.out.symm, hb0⟩
    · have HE := HGO 1 (.inr ⟨rfl, fun q => by have : a ≤ 4611686018427387904 := q.2.2.2.1 (.inl rfl); omega⟩)
      have d3 : decide ((4611686018427387904 : Int) < a) = true := by simp; omega
      clear HGO
      go_enter Try.func74, Try.ntmps74
      go_wp2
      go_ret
      exact ⟨ret_num HE.out.symm, hb0⟩
  · subst hk
    by_cases ha : a ≤ 4611686018427387904
    · have HE := HGO 0 (.inl ⟨rfl, by refine ⟨?_, ?_, ?_, ?_, ?_⟩ <;> simp <;> omega⟩)
      have d3 : decide ((4611686018427387904 : Int) < a) = false := by simp; omega
      clear HGO
      go_enter Try.func74, Try.ntmps74
      go_wp2
      go_ret
      exact ⟨ret_num HE.out.symm, hb0⟩
    · have HE := HGO 1 (.inr ⟨rfl, fun q => by have : a ≤ 4611686018427387904 := q.2.2.2.1 (.inr rfl); omega⟩)
      have d3 : decide ((4611686018427387904 : Int) < a) = true := by simp; omega
      clear HGO
      go_enter Try.func74, Try.ntmps74
      go_wp2
      go_ret
      exact ⟨ret_num HE.out.symm, hb0⟩
  · subst hk
    by_cases hb : b = 0
    · have HE := HGO 0 (.inl ⟨rfl, by refine ⟨?_, ?_, ?_, ?_, ?_⟩ <;> simp <;> omega⟩)
      subst hb
      clear HGO
      go_enter Try.func74, Try.ntmps74
      go_wp2
      go_ret
      exact ⟨ret_num HE.out.symm, hb0⟩
    · have HE := HGO 1 (.inr ⟨rfl, fun q => hb (q.2.2.2.2 (by show (5 : Int) ≠ 4; decide))⟩)
      have d4 : (b != 0) = true := by simpa using hb
      clear HGO
      go_enter Try.func74, Try.ntmps74
      go_wp2
      go_ret
      exact ⟨ret_num HE.out.symm, hb0⟩

end Go.Proofs.Ytgiapfenalhleaa
