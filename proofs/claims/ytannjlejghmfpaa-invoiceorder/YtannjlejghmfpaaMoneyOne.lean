/-
  Package money: one amount, checked.
-/
import Derived.Test.YtannjlejghmfpaaMoney1
import Derived.Test.YtannjlejghmfpaaMoneyRef
namespace Go.Proofs.Ytannjlejghmfpaa
open Go.RowKit Go.WalkArith

theorem rd_oneC (w : World) (a : Int) (b : Nat) (hb : b = w.heap.size) (ha : (Lit.int .u64 a).wf = true) : Rd (w.alloc (.cells #[.int .u64 a] 23)) (w.alloc (.cells #[.int .u64 a] 23)).heap.size .u64 (some ⟨b, 0, none⟩) 1 1 [a] := by
  subst hb
  exact ⟨rfl, Nat.le_refl _, by simp [maxLen], by simpa using ha, by simp, fun _ => ⟨w.heap.size, 0, rfl, by simp, fun j hj => by
    match j, hj with
    | 0, _ => rw [World.cell?_alloc_at _ _ _ _ rfl]; rfl⟩⟩
/-- One amount, checked. -/
theorem mOne_any (a : Int) (b : Nat) (w : World) (hb : b = w.heap.size) (ha : (Lit.int .u64 a).wf = true) :
    Calls Try.prog 43 #[.slice (some ⟨b, 0, none⟩) 1 1] (w.alloc (.cells #[.int .u64 a] 23)) fun e w' => e = .returned (.int .i64 (if a ≤ 4611686018427387904 then 0 else 1)) ∧ Below w.heap.size w w' := by
  refine (mCheck_any _ _ _ _ [a] _ (rd_oneC w a b hb ha) (Nat.le_refl _)).mono ?_
  rintro e w1 ⟨rfl, hb1⟩
  exact ⟨by rw [chkM_one]; rfl, bel_call (bel_alloc (Below.refl _ _) _) hb1⟩

end Go.Proofs.Ytannjlejghmfpaa
