/-
  SameBytes, SameNumbers.
-/
import Derived.Test.YtannjlejghmfpaaBigsize
namespace Go.Proofs.Ytannjlejghmfpaa
open Go.RowKit Go.WalkArith

theorem take_same {xs ys : List Int} {j : Nat} (hx : j < xs.length) (hy : j < ys.length) (h : xs.take j = ys.take j) (e : nth xs j = nth ys j) : xs.take (j + 1) = ys.take (j + 1) := by
  rw [List.take_succ_eq_append_getElem hx, List.take_succ_eq_append_getElem hy, h, ← nth_get hx, ← nth_get hy, e]

end Go.Proofs.Ytannjlejghmfpaa
