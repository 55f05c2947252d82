/-
  SameBytes, SameNumbers.
-/
import Derived.Test.YtgiapfenalhleaaBigsize
namespace Go.Proofs.Ytgiapfenalhleaa
open Go.RowKit Go.WalkArith

set_option maxHeartbeats 400000 in
theorem sameBytes_any (A1 A2 : Option Addr) (n1 c1 n2 c2 B1 B2 : Nat) (xs ys : List Int) (w : World) (h1 : Rd w B1 .u8 A1 n1 c1 xs) (h2 : Rd w B2 .u8 A2 n2 c2 ys) :
    Calls Try.prog 29 #[.slice A1 n1 c1, .slice A2 n2 c2] w fun e w' => e = .returned (.bool (decide (xs = ys))) ∧ w = w' := by
  have k1 := h1.str (P := Try.prog) Try.underlying46 Try.underlying5 Try.underlying9
  have k2 := h2.str (P := Try.prog) Try.underlying46 Try.underlying5 Try.underlying9
  go_enter Try.func29, Try.ntmps29
  go_wp2
  go_ret
  exact ⟨ret_bool (str_eq (wf_bytes h1.wf) (wf_bytes h2.wf)), rfl⟩
theorem take_same {xs ys : List Int} {j : Nat} (hx : j < xs.length) (hy : j < ys.length) (h : xs.take j = ys.take j) (e : nth xs j = nth ys j) : xs.take (j + 1) = ys.take (j + 1) := by
  rw [List.take_succ_eq_append_getElem hx, List.take_succ_eq_append_getElem hy, h, ← nth_get hx, ← nth_get hy, e]

end Go.Proofs.Ytgiapfenalhleaa
