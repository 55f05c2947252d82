/-
  Small words for any struct: rows compared one by one, draws added.
-/
import Derived.Test.YtannjlejghmfpaaStd
import Derived.Test.YtannjlejghmfpaaOwn3
namespace Go.Proofs.Ytannjlejghmfpaa
open Go.RowKit Go.WalkArith

theorem drew_add_any (w : World) (m n : Nat) : (w.drewN m).drewN n = w.drewN (m + n) := by
  simp [World.drewN, Nat.add_assoc]
theorem take_same_any {α : Type} {l o : List α} {j : Nat} (hx : j < l.length) (hy : j < o.length) (h : l.take j = o.take j) (e : l[j] = o[j]) : l.take (j + 1) = o.take (j + 1) := by
  rw [List.take_succ_eq_append_getElem hx, List.take_succ_eq_append_getElem hy, h, e]
/-- Without the first one of some kind. -/
theorem eraseP_at {α : Type} {p : α → Bool} : ∀ {l : List α} {j : Nat} (hj : j < l.length), (∀ i (hi : i < l.length), i < j → p l[i] = false) → p l[j] = true → l.eraseP p = l.take j ++ l.drop (j + 1)
  | x :: l, 0, _, _, h => by rw [List.eraseP_cons_of_pos (by simpa using h)]; rfl
  | x :: l, j + 1, hj, h0, h => by
    have hx : p x = false := by have := h0 0 (by simp) (by omega); simpa using this
    rw [List.eraseP_cons_of_neg (by simp [hx]), eraseP_at (l := l) (j := j) (by simpa using hj) (fun i hi hij => by have := h0 (i + 1) (by simpa using hi) (by omega); simpa using this) (by simpa using h)]
    rfl
section
variable {α : Type} {L : Lay α} {w W : World} {lo : Nat} {A : Option Addr} {n c : Nat} {xs : List α}
theorem Sl.frT (h : Sl L w (From w lo) A n c xs) (hb : Below w.heap.size w W) : Sl L W (From W lo) A n c xs := (h.keep fun _ hp => hb.cell hp.2.1).wide fun _ hq => hq.keep hb
theorem Sl.frR (h : Sl L w (From w lo) A n c xs) (hb : Below w.heap.size w W) : Sl L W (· < W.heap.size) A n c xs := (h.frT hb).wide fun _ h => h.2.1
end
end Go.Proofs.Ytannjlejghmfpaa
