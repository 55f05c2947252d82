/-
  The words of what package channel answers; boxes that hold a channel; the laws' own 'live' of layer 9.
-/
import Derived.Test.YtpkfejfdbjoehaaChannelLaws
import Derived.Deep.Cut
import Derived.Deep.CutRange
namespace Go.Proofs.Ytpkfejfdbjoehaa
open Go.RowKit Go.WalkArith

/-- A block that holds a channel. -/
def BoxC (w : World) (g : Nat) (t : Chn) (A : Option Addr) (n c : Nat) : Prop := w.heap[g]? = some (.cells #[.int .u64 t.Id, .int .u64 t.Local, .int .u64 t.Remote, .int .u64 t.Reserve, .int .u64 t.Most, .slice A n c, .bool t.Open] 28 (0, 0))
section
variable {w w' : World} {g : Nat} {t : Chn} {A : Option Addr} {n c : Nat}
theorem BoxC.lt (h : BoxC w g t A n c) : g < w.heap.size := (Array.getElem?_eq_some_iff.1 h).1
theorem BoxC.call (h : BoxC w g t A n c) (hb : Below w.heap.size w w') : BoxC w' g t A n c := (hb.block g h.lt).trans h
theorem BoxC.setOther {b : Nat} (h : BoxC w g t A n c) (hne : g ≠ b) (i : Nat) (u : Value) : BoxC (w.setCell ⟨b, i, none⟩ u) g t A n c := (Below.heap_setCell _ _ _ _ hne).trans h
theorem BoxC.f (h : BoxC w g t A n c) (i : Nat) : w.frozen? ⟨g, i, none⟩ = false := by unfold BoxC at h; simp [World.frozen?, h]
theorem BoxC.all (h : BoxC w g t A n c) : w.cell? ⟨g, 0, none⟩ = some (.int .u64 t.Id) ∧ w.cell? ⟨g, 1, none⟩ = some (.int .u64 t.Local) ∧ w.cell? ⟨g, 2, none⟩ = some (.int .u64 t.Remote) ∧ w.cell? ⟨g, 3, none⟩ = some (.int .u64 t.Reserve) ∧ w.cell? ⟨g, 4, none⟩ = some (.int .u64 t.Most) ∧ w.cell? ⟨g, 5, none⟩ = some (.slice A n c) ∧ w.cell? ⟨g, 6, none⟩ = some (.bool t.Open) := by
  unfold BoxC at h
  refine ⟨?_, ?_, ?_, ?_, ?_, ?_, ?_⟩ <;> simp [World.cell?, h]
theorem BoxC.new (w : World) (t : Chn) (A : Option Addr) (n c : Nat) : BoxC (w.alloc (.cells #[.int .u64 t.Id, .int .u64 t.Local, .int .u64 t.Remote, .int .u64 t.Reserve, .int .u64 t.Most, .slice A n c, .bool t.Open] 28)) w.heap.size t A n c := heap_alloc_new w _
theorem BoxC.set (h : BoxC w g t A n c) (t' : Chn) (A' : Option Addr) (n' c' : Nat) : BoxC (((((((w.setCell ⟨g, 0, none⟩ (.int .u64 t'.Id)).setCell ⟨g, 1, none⟩ (.int .u64 t'.Local)).setCell ⟨g, 2, none⟩ (.int .u64 t'.Remote)).setCell ⟨g, 3, none⟩ (.int .u64 t'.Reserve)).setCell ⟨g, 4, none⟩ (.int .u64 t'.Most)).setCell ⟨g, 5, none⟩ (.slice A' n' c')).setCell ⟨g, 6, none⟩ (.bool t'.Open)) g t' A' n' c' := by
  unfold BoxC at *
  have h0 : (w.setCell ⟨g, 0, none⟩ (.int .u64 t'.Id)).heap[g]? = some (.cells #[.int .u64 t'.Id, .int .u64 t.Local, .int .u64 t.Remote, .int .u64 t.Reserve, .int .u64 t.Most, .slice A n c, .bool t.Open] 28 (0, 0)) := heap_setCell_same _ g 0 _ _ (.int .u64 t'.Id) h
  have h1 : ((w.setCell ⟨g, 0, none⟩ (.int .u64 t'.Id)).setCell ⟨g, 1, none⟩ (.int .u64 t'.Local)).heap[g]? = some (.cells #[.int .u64 t'.Id, .int .u64 t'.Local, .int .u64 t.Remote, .int .u64 t.Reserve, .int .u64 t.Most, .slice A n c, .bool t.Open] 28 (0, 0)) := heap_setCell_same _ g 1 _ _ (.int .u64 t'.Local) h0
  have h2 : (((w.setCell ⟨g, 0, none⟩ (.int .u64 t'.Id)).setCell ⟨g, 1, none⟩ (.int .u64 t'.Local)).setCell ⟨g, 2, none⟩ (.int .u64 t'.Remote)).heap[g]? = some (.cells #[.int .u64 t'.Id, .int .u64 t'.Local, .int .u64 t'.Remote, .int .u64 t.Reserve, .int .u64 t.Most, .slice A n c, .bool t.Open] 28 (0, 0)) := heap_setCell_same _ g 2 _ _ (.int .u64 t'.Remote) h1
  have h3 : ((((w.setCell ⟨g, 0, none⟩ (.int .u64 t'.Id)).setCell ⟨g, 1, none⟩ (.int .u64 t'.Local)).setCell ⟨g, 2, none⟩ (.int .u64 t'.Remote)).setCell ⟨g, 3, none⟩ (.int .u64 t'.Reserve)).heap[g]? = some (.cells #[.int .u64 t'.Id, .int .u64 t'.Local, .int .u64 t'.Remote, .int .u64 t'.Reserve, .int .u64 t.Most, .slice A n c, .bool t.Open] 28 (0, 0)) := heap_setCell_same _ g 3 _ _ (.int .u64 t'.Reserve) h2
  have h4 : (((((w.setCell ⟨g, 0, none⟩ (.int .u64 t'.Id)).setCell ⟨g, 1, none⟩ (.int .u64 t'.Local)).setCell ⟨g, 2, none⟩ (.int .u64 t'.Remote)).setCell ⟨g, 3, none⟩ (.int .u64 t'.Reserve)).setCell ⟨g, 4, none⟩ (.int .u64 t'.Most)).heap[g]? = some (.cells #[.int .u64 t'.Id, .int .u64 t'.Local, .int .u64 t'.Remote, .int .u64 t'.Reserve, .int .u64 t'.Most, .slice A n c, .bool t.Open] 28 (0, 0)) := heap_setCell_same _ g 4 _ _ (.int .u64 t'.Most) h3
  have h5 : ((((((w.setCell ⟨g, 0, none⟩ (.int .u64 t'.Id)).setCell ⟨g, 1, none⟩ (.int .u64 t'.Local)).setCell ⟨g, 2, none⟩ (.int .u64 t'.Remote)).setCell ⟨g, 3, none⟩ (.int .u64 t'.Reserve)).setCell ⟨g, 4, none⟩ (.int .u64 t'.Most)).setCell ⟨g, 5, none⟩ (.slice A' n' c')).heap[g]? = some (.cells #[.int .u64 t'.Id, .int .u64 t'.Local, .int .u64 t'.Remote, .int .u64 t'.Reserve, .int .u64 t'.Most, .slice A' n' c', .bool t.Open] 28 (0, 0)) := heap_setCell_same _ g 5 _ _ (.slice A' n' c') h4
  exact heap_setCell_same _ g 6 _ _ (.bool t'.Open) h5
theorem range7 (h : BoxC w g t A n c) : w.rangeAt g 0 [.int .u64 t.Id, .int .u64 t.Local, .int .u64 t.Remote, .int .u64 t.Reserve, .int .u64 t.Most, .slice A n c, .bool t.Open] := fun j v hj => by
  obtain ⟨h0, h1, h2, h3, h4, h5, h6⟩ := h.all
  match j, hj with
  | 0, hj => simp at hj; subst hj; exact h0
  | 1, hj => simp at hj; subst hj; exact h1
  | 2, hj => simp at hj; subst hj; exact h2
  | 3, hj => simp at hj; subst hj; exact h3
  | 4, hj => simp at hj; subst hj; exact h4
  | 5, hj => simp at hj; subst hj; exact h5
  | 6, hj => simp at hj; subst hj; exact h6
end
theorem OwnL.setBox {w : World} {base : Nat} {e : TypeId} {v : Value} {xs : List Hld} (ho : OwnL lay_Hold w base (some base) e v xs) {g : Nat} (hg : g < base) (t' : Chn) (A' : Option Addr) (n' c' : Nat) : OwnL lay_Hold (((((((w.setCell ⟨g, 0, none⟩ (.int .u64 t'.Id)).setCell ⟨g, 1, none⟩ (.int .u64 t'.Local)).setCell ⟨g, 2, none⟩ (.int .u64 t'.Remote)).setCell ⟨g, 3, none⟩ (.int .u64 t'.Reserve)).setCell ⟨g, 4, none⟩ (.int .u64 t'.Most)).setCell ⟨g, 5, none⟩ (.slice A' n' c')).setCell ⟨g, 6, none⟩ (.bool t'.Open)) base (some base) e v xs := (((((((ho.setLow (b := g) hg hg 0 (.int .u64 t'.Id)).setLow (b := g) hg hg 1 (.int .u64 t'.Local)).setLow (b := g) hg hg 2 (.int .u64 t'.Remote)).setLow (b := g) hg hg 3 (.int .u64 t'.Reserve)).setLow (b := g) hg hg 4 (.int .u64 t'.Most)).setLow (b := g) hg hg 5 (.slice A' n' c')).setLow (b := g) hg hg 6 (.bool t'.Open))
theorem Below.setBox {w0 w : World} {B : Nat} (h : Below B w0 w) {g : Nat} (hg : B ≤ g) (t' : Chn) (A' : Option Addr) (n' c' : Nat) : Below B w0 (((((((w.setCell ⟨g, 0, none⟩ (.int .u64 t'.Id)).setCell ⟨g, 1, none⟩ (.int .u64 t'.Local)).setCell ⟨g, 2, none⟩ (.int .u64 t'.Remote)).setCell ⟨g, 3, none⟩ (.int .u64 t'.Reserve)).setCell ⟨g, 4, none⟩ (.int .u64 t'.Most)).setCell ⟨g, 5, none⟩ (.slice A' n' c')).setCell ⟨g, 6, none⟩ (.bool t'.Open)) := (((((((h.setCell (p := ⟨g, 0, none⟩) hg (.int .u64 t'.Id)).setCell (p := ⟨g, 1, none⟩) hg (.int .u64 t'.Local)).setCell (p := ⟨g, 2, none⟩) hg (.int .u64 t'.Remote)).setCell (p := ⟨g, 3, none⟩) hg (.int .u64 t'.Reserve)).setCell (p := ⟨g, 4, none⟩) hg (.int .u64 t'.Most)).setCell (p := ⟨g, 5, none⟩) hg (.slice A' n' c')).setCell (p := ⟨g, 6, none⟩) hg (.bool t'.Open))
theorem OwnC.read {w : World} {base : Nat} {v : Value} {t : Chn} (h : OwnC w base v t) : ∃ A n c, v = .agg #[.int .u64 t.Id, .int .u64 t.Local, .int .u64 t.Remote, .int .u64 t.Reserve, .int .u64 t.Most, .slice A n c, .bool t.Open] ∧ Sl lay_Hold w (· < w.heap.size) A n c t.Holds := by
  obtain ⟨u, rfl, ho⟩ := h
  obtain ⟨A, n, c, rfl, hs⟩ := ho.read
  exact ⟨A, n, c, rfl, hs⟩

end Go.Proofs.Ytpkfejfdbjoehaa
