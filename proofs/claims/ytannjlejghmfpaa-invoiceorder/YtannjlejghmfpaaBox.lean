/-
  A block that holds a struct of however many cells: what it holds, and what writing all of it leaves.
-/
import Derived.Test.YtannjlejghmfpaaOwn3
import Derived.Test.YtannjlejghmfpaaVars
namespace Go.Proofs.Ytannjlejghmfpaa
open Go.RowKit Go.WalkArith

/-- Block g holds these cells. -/
def Box (w : World) (g : Nat) (t : TypeId) (cs : List Value) : Prop := w.heap[g]? = some (.cells cs.toArray t (0, 0))
section
variable {w w' : World} {g : Nat} {t : TypeId} {cs : List Value}
theorem Box.lt (h : Box w g t cs) : g < w.heap.size := (Array.getElem?_eq_some_iff.1 h).1
theorem Box.call (h : Box w g t cs) (hb : Below w.heap.size w w') : Box w' g t cs := (hb.block g h.lt).trans h
theorem Box.keep {B : Nat} (h : Box w g t cs) (hb : Below B w w') (hg : g < B) : Box w' g t cs := (hb.block g hg).trans h
theorem Box.setOther {b : Nat} (h : Box w g t cs) (hne : g ≠ b) (i : Nat) (u : Value) : Box (w.setCell ⟨b, i, none⟩ u) g t cs := (Below.heap_setCell _ _ _ _ hne).trans h
theorem Box.f (h : Box w g t cs) (i : Nat) : w.frozen? ⟨g, i, none⟩ = false := by unfold Box at h; simp [World.frozen?, h]
theorem Box.at_ (h : Box w g t cs) (i : Nat) {v : Value} (hv : cs[i]? = some v) : w.cell? ⟨g, i, none⟩ = some v := by unfold Box at h; simp [World.cell?, h, hv]
theorem Box.new (w : World) (t : TypeId) (cs : List Value) : Box (w.alloc (.cells cs.toArray t)) w.heap.size t cs := heap_alloc_new w _
theorem Box.old {o : Obj} (h : Box w g t cs) : Box (w.alloc o) g t cs := h.call (bel_alloc (Below.refl _ _) _)
theorem Box.put (h : Box w g t cs) (i : Nat) (u : Value) : Box (w.setCell ⟨g, i, none⟩ u) g t (cs.set i u) := by
  have := heap_setCell_same w g i cs.toArray t u h
  unfold Box
  rw [this]
  simp
theorem Box.range (h : Box w g t cs) : w.rangeAt g 0 cs := fun j v hj => by
  rw [Nat.zero_add]
  exact h.at_ j hj
end

/-- Cells written one behind the other. -/
def setFrom (w : World) (g : Nat) : Nat → List Value → World
  | _, [] => w
  | i, v :: vs => setFrom (w.setCell ⟨g, i, none⟩ v) g (i + 1) vs
section
variable {w : World} {g : Nat} {t : TypeId}
theorem setFrom_other {b : Nat} : ∀ (vs : List Value) (i : Nat) (w : World), b ≠ g → (setFrom w g i vs).heap[b]? = w.heap[b]?
  | [], _, _, _ => rfl
  | _ :: vs, i, _, h => (setFrom_other vs (i + 1) _ h).trans (Below.heap_setCell _ _ _ _ h)
theorem setFrom_size : ∀ (vs : List Value) (i : Nat) (w : World), (setFrom w g i vs).heap.size = w.heap.size
  | [], _, _ => rfl
  | v :: vs, i, w => by
    show (setFrom (w.setCell ⟨g, i, none⟩ v) g (i + 1) vs).heap.size = _
    rw [setFrom_size vs]; simp
theorem setFrom_box : ∀ (vs : List Value) (ps qs : List Value) (w : World), qs.length = vs.length → Box w g t (ps ++ qs) → Box (setFrom w g ps.length vs) g t (ps ++ vs)
  | [], ps, qs, _, h1, h2 => by
    have : qs = [] := List.eq_nil_of_length_eq_zero (by simpa using h1)
    subst this; exact h2
  | v :: vs, ps, [], _, h1, _ => by simp at h1
  | v :: vs, ps, _ :: qs, _, h1, h2 => by
    have h3 := h2.put ps.length v
    rw [List.set_append_right _ _ (Nat.le_refl _), Nat.sub_self, List.set_cons_zero] at h3
    have h4 := setFrom_box vs (ps ++ [v]) qs _ (by simpa using h1) (by rw [List.append_assoc]; exact h3)
    rw [List.length_append, List.append_assoc] at h4
    exact h4
/-- All cells of the block are written. -/
theorem Box.all_ {cs vs : List Value} (h : Box w g t cs) (hl : cs.length = vs.length) : Box (setFrom w g 0 vs) g t vs := setFrom_box vs [] cs w hl h
theorem Box.allOther {b : Nat} {cs : List Value} (h : Box w b t cs) (hne : b ≠ g) (vs : List Value) : Box (setFrom w g 0 vs) b t cs := (setFrom_other vs 0 w hne).trans h
theorem Below.all_ {B : Nat} {w0 : World} (hg : B ≤ g) : ∀ (vs : List Value) (i : Nat) (w : World), Below B w0 w → Below B w0 (setFrom w g i vs)
  | [], _, _, h => h
  | v :: vs, i, _, h => Below.all_ hg vs (i + 1) _ (h.setCell (p := ⟨g, i, none⟩) hg v)
theorem OwnL.all_ {α : Type} {L : Lay α} {base lo : Nat} {e : TypeId} {v : Value} {xs : List α} (hb : g < base) (hl : g < lo) : ∀ (vs : List Value) (i : Nat) (w : World), OwnL L w base (some lo) e v xs → OwnL L (setFrom w g i vs) base (some lo) e v xs
  | [], _, _, h => h
  | u :: vs, i, _, h => OwnL.all_ hb hl vs (i + 1) _ (h.setLow hb hl i u)
theorem Sl.all_ {α : Type} {L : Lay α} {lo : Nat} {A : Option Addr} {n c : Nat} {xs : List α} (hl : g < lo) : ∀ (vs : List Value) (i : Nat) (w : World), Sl L w (From w lo) A n c xs → Sl L (setFrom w g i vs) (From (setFrom w g i vs) lo) A n c xs
  | [], _, _, h => h
  | u :: vs, i, _, h => Sl.all_ hl vs (i + 1) _ (h.setLow hl i u)
end
end Go.Proofs.Ytannjlejghmfpaa
