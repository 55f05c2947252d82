/-
  Variables of structs: blocks of one, three, and four cells.
-/
import Derived.Test.YtannjlejghmfpaaRet
import Derived.OneCell
namespace Go.Proofs.Ytannjlejghmfpaa
open Go.RowKit Go.WalkArith

theorem range3 {w : World} {b o : Nat} {x y z : Value} (h0 : w.cell? ⟨b, o, none⟩ = some x) (h1 : w.cell? ⟨b, o + 1, none⟩ = some y) (h2 : w.cell? ⟨b, o + 2, none⟩ = some z) : w.rangeAt b o [x, y, z] := fun j v hj => by
  match j, hj with
  | 0, hj => simp at hj; subst hj; exact h0
  | 1, hj => simp at hj; subst hj; exact h1
  | 2, hj => simp at hj; subst hj; exact h2

/-- A struct's variable of one cell. -/
def Var1 (w : World) (g : Nat) (t : TypeId) (x : Value) : Prop := w.heap[g]? = some (.cells #[x] t (0, 0))
theorem Var1.c0 {w : World} {g : Nat} {t : TypeId} {x : Value} (h : Var1 w g t x) : w.cell? ⟨g, 0, none⟩ = some x := cell_of_one h
theorem Var1.lt {w : World} {g : Nat} {t : TypeId} {x : Value} (h : Var1 w g t x) : g < w.heap.size := (Array.getElem?_eq_some_iff.1 h).1
theorem Var1.call {w w' : World} {g : Nat} {t : TypeId} {x : Value} (h : Var1 w g t x) (hb : Below w.heap.size w w') : Var1 w' g t x := (hb.block g h.lt).trans h
theorem Var1.set {w : World} {g : Nat} {t : TypeId} {x : Value} (h : Var1 w g t x) (u : Value) : Var1 (w.setCell ⟨g, 0, none⟩ u) g t u := one_setCell h
theorem Var1.setOther {w : World} {g b : Nat} {t : TypeId} {x : Value} (h : Var1 w g t x) (hne : g ≠ b) (i : Nat) (u : Value) : Var1 (w.setCell ⟨b, i, none⟩ u) g t x := (Below.heap_setCell _ _ _ _ hne).trans h
theorem Var1.f {w : World} {g : Nat} {t : TypeId} {x : Value} (h : Var1 w g t x) : w.frozen? ⟨g, 0, none⟩ = false := free_of_one h
theorem Var1.new (w : World) (t : TypeId) (x : Value) : Var1 (w.alloc (.cells #[x] t)) w.heap.size t x := heap_alloc_new w _

/-- A struct's variable of three cells. -/
def Var3 (w : World) (g : Nat) (t : TypeId) (x y z : Value) : Prop := w.heap[g]? = some (.cells #[x, y, z] t (0, 0))
section
variable {w w' : World} {g : Nat} {t : TypeId} {x y z : Value}
theorem Var3.c0 (h : Var3 w g t x y z) : w.cell? ⟨g, 0, none⟩ = some x := by unfold Var3 at h; simp [World.cell?, h]
theorem Var3.c1 (h : Var3 w g t x y z) : w.cell? ⟨g, 1, none⟩ = some y := by unfold Var3 at h; simp [World.cell?, h]
theorem Var3.c2 (h : Var3 w g t x y z) : w.cell? ⟨g, 2, none⟩ = some z := by unfold Var3 at h; simp [World.cell?, h]
theorem Var3.f (h : Var3 w g t x y z) (i : Nat) : w.frozen? ⟨g, i, none⟩ = false := by unfold Var3 at h; simp [World.frozen?, h]
theorem Var3.lt (h : Var3 w g t x y z) : g < w.heap.size := (Array.getElem?_eq_some_iff.1 h).1
theorem Var3.keep {B : Nat} (h : Var3 w g t x y z) (hb : Below B w w') (hg : g < B) : Var3 w' g t x y z := (hb.block g hg).trans h
theorem Var3.call (h : Var3 w g t x y z) (hb : Below w.heap.size w w') : Var3 w' g t x y z := h.keep hb h.lt
theorem Var3.set (h : Var3 w g t x y z) (u v r : Value) : Var3 (((w.setCell ⟨g, 0, none⟩ u).setCell ⟨g, 1, none⟩ v).setCell ⟨g, 2, none⟩ r) g t u v r := by
  unfold Var3 at *
  have h1 : (w.setCell ⟨g, 0, none⟩ u).heap[g]? = some (.cells #[u, y, z] t (0, 0)) := heap_setCell_same w g 0 _ t u h
  have h2 : ((w.setCell ⟨g, 0, none⟩ u).setCell ⟨g, 1, none⟩ v).heap[g]? = some (.cells #[u, v, z] t (0, 0)) := heap_setCell_same _ g 1 _ t v h1
  exact heap_setCell_same _ g 2 _ t r h2
end

/-- .. of four. -/
def Var4 (w : World) (g : Nat) (t : TypeId) (x y z u : Value) : Prop := w.heap[g]? = some (.cells #[x, y, z, u] t (0, 0))
section
variable {w w' : World} {g : Nat} {t : TypeId} {x y z u : Value}
theorem Var4.c0 (h : Var4 w g t x y z u) : w.cell? ⟨g, 0, none⟩ = some x := by unfold Var4 at h; simp [World.cell?, h]
theorem Var4.c1 (h : Var4 w g t x y z u) : w.cell? ⟨g, 1, none⟩ = some y := by unfold Var4 at h; simp [World.cell?, h]
theorem Var4.c2 (h : Var4 w g t x y z u) : w.cell? ⟨g, 2, none⟩ = some z := by unfold Var4 at h; simp [World.cell?, h]
theorem Var4.c3 (h : Var4 w g t x y z u) : w.cell? ⟨g, 3, none⟩ = some u := by unfold Var4 at h; simp [World.cell?, h]
theorem Var4.lt (h : Var4 w g t x y z u) : g < w.heap.size := (Array.getElem?_eq_some_iff.1 h).1
theorem Var4.call (h : Var4 w g t x y z u) (hb : Below w.heap.size w w') : Var4 w' g t x y z u := (hb.block g h.lt).trans h
end
/-- What has turned is one block, and what is new. -/
theorem grown_below {B b : Nat} {w w' : World} (h : w.grownBy w' (some b)) (hb : B ≤ b) (hB : B ≤ w.heap.size) : Below B w w' := ⟨h.os, h.tape, h.output, h.size, fun i hi => h.block i (by omega) (fun e => by injection e with e; omega)⟩
theorem Var3.set1 {w : World} {g : Nat} {t : TypeId} {x y z : Value} (h : Var3 w g t x y z) (v : Value) : Var3 (w.setCell ⟨g, 1, none⟩ v) g t x v z := heap_setCell_same w g 1 _ t v h
theorem Var3.set2 {w : World} {g : Nat} {t : TypeId} {x y z : Value} (h : Var3 w g t x y z) (v : Value) : Var3 (w.setCell ⟨g, 2, none⟩ v) g t x y v := heap_setCell_same w g 2 _ t v h
theorem Var3.setOther {w : World} {g b : Nat} {t : TypeId} {x y z : Value} (h : Var3 w g t x y z) (hne : g ≠ b) (i : Nat) (u : Value) : Var3 (w.setCell ⟨b, i, none⟩ u) g t x y z := (Below.heap_setCell _ _ _ _ hne).trans h
theorem Var3.new (w : World) (t : TypeId) (x y z : Value) : Var3 (w.alloc (.cells #[x, y, z] t)) w.heap.size t x y z := heap_alloc_new w _
theorem Var4.new (w : World) (t : TypeId) (x y z u : Value) : Var4 (w.alloc (.cells #[x, y, z, u] t)) w.heap.size t x y z u := heap_alloc_new w _
/-- Three variables of a law, boxed at its beginning. -/
theorem three_vars {w : World} {a b c : Obj} : (((w.alloc a).alloc b).alloc c).heap[w.heap.size]? = some a ∧ (((w.alloc a).alloc b).alloc c).heap[w.heap.size + 1]? = some b ∧ (((w.alloc a).alloc b).alloc c).heap[w.heap.size + 1 + 1]? = some c := by
  refine ⟨?_, ?_, ?_⟩
  · rw [heap_alloc_old _ _ (by simp <;> omega)]; exact heap_alloc2_old _ _ _
  · rw [heap_alloc_old _ _ (by simp)]; exact heap_alloc2_new _ _ _
  · have := heap_alloc2_new (w.alloc a) b c
    simpa using this
/-- Five. -/
theorem five_vars {w : World} {a b c d e : Obj} : (((((w.alloc a).alloc b).alloc c).alloc d).alloc e).heap[w.heap.size]? = some a ∧ (((((w.alloc a).alloc b).alloc c).alloc d).alloc e).heap[w.heap.size + 1]? = some b ∧ (((((w.alloc a).alloc b).alloc c).alloc d).alloc e).heap[w.heap.size + 1 + 1]? = some c ∧
    (((((w.alloc a).alloc b).alloc c).alloc d).alloc e).heap[w.heap.size + 1 + 1 + 1]? = some d ∧ (((((w.alloc a).alloc b).alloc c).alloc d).alloc e).heap[w.heap.size + 1 + 1 + 1 + 1]? = some e := by
  obtain ⟨h1, h2, h3⟩ := three_vars (w := w) (a := a) (b := b) (c := c)
  obtain ⟨-, -, h5⟩ := three_vars (w := (w.alloc a).alloc b) (a := c) (b := d) (c := e)
  have h4 := heap_alloc2_new ((w.alloc a).alloc b) c d
  refine ⟨?_, ?_, ?_, ?_, ?_⟩
  · rw [heap_alloc_old _ _ (by simp <;> omega), heap_alloc_old _ _ (by simp <;> omega)]; exact h1
  · rw [heap_alloc_old _ _ (by simp <;> omega), heap_alloc_old _ _ (by simp <;> omega)]; exact h2
  · rw [heap_alloc_old _ _ (by simp <;> omega), heap_alloc_old _ _ (by simp <;> omega)]; exact h3
  · rw [heap_alloc_old _ _ (by simp <;> omega)]
    simpa using h4
  · simpa using h5
end Go.Proofs.Ytannjlejghmfpaa
