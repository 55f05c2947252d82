/-
  A cell of an owned row is written: one element turns into another one. A row of elements that reach nothing may be said to reach from anywhere on.
-/
import Derived.Test.YtannjlejghmfpaaOwn3
import Derived.Laws.OwnMore
namespace Go.Proofs.Ytannjlejghmfpaa
open Go.RowKit Go.WalkArith

section
variable {α : Type} {L : Lay α} {w : World} {S : Nat → Prop}
theorem RepRow.putAt {xs : List α} {cs : List Value} (h : RepRow L w S xs cs) {k i : Nat} {y : α} {u : Value} (hi : i < L.size) (hk : k < xs.length) (hy : ∀ c, L.rep w S xs[k] c → L.rep w S y (c.set i u)) : RepRow L w S (xs.set k y) (cs.set (k * L.size + i) u) := by
  induction xs generalizing cs k with
  | nil => simp at hk
  | cons x xs ih =>
    obtain ⟨c1, c2, rfl, h1, h2⟩ := h
    have l1 := L.len h1
    cases k with
    | zero =>
      refine ⟨c1.set i u, c2, ?_, hy c1 h1, h2⟩
      rw [Nat.zero_mul, Nat.zero_add, List.set_append_left _ _ (by omega)]
    | succ k =>
      refine ⟨c1, c2.set (k * L.size + i) u, ?_, h1, ih h2 (by simpa using hk) (by simpa using hy)⟩
      rw [List.set_append_right _ _ (by rw [l1, Nat.add_mul]; omega), l1]
      congr 2
      rw [Nat.add_mul]; omega
variable {base : Nat} {lo : Option Nat} {e : TypeId} {g n cap : Nat} {xs : List α}
theorem OwnL.num (h : OwnL L w base lo e (.slice (some ⟨g, 0, none⟩) n cap) xs) : xs.length = n := by
  obtain ⟨cs, h1, -⟩ := h
  rcases h1.2 with ⟨h', _⟩ | ⟨g', cap', cur, h', _⟩
  · cases h'
  · injection h' with _ h' _
    exact h'.symm
/-- An element's cells; none of them is frozen. -/
theorem OwnL.elem (h : OwnL L w base lo e (.slice (some ⟨g, 0, none⟩) n cap) xs) {k : Nat} (hk : k < xs.length) : ∃ c, L.rep w (Els w lo (.slice (some ⟨g, 0, none⟩) n cap)) xs[k] c ∧ (∀ i, i < L.size → w.cell? ⟨g, k * L.size + i, none⟩ = c[i]?) ∧ ∀ j, w.frozen? ⟨g, j, none⟩ = false := by
  have hn := h.num
  obtain ⟨cs, h1, h2⟩ := h
  rw [hn] at h1
  obtain ⟨c, hc, hi⟩ := h2.at_ hk
  refine ⟨c, hc, fun i hl => ?_, fun j => h1.frozenAt j⟩
  rw [h1.cellAt _ (by
    have : (k + 1) * L.size ≤ n * L.size := Nat.mul_le_mul_right _ (by omega)
    rw [Nat.add_mul] at this
    omega), hi i hl]
theorem OwnL.put (h : OwnL L w base lo e (.slice (some ⟨g, 0, none⟩) n cap) xs) {k i : Nat} {y : α} {u : Value} (hi : i < L.size) (hk : k < xs.length)
    (hy : ∀ (w : World) (S : Nat → Prop) c, L.rep w S xs[k] c → L.rep w S y (c.set i u)) : OwnL L (w.setCell ⟨g, k * L.size + i, none⟩ u) base lo e (.slice (some ⟨g, 0, none⟩) n cap) (xs.set k y) := by
  have hn := h.num
  obtain ⟨cs, h1, h2⟩ := h
  rw [hn] at h1
  have h3 := (h1.stored (k * L.size + i) u).1
  refine ⟨cs.set (k * L.size + i) u, by rw [List.length_set, hn]; exact h3, ?_⟩
  have hne : ∀ b, Els w lo (.slice (some ⟨g, 0, none⟩) n cap) b → b ≠ g := fun b hb e => hb.2.2 (by rw [e]; rfl)
  refine ((h2.putAt hi hk (hy w _)).keep fun p hp => World.cell?_of_block (Below.heap_setCell _ _ _ _ (hne _ hp))).wide fun b hb => ?_
  exact ⟨hb.1.of_block (Below.heap_setCell _ _ _ _ (hne b hb)), by simpa using hb.2.1, hb.2.2⟩
/-- The block that it lies in. -/
theorem OwnL.ownG (h : OwnL L w base lo e (.slice (some ⟨g, 0, none⟩) n cap) xs) : base ≤ g ∧ g < w.heap.size := by
  obtain ⟨cs, h1, -⟩ := h
  exact h1.lt g rfl
theorem OwnL.shape {v : Value} (h : OwnL L w base lo e v xs) (hx : 0 < xs.length) : ∃ g cap, v = .slice (some ⟨g, 0, none⟩) xs.length cap := by
  obtain ⟨cs, h1, -⟩ := h
  rcases h1.2 with ⟨_, h'⟩ | ⟨g', cap', cur, h', _⟩
  · omega
  · exact ⟨g', cap', h'⟩
/-- What reaches nothing may be said to reach from anywhere on. -/
theorem RepRow.flat {S' : Nat → Prop} (hf : ∀ (w : World) (S S' : Nat → Prop) (a : α) c, L.rep w S a c → L.rep w S' a c) {cs : List Value} (h : RepRow L w S xs cs) : RepRow L w S' xs cs := by
  induction xs generalizing cs with
  | nil => exact h
  | cons x xs ih =>
    obtain ⟨c1, c2, rfl, h1, h2⟩ := h
    exact ⟨c1, c2, rfl, hf w S S' x c1 h1, ih h2⟩
theorem OwnL.flat {v : Value} (hf : ∀ (w : World) (S S' : Nat → Prop) (a : α) c, L.rep w S a c → L.rep w S' a c) (h : OwnL L w base lo e v xs) (lo' : Option Nat) : OwnL L w base lo' e v xs := by
  obtain ⟨cs, h1, h2⟩ := h
  exact ⟨cs, h1, h2.flat hf⟩
end
/-- '[]T{}': a row of none in a block of its own. -/
theorem OwnL.empty {α : Type} (L : Lay α) (w : World) (e : TypeId) (lo : Option Nat) : OwnL L (w.alloc (.cells #[] e)) w.heap.size lo e (.slice (some ⟨w.heap.size, 0, none⟩) 0 0) [] :=
  ⟨[], ⟨by simp, .inr ⟨w.heap.size, 0, #[], rfl, Nat.le_refl _, heap_alloc_new w _, Nat.le_refl _, by unfold maxLen; omega, by simp, by simp⟩⟩, rfl⟩
end Go.Proofs.Ytannjlejghmfpaa
