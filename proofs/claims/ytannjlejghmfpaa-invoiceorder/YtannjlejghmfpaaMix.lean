/-
  An owned row whose elements up to a place reach new blocks alone, the others whatever; an element written whole.
-/
import Derived.Test.YtannjlejghmfpaaOwnPut
import Derived.Test.YtannjlejghmfpaaBox
namespace Go.Proofs.Ytannjlejghmfpaa
open Go.RowKit Go.WalkArith

/-- An owned slice whose elements up to a place reach new blocks alone. -/
def Mix {α : Type} (L : Lay α) (w : World) (base lo : Nat) (e : TypeId) (g n cap : Nat) (xs : List α) (j : Nat) : Prop :=
  ∃ cs ds, w.ownsRow base e L.size (.slice (some ⟨g, 0, none⟩) n cap) n (cs ++ ds) ∧ xs.length = n ∧ RepRow L w (Els w (some lo) (.slice (some ⟨g, 0, none⟩) n cap)) (xs.take j) cs ∧ RepRow L w (Els w none (.slice (some ⟨g, 0, none⟩) n cap)) (xs.drop j) ds

section
variable {α : Type} {L : Lay α} {w w' : World} {base lo : Nat} {e : TypeId} {g n cap : Nat} {xs : List α} {j : Nat}
theorem OwnL.mix (h : OwnL L w base none e (.slice (some ⟨g, 0, none⟩) n cap) xs) (lo : Nat) : Mix L w base lo e g n cap xs 0 := by
  obtain ⟨cs, h1, h2⟩ := h
  have hl : xs.length = n := by
    rcases h1.2 with ⟨h', _⟩ | ⟨g', cap', cur, h', _⟩
    · simp at h'
    · simp only [Value.slice.injEq] at h'; exact h'.2.1.symm
  subst hl
  exact ⟨[], cs, h1, rfl, rfl, h2⟩
theorem Mix.own (h : Mix L w base lo e g n cap xs n) : OwnL L w base (some lo) e (.slice (some ⟨g, 0, none⟩) n cap) xs := by
  obtain ⟨cs, ds, h1, h2, h3, h4⟩ := h
  subst h2
  rw [List.take_of_length_le (Nat.le_refl _)] at h3
  rw [List.drop_of_length_le (Nat.le_refl _)] at h4
  simp [RepRow] at h4
  subst h4
  exact ⟨cs, by simpa using h1, h3⟩
theorem Mix.lt (h : Mix L w base lo e g n cap xs j) : base ≤ g ∧ g < w.heap.size := by
  obtain ⟨cs, ds, h1, _⟩ := h
  exact h1.lt g rfl
theorem Els.keepB {lo : Option Nat} {v : Value} {b : Nat} (h : Els w lo v b) (hb : Below w.heap.size w w') : Els w' lo v b := ⟨h.1.of_block (hb.block b h.2.1), Nat.lt_of_lt_of_le h.2.1 hb.size, h.2.2⟩
theorem Mix.keep (h : Mix L w base lo e g n cap xs j) (hb : Below w.heap.size w w') : Mix L w' base lo e g n cap xs j := by
  obtain ⟨cs, ds, h1, h2, h3, h4⟩ := h
  refine ⟨cs, ds, ?_, h2, (h3.keep fun p hp => hb.cell hp.2.1).wide fun b hb' => hb'.keepB hb, (h4.keep fun p hp => hb.cell hp.2.1).wide fun b hb' => hb'.keepB hb⟩
  refine ⟨h1.1, ?_⟩
  rcases h1.2 with h0 | ⟨g, cap, cur, h5, hbg, hg, r⟩
  · exact .inl h0
  · exact .inr ⟨g, cap, cur, h5, hbg, by rw [hb.block g (Array.getElem?_eq_some_iff.1 hg).1]; exact hg, r⟩
theorem Els.keepC {lo : Option Nat} {v : Value} {b g i : Nat} {u : Value} (h : Els w lo v b) (hg : v.ownBlock = some g) : Els (w.setCell ⟨g, i, none⟩ u) lo v b := by
  have hne : b ≠ g := fun e => h.2.2 (by rw [hg, e])
  exact ⟨h.1.of_block (Below.heap_setCell _ _ _ _ hne), by simpa using h.2.1, h.2.2⟩
theorem RepRow.keepC {lo : Option Nat} {v : Value} {g i : Nat} {u : Value} {ys : List α} {cs : List Value} (h : RepRow L w (Els w lo v) ys cs) (hg : v.ownBlock = some g) : RepRow L (w.setCell ⟨g, i, none⟩ u) (Els (w.setCell ⟨g, i, none⟩ u) lo v) ys cs :=
  (h.keep fun p hp => World.cell?_of_block (Below.heap_setCell _ _ _ _ fun e => hp.2.2 (by rw [hg]; exact congrArg some e))).wide fun b hb => hb.keepC hg
end
section
variable {w : World} {base lo : Nat} {e : TypeId}
/-- The like, nil let in. -/
def MixV {α : Type} (L : Lay α) (w : World) (base lo : Nat) (e : TypeId) (A : Option Addr) (n c : Nat) (xs : List α) (j : Nat) : Prop :=
  (A = none ∧ n = 0 ∧ c = 0 ∧ xs = []) ∨ ∃ g, A = some ⟨g, 0, none⟩ ∧ Mix L w base lo e g n c xs j
theorem OwnL.mixV {α : Type} {L : Lay α} {A : Option Addr} {n c : Nat} {xs : List α} (h : OwnL L w base none e (.slice A n c) xs) (lo : Nat) : MixV L w base lo e A n c xs 0 := by
  have h0 := h
  obtain ⟨cs, h1, h2⟩ := h
  rcases h1.2 with ⟨h', hx⟩ | ⟨g, cap, cur, h', _⟩
  · simp only [Value.slice.injEq] at h'
    exact .inl ⟨h'.1, h'.2.1, h'.2.2, List.eq_nil_of_length_eq_zero hx⟩
  · simp only [Value.slice.injEq] at h'
    obtain ⟨rfl, rfl, rfl⟩ := h'
    exact .inr ⟨g, rfl, h0.mix lo⟩
theorem MixV.own {α : Type} {L : Lay α} {A : Option Addr} {n c : Nat} {xs : List α} (h : MixV L w base lo e A n c xs n) : OwnL L w base (some lo) e (.slice A n c) xs := by
  rcases h with ⟨rfl, rfl, rfl, rfl⟩ | ⟨g, rfl, h⟩
  · exact OwnL.nil _ _ _ _ _
  · exact h.own
end

/-- Cells of a list written from a place on. -/
def putL : List Value → Nat → List Value → List Value
  | cs, _, [] => cs
  | cs, i, v :: vs => putL (cs.set i v) (i + 1) vs
theorem putL_mid : ∀ (vs p q r : List Value), q.length = vs.length → putL (p ++ (q ++ r)) p.length vs = p ++ (vs ++ r)
  | [], p, q, r, h => by
    have : q = [] := List.eq_nil_of_length_eq_zero (by simpa using h)
    subst this; rfl
  | v :: vs, p, [], r, h => by simp at h
  | v :: vs, p, x :: q, r, h => by
    have h2 := putL_mid vs (p ++ [v]) q r (by simpa using h)
    rw [List.length_append, List.append_assoc] at h2
    unfold putL
    rw [List.set_append_right _ _ (Nat.le_refl _), Nat.sub_self, List.cons_append, List.set_cons_zero]
    simpa using h2
section
variable {α : Type} {L : Lay α} {base lo : Nat} {e : TypeId} {g n cap : Nat}
theorem ownsRow_setFrom {size : Nat} : ∀ (vs : List Value) (i : Nat) (w : World) (cs : List Value), w.ownsRow base e size (.slice (some ⟨g, 0, none⟩) n cap) n cs → (setFrom w g i vs).ownsRow base e size (.slice (some ⟨g, 0, none⟩) n cap) n (putL cs i vs)
  | [], _, _, _, h => h
  | v :: vs, i, _, _, h => ownsRow_setFrom vs (i + 1) _ _ (h.stored i v).1
theorem Els.setFrom {w : World} {lo : Option Nat} {v : Value} {b : Nat} (h : Els w lo v b) (hg : v.ownBlock = some g) (vs : List Value) (i : Nat) : Els (setFrom w g i vs) lo v b := by
  have hne : b ≠ g := fun e => h.2.2 (by rw [hg, e])
  exact ⟨h.1.of_block (setFrom_other vs i w hne), by rw [setFrom_size]; exact h.2.1, h.2.2⟩
theorem RepRow.setFrom {w : World} {lo : Option Nat} {v : Value} {ys : List α} {cs : List Value} (h : RepRow L w (Els w lo v) ys cs) (hg : v.ownBlock = some g) (vs : List Value) (i : Nat) : RepRow L (setFrom w g i vs) (Els (setFrom w g i vs) lo v) ys cs :=
  (h.keep fun p hp => World.cell?_of_block (setFrom_other vs i w fun e => hp.2.2 (by rw [hg]; exact congrArg some e))).wide fun b hb => hb.setFrom hg vs i
theorem rep_setFrom {w : World} {lo : Option Nat} {v : Value} {x : α} {c : List Value} (h : L.rep w (Els w lo v) x c) (hg : v.ownBlock = some g) (vs : List Value) (i : Nat) : L.rep (setFrom w g i vs) (Els (setFrom w g i vs) lo v) x c :=
  L.wide (L.keep h fun p hp => World.cell?_of_block (setFrom_other vs i w fun e => hp.2.2 (by rw [hg]; exact congrArg some e))) fun b hb => hb.setFrom hg vs i
theorem Mix.elem {w : World} {xs : List α} {j : Nat} (h : Mix L w base lo e g n cap xs j) (hj : j < n) : ∃ c, ∃ hx : j < xs.length, L.rep w (Els w none (.slice (some ⟨g, 0, none⟩) n cap)) xs[j] c ∧ (∀ i v, c[i]? = some v → w.cell? ⟨g, j * L.size + i, none⟩ = some v) ∧ ∀ i, w.frozen? ⟨g, i, none⟩ = false := by
  obtain ⟨cs, ds, h1, h2, h3, h4⟩ := h
  have hx : j < xs.length := by omega
  rw [List.drop_eq_getElem_cons hx] at h4
  obtain ⟨c1, c2, rfl, h5, h6⟩ := h4
  have hcl := h3.len
  have hc1 := L.len h5
  rw [List.length_take, Nat.min_eq_left (by omega)] at hcl
  refine ⟨c1, hx, h5, fun i v hv => ?_, fun i => h1.frozenAt _⟩
  have hi : i < L.size := by rw [← hc1]; exact (List.getElem?_eq_some_iff.1 hv).1
  have hle : (j + 1) * L.size ≤ n * L.size := Nat.mul_le_mul_right _ hj
  rw [Nat.add_mul] at hle
  rw [h1.cellAt (j * L.size + i) (by omega), List.getElem?_append_right (by omega), hcl, Nat.add_sub_cancel_left, List.getElem?_append_left (by omega), hv]
/-- The next element is written whole: what it reaches now is new. -/
theorem Mix.all_ {w : World} {xs : List α} {j : Nat} (h : Mix L w base lo e g n cap xs j) (hj : j < n) (hx : j < xs.length) {c : List Value} (hs : L.rep w (Els w (some lo) (.slice (some ⟨g, 0, none⟩) n cap)) xs[j] c) : Mix L (setFrom w g (j * L.size) c) base lo e g n cap xs (j + 1) := by
  obtain ⟨cs, ds, h1, h2, h3, h4⟩ := h
  rw [List.drop_eq_getElem_cons hx] at h4
  obtain ⟨c1, c2, rfl, h5, h6⟩ := h4
  have hcl := h3.len
  rw [List.length_take, Nat.min_eq_left (by omega)] at hcl
  refine ⟨cs ++ c, c2, ?_, h2, ?_, h6.setFrom rfl _ _⟩
  · have h7 := ownsRow_setFrom c (j * L.size) w _ h1
    rw [← hcl, putL_mid c cs c1 c2 ((L.len h5).trans (L.len hs).symm)] at h7
    rw [← hcl, List.append_assoc]
    exact h7
  · rw [List.take_succ_eq_append_getElem hx]
    exact (h3.setFrom rfl _ _).append (RepRow.single (rep_setFrom hs rfl _ _))
/-- One element of an owned row is written whole. -/
theorem OwnL.putAll {w : World} {lo : Option Nat} {xs : List α} {k : Nat} {y : α} {c : List Value} (h : OwnL L w base lo e (.slice (some ⟨g, 0, none⟩) n cap) xs) (hk : k < xs.length) (hs : L.rep w (Els w lo (.slice (some ⟨g, 0, none⟩) n cap)) y c) : OwnL L (setFrom w g (k * L.size) c) base lo e (.slice (some ⟨g, 0, none⟩) n cap) (xs.set k y) := by
  have hn := h.num
  obtain ⟨cs, h1, h2⟩ := h
  rw [hn] at h1
  have e1 := h2.take k
  have e2 := h2.drop k
  have hcs : cs = cs.take (k * L.size) ++ cs.drop (k * L.size) := (List.take_append_drop _ _).symm
  have hl := h2.len
  have hle : (k + 1) * L.size ≤ xs.length * L.size := Nat.mul_le_mul_right _ hk
  rw [Nat.add_mul] at hle
  rw [List.drop_eq_getElem_cons hk] at e2
  obtain ⟨c1, c2, h4, h5, h6⟩ := e2
  generalize hp : cs.take (k * L.size) = p at *
  have hpl : p.length = k * L.size := by rw [← hp, List.length_take]; omega
  rw [h4] at hcs
  refine ⟨p ++ (c ++ c2), ?_, ?_⟩
  · have h7 := ownsRow_setFrom c (k * L.size) w _ h1
    rw [hcs, ← hpl, putL_mid c p c1 c2 ((L.len h5).trans (L.len hs).symm)] at h7
    rw [List.length_set, hn, ← hpl]
    exact h7
  · rw [List.set_eq_take_append_cons_drop, if_pos hk]
    exact (e1.setFrom rfl _ _).append ⟨c, c2, rfl, rep_setFrom hs rfl _ _, h6.setFrom rfl _ _⟩
end
end Go.Proofs.Ytannjlejghmfpaa
