/-
  Rows that rise by a number of their elements: the one of a number, a row with one in the place of that of its number; generic.
-/
import Derived.Test.YtannjlejghmfpaaSearch
namespace Go.Proofs.Ytannjlejghmfpaa
open Go.RowKit Go.WalkArith

section
variable {α : Type} {f : α → Int} {l : List α}
def fndF (f : α → Int) (l : List α) (k : Int) : Option α := l.find? fun x => f x == k
def wthF (f : α → Int) (l : List α) (r : α) : List α := (l.filter fun x => decide (f x < f r)) ++ [r] ++ l.filter fun x => decide (f r < f x)
theorem fnd_some {k : Int} {r : α} (h : fndF f l k = some r) : r ∈ l ∧ f r = k := by
  have h1 := List.mem_of_find?_eq_some h
  have h2 := List.find?_some h
  exact ⟨h1, by simpa using h2⟩
theorem fnd_none {k : Int} (h : fndF f l k = none) : ∀ r ∈ l, f r ≠ k := fun r hr => by
  have := List.find?_eq_none.1 h r hr
  simpa using this
theorem fnd_no {k : Int} (h : ∀ r ∈ l, f r ≠ k) : fndF f l k = none := by
  cases hf : fndF f l k with
  | none => rfl
  | some r => exact absurd (fnd_some hf).2 (h r (fnd_some hf).1)
theorem upF_one (h : UpF f l) {a b : α} (ha : a ∈ l) (hb : b ∈ l) (e : f a = f b) : a = b := by
  obtain ⟨i, hi, rfl⟩ := List.getElem_of_mem ha
  obtain ⟨j, hj, rfl⟩ := List.getElem_of_mem hb
  rcases Nat.lt_trichotomy i j with q | q | q
  · have := List.pairwise_iff_getElem.1 h i j hi hj q; omega
  · subst q; rfl
  · have := List.pairwise_iff_getElem.1 h j i hj hi q; omega
theorem fnd_mem (h : UpF f l) {r : α} (hr : r ∈ l) : fndF f l (f r) = some r := by
  cases hf : fndF f l (f r) with
  | none => exact absurd rfl (fnd_none hf r hr)
  | some x =>
    obtain ⟨h1, h2⟩ := fnd_some hf
    rw [upF_one h h1 hr h2]
/-- Rows that rise are the same if the same are in them. -/
theorem upF_ext : ∀ {a b : List α}, UpF f a → UpF f b → (∀ x, x ∈ a ↔ x ∈ b) → a = b
  | [], [], _, _, _ => rfl
  | [], y :: b, _, _, h => by have := (h y).2 (by simp); simp at this
  | x :: a, [], _, _, h => by have := (h x).1 (by simp); simp at this
  | x :: a, y :: b, ha, hb, h => by
    have ha' := List.pairwise_cons.1 ha
    have hb' := List.pairwise_cons.1 hb
    have e : x = y := by
      rcases List.mem_cons.1 ((h x).1 (by simp)) with e | h1
      · exact e
      · rcases List.mem_cons.1 ((h y).2 (by simp)) with e | h2
        · exact e.symm
        · have := hb'.1 x h1
          have := ha'.1 y h2
          omega
    subst e
    rw [upF_ext ha'.2 hb'.2 fun z => by
      constructor
      · intro hz
        rcases List.mem_cons.1 ((h z).1 (by simp [hz])) with e | k
        · subst e; have := ha'.1 z hz; omega
        · exact k
      · intro hz
        rcases List.mem_cons.1 ((h z).2 (by simp [hz])) with e | k
        · subst e; have := hb'.1 z hz; omega
        · exact k]
theorem wth_mem {r x : α} : x ∈ wthF f l r ↔ (x ∈ l ∧ f x ≠ f r) ∨ x = r := by
  unfold wthF
  simp only [List.mem_append, List.mem_filter, List.mem_singleton, decide_eq_true_eq]
  constructor
  · rintro ((⟨h1, h2⟩ | h) | ⟨h1, h2⟩)
    · exact .inl ⟨h1, by omega⟩
    · exact .inr h
    · exact .inl ⟨h1, by omega⟩
  · rintro (⟨h1, h2⟩ | h)
    · rcases Int.lt_or_gt_of_ne h2 with q | q
      · exact .inl (.inl ⟨h1, q⟩)
      · exact .inr ⟨h1, q⟩
    · exact .inl (.inr h)
theorem wth_up (h : UpF f l) (r : α) : UpF f (wthF f l r) := by
  unfold wthF UpF
  rw [List.pairwise_append, List.pairwise_append]
  refine ⟨⟨h.filter _, List.pairwise_singleton _ _, fun a ha b hb => ?_⟩, h.filter _, fun a ha b hb => ?_⟩
  · simp only [List.mem_filter, decide_eq_true_eq] at ha
    simp only [List.mem_singleton] at hb
    subst hb; exact ha.2
  · simp only [List.mem_append, List.mem_filter, List.mem_singleton, decide_eq_true_eq] at ha hb
    rcases ha with ⟨_, ha⟩ | rfl
    · omega
    · exact hb.2
theorem filtersF_len (f : α → Int) (l : List α) (k : Int) : (l.filter fun x => decide (f x < k)).length + (l.filter fun x => decide (k < f x)).length + (l.filter fun x => f x == k).length = l.length := by
  induction l with
  | nil => rfl
  | cons x l ih =>
    simp only [List.filter_cons, List.length_cons]
    rcases Int.lt_trichotomy (f x) k with q | q | q
    · rw [if_pos (by simpa using q), if_neg (by simp; omega), if_neg (by simp; omega)]
      simp only [List.length_cons]; omega
    · rw [if_neg (by simp; omega), if_neg (by simp; omega), if_pos (by simpa using q)]
      simp only [List.length_cons]; omega
    · rw [if_neg (by simp; omega), if_pos (by simpa using q), if_neg (by simp; omega)]
      simp only [List.length_cons]; omega
theorem wth_len (l : List α) (r : α) : (wthF f l r).length + (l.filter fun x => f x == f r).length = l.length + 1 := by
  have := filtersF_len f l (f r)
  unfold wthF
  simp only [List.length_append, List.length_singleton]
  omega
theorem wth_len_new {r : α} (h : fndF f l (f r) = none) : (wthF f l r).length = l.length + 1 := by
  have h1 := wth_len (f := f) l r
  have : (l.filter fun x => f x == f r) = [] := List.filter_eq_nil_iff.2 fun x hx => by have := fnd_none h x hx; simpa using this
  rw [this] at h1
  simpa using h1
theorem one_filter (hu : UpF f l) {x : α} (hx : x ∈ l) : (l.filter fun y => f y == f x) = [x] := by
  refine upF_ext (f := f) (hu.filter _) (List.pairwise_singleton _ _) fun y => ?_
  rw [List.mem_filter, List.mem_singleton]
  constructor
  · rintro ⟨h1, h2⟩; exact upF_one hu h1 hx (by simpa using h2)
  · rintro rfl; exact ⟨hx, by simp⟩
theorem wth_len_old (hu : UpF f l) {r x : α} (h : fndF f l (f r) = some x) : (wthF f l r).length = l.length := by
  have h1 := wth_len (f := f) l r
  obtain ⟨h2, h3⟩ := fnd_some h
  rw [← h3, one_filter hu h2] at h1
  simp at h1
  omega
theorem fnd_wth_same (h : UpF f l) (r : α) : fndF f (wthF f l r) (f r) = some r := fnd_mem (wth_up h r) (wth_mem.2 (.inr rfl))
theorem fnd_wth_other (h : UpF f l) {r : α} {k : Int} (hk : k ≠ f r) : fndF f (wthF f l r) k = fndF f l k := by
  cases hf : fndF f l k with
  | none =>
    refine fnd_no fun y hy => ?_
    rcases wth_mem.1 hy with ⟨h1, -⟩ | rfl
    · exact fnd_none hf y h1
    · exact fun e => hk e.symm
  | some x =>
    obtain ⟨h1, h2⟩ := fnd_some hf
    rw [← h2]
    exact fnd_mem (wth_up h r) (wth_mem.2 (.inl ⟨h1, by rw [h2]; exact hk⟩))
theorem wth_comm (h : UpF f l) {a b : α} (hab : f a ≠ f b) : wthF f (wthF f l a) b = wthF f (wthF f l b) a := by
  refine upF_ext (f := f) (wth_up (wth_up h a) b) (wth_up (wth_up h b) a) fun x => ?_
  rw [wth_mem, wth_mem, wth_mem, wth_mem]
  constructor
  · rintro (⟨⟨h1, h2⟩ | rfl, h3⟩ | rfl)
    · exact .inl ⟨.inl ⟨h1, h3⟩, h2⟩
    · exact .inr rfl
    · exact .inl ⟨.inr rfl, fun e => hab e.symm⟩
  · rintro (⟨⟨h1, h2⟩ | rfl, h3⟩ | rfl)
    · exact .inl ⟨.inl ⟨h1, h3⟩, h2⟩
    · exact .inr rfl
    · exact .inl ⟨.inr rfl, hab⟩
/-- Put in the place of one, and that one put back. -/
theorem wth_back (h : UpF f l) {x y : α} (hx : x ∈ l) (e : f y = f x) : wthF f (wthF f l y) x = l := by
  refine upF_ext (f := f) (wth_up (wth_up h y) x) h fun z => ?_
  rw [wth_mem, wth_mem]
  constructor
  · rintro (⟨⟨h1, -⟩ | rfl, h3⟩ | rfl)
    · exact h1
    · exact absurd e h3
    · exact hx
  · intro hz
    by_cases q : f z = f x
    · exact .inr (upF_one h hz hx q)
    · exact .inl ⟨.inl ⟨hz, by rw [e]; exact q⟩, q⟩
theorem wth_twice (h : UpF f l) {x y : α} (e : f y = f x) : wthF f (wthF f l y) x = wthF f l x := by
  refine upF_ext (f := f) (wth_up (wth_up h y) x) (wth_up h x) fun z => ?_
  rw [wth_mem, wth_mem, wth_mem]
  constructor
  · rintro (⟨⟨h1, -⟩ | rfl, h3⟩ | rfl)
    · exact .inl ⟨h1, h3⟩
    · exact absurd e h3
    · exact .inr rfl
  · rintro (⟨h1, h2⟩ | rfl)
    · exact .inl ⟨.inl ⟨h1, by rw [e]; exact h2⟩, h2⟩
    · exact .inr rfl
theorem fnd_take {j : Nat} (hj : j < l.length) (k : Int) (h : fndF f (l.take j) k = none) : fndF f (l.take (j + 1)) k = if f l[j] = k then some l[j] else none := by
  unfold fndF at h ⊢
  rw [List.take_succ_eq_append_getElem hj, List.find?_append, h]
  by_cases e : f l[j] = k
  · rw [if_pos e]; simp [e]
  · rw [if_neg e]; simp [e]
theorem fnd_hit {j : Nat} (hj : j < l.length) {k : Int} (h : fndF f (l.take j) k = none) (e : f l[j] = k) : fndF f l k = some l[j] := by
  unfold fndF at h ⊢
  rw [List.find?_eq_some_iff_getElem]
  refine ⟨by simpa using e, j, hj, rfl, fun i hi => ?_⟩
  have hm : l[i] ∈ l.take j := List.mem_iff_getElem.2 ⟨i, by rw [List.length_take]; omega, List.getElem_take⟩
  simpa using List.find?_eq_none.1 h _ hm
theorem upF_take {j : Nat} (hj : j < l.length) (h : UpF f (l.take j)) (hl : ∀ k (hk : k < l.length), k + 1 = j → f l[k] < f l[j]) : UpF f (l.take (j + 1)) := by
  unfold UpF at h ⊢
  rw [List.take_succ_eq_append_getElem hj, List.pairwise_append]
  refine ⟨h, List.pairwise_singleton _ _, fun a ha b hb => ?_⟩
  simp only [List.mem_singleton] at hb
  subst hb
  obtain ⟨i, hi, rfl⟩ := List.getElem_of_mem ha
  rw [List.length_take] at hi
  rw [List.getElem_take]
  rcases Nat.lt_or_ge (i + 1) j with q | q
  · have h1 := List.pairwise_iff_getElem.1 h i (j - 1) (by rw [List.length_take]; omega) (by rw [List.length_take]; omega) (by omega)
    rw [List.getElem_take, List.getElem_take] at h1
    have h2 := hl (j - 1) (by omega) (by omega)
    omega
  · exact hl i (by omega) (by omega)
theorem filterF_take {p : α → Bool} {j : Nat} (hj : j < l.length) : (l.take (j + 1)).filter p = (l.take j).filter p ++ (if p l[j] = true then [l[j]] else []) := by
  rw [List.take_succ_eq_append_getElem hj, List.filter_append]
  congr 1
  by_cases h : p l[j] = true
  · rw [if_pos h]; simp [h]
  · rw [if_neg h]; simp [h]
theorem filterF_len {p : α → Bool} (l : List α) (j : Nat) : ((l.take j).filter p).length ≤ l.length := by
  have h1 := List.length_filter_le p (l.take j)
  rw [List.length_take] at h1
  omega
end
end Go.Proofs.Ytannjlejghmfpaa
