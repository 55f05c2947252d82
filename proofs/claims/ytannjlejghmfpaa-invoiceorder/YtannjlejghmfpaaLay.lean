/-
  How data of nested types lie in memory: a layout ('Lay α': so many cells; which cells stand for a datum, all that is reached lying in blocks that S lets), for integers, bools, floats, structs (products), slices and arrays; slices that the call owns; and that a reading of an argument is such a datum. No program.
-/
import Derived.Test.YtannjlejghmfpaaMem
import Derived.ProofKit
import Derived.OpenShut
import Derived.Deep.Slices
namespace Go.Proofs.Ytannjlejghmfpaa
open Go.ChangeShapes Go.WideShapes Go.RowKit Go.WalkArith Go.Deep

structure Lay (α : Type) where
  size : Nat
  rep : World → (Nat → Prop) → α → List Value → Prop
  len : ∀ {w : World} {S : Nat → Prop} {a : α} {cs : List Value}, rep w S a cs → cs.length = size
  one : ∀ {w : World} {S : Nat → Prop} {a : α} {cs : List Value}, rep w S a cs → ∀ u ∈ cs, u.oneCell' = true
  keep : ∀ {w w' : World} {S : Nat → Prop} {a : α} {cs : List Value}, rep w S a cs → (∀ p : Addr, S p.block → w'.cell? p = w.cell? p) → rep w' S a cs
  wide : ∀ {w : World} {S S' : Nat → Prop} {a : α} {cs : List Value}, rep w S a cs → (∀ b, S b → S' b) → rep w S' a cs

/-- Data one behind the other. -/
def RepRow {α : Type} (L : Lay α) (w : World) (S : Nat → Prop) : List α → List Value → Prop
  | [], cs => cs = []
  | x :: xs, cs => ∃ c1 c2, cs = c1 ++ c2 ∧ L.rep w S x c1 ∧ RepRow L w S xs c2

section
variable {α : Type} {L : Lay α} {w w' : World} {S S' : Nat → Prop}
theorem RepRow.len {xs : List α} {cs : List Value} (h : RepRow L w S xs cs) : cs.length = xs.length * L.size := by
  induction xs generalizing cs with
  | nil => simp [RepRow] at h; simp [h]
  | cons x xs ih =>
    obtain ⟨c1, c2, rfl, h1, h2⟩ := h
    rw [List.length_append, L.len h1, ih h2, List.length_cons, Nat.add_mul]
    omega
theorem RepRow.one {xs : List α} {cs : List Value} (h : RepRow L w S xs cs) : ∀ u ∈ cs, u.oneCell' = true := by
  induction xs generalizing cs with
  | nil => simp [RepRow] at h; simp [h]
  | cons x xs ih =>
    obtain ⟨c1, c2, rfl, h1, h2⟩ := h
    intro u hu
    rcases List.mem_append.1 hu with hu | hu
    · exact L.one h1 u hu
    · exact ih h2 u hu
theorem RepRow.keep {xs : List α} {cs : List Value} (h : RepRow L w S xs cs) (hk : ∀ p : Addr, S p.block → w'.cell? p = w.cell? p) : RepRow L w' S xs cs := by
  induction xs generalizing cs with
  | nil => exact h
  | cons x xs ih =>
    obtain ⟨c1, c2, rfl, h1, h2⟩ := h
    exact ⟨c1, c2, rfl, L.keep h1 hk, ih h2⟩
theorem RepRow.wide {xs : List α} {cs : List Value} (h : RepRow L w S xs cs) (hs : ∀ b, S b → S' b) : RepRow L w S' xs cs := by
  induction xs generalizing cs with
  | nil => exact h
  | cons x xs ih =>
    obtain ⟨c1, c2, rfl, h1, h2⟩ := h
    exact ⟨c1, c2, rfl, L.wide h1 hs, ih h2⟩
theorem RepRow.append {xs ys : List α} {cs ds : List Value} (h : RepRow L w S xs cs) (h2 : RepRow L w S ys ds) : RepRow L w S (xs ++ ys) (cs ++ ds) := by
  induction xs generalizing cs with
  | nil => simp [RepRow] at h; subst h; exact h2
  | cons x xs ih =>
    obtain ⟨c1, c2, rfl, h1, h3⟩ := h
    exact ⟨c1, c2 ++ ds, by simp, h1, ih h3⟩
theorem RepRow.single {x : α} {cs : List Value} (h : L.rep w S x cs) : RepRow L w S [x] cs := ⟨cs, [], by simp, h, rfl⟩
/-- The j-th one's cells. -/
theorem RepRow.at_ {xs : List α} {cs : List Value} (h : RepRow L w S xs cs) {j : Nat} (hj : j < xs.length) : ∃ c, L.rep w S xs[j] c ∧ ∀ i, i < L.size → cs[j * L.size + i]? = c[i]? := by
  induction xs generalizing cs j with
  | nil => simp at hj
  | cons x xs ih =>
    obtain ⟨c1, c2, rfl, h1, h2⟩ := h
    have l1 := L.len h1
    cases j with
    | zero => exact ⟨c1, h1, fun i hi => by rw [Nat.zero_mul, Nat.zero_add, List.getElem?_append_left (by omega)]⟩
    | succ j =>
      obtain ⟨c, hc, hi⟩ := ih h2 (j := j) (by simpa using hj)
      refine ⟨c, by simpa using hc, fun i hil => ?_⟩
      rw [List.getElem?_append_right (by rw [l1, Nat.add_mul]; omega), ← hi i hil, l1]
      congr 1
      rw [Nat.add_mul]; omega
theorem RepRow.take {xs : List α} {cs : List Value} (h : RepRow L w S xs cs) (i : Nat) : RepRow L w S (xs.take i) (cs.take (i * L.size)) := by
  induction xs generalizing cs i with
  | nil => simp [RepRow] at h; simp [h, RepRow]
  | cons x xs ih =>
    obtain ⟨c1, c2, rfl, h1, h2⟩ := h
    cases i with
    | zero => simp [RepRow]
    | succ i =>
      have l1 := L.len h1
      refine ⟨c1, c2.take (i * L.size), ?_, h1, ih h2 i⟩
      rw [List.take_append, List.take_of_length_le (by rw [l1, Nat.add_mul]; omega), l1, show (i + 1) * L.size - L.size = i * L.size from by rw [Nat.add_mul]; omega]
theorem RepRow.drop {xs : List α} {cs : List Value} (h : RepRow L w S xs cs) (i : Nat) : RepRow L w S (xs.drop i) (cs.drop (i * L.size)) := by
  induction xs generalizing cs i with
  | nil => simp [RepRow] at h; simp [h, RepRow]
  | cons x xs ih =>
    cases i with
    | zero => simpa using h
    | succ i =>
      obtain ⟨c1, c2, rfl, h1, h2⟩ := h
      have l1 := L.len h1
      rw [List.drop_append, List.drop_of_length_le (l := c1) (by rw [l1, Nat.add_mul]; omega), l1, show (i + 1) * L.size - L.size = i * L.size from by rw [Nat.add_mul]; omega]
      exact ih h2 i
end

/-- The slice '.slice A n c' holds the data xs; all that is reached lies in blocks of S. -/
def Sl {α : Type} (L : Lay α) (w : World) (S : Nat → Prop) (A : Option Addr) (n c : Nat) (xs : List α) : Prop :=
  xs.length = n ∧ n ≤ c ∧ c ≤ maxLen ∧ (A = none → c = 0) ∧
  (0 < n → ∃ b off cs, A = some ⟨b, off, none⟩ ∧ S b ∧ RepRow L w S xs cs ∧ ∀ i v, cs[i]? = some v → w.cell? ⟨b, off + i, none⟩ = some v)

section
variable {α : Type} {L : Lay α} {w w' : World} {S S' : Nat → Prop} {A : Option Addr} {n c : Nat} {xs : List α}
theorem Sl.len (h : Sl L w S A n c xs) : xs.length = n := h.1
theorem Sl.cap (h : Sl L w S A n c xs) : n ≤ c ∧ c ≤ maxLen := ⟨h.2.1, h.2.2.1⟩
theorem Sl.no (h : Sl L w S A n c xs) : A = none → c = 0 := h.2.2.2.1
theorem Sl.row (h : Sl L w S A n c xs) (hn : 0 < n) : ∃ b off cs, A = some ⟨b, off, none⟩ ∧ S b ∧ RepRow L w S xs cs ∧ ∀ i v, cs[i]? = some v → w.cell? ⟨b, off + i, none⟩ = some v := h.2.2.2.2 hn
theorem Sl.nil (L : Lay α) (w : World) (S : Nat → Prop) : Sl L w S none 0 0 [] := ⟨rfl, Nat.le_refl _, Nat.zero_le _, fun _ => rfl, fun h => absurd h (by omega)⟩
theorem Sl.keep (h : Sl L w S A n c xs) (hk : ∀ p : Addr, S p.block → w'.cell? p = w.cell? p) : Sl L w' S A n c xs := by
  refine ⟨h.1, h.2.1, h.2.2.1, h.2.2.2.1, fun hn => ?_⟩
  obtain ⟨b, off, cs, rfl, hb, hr, hc⟩ := h.row hn
  exact ⟨b, off, cs, rfl, hb, hr.keep hk, fun i v hv => (hk ⟨b, off + i, none⟩ hb).trans (hc i v hv)⟩
theorem Sl.wide (h : Sl L w S A n c xs) (hs : ∀ b, S b → S' b) : Sl L w S' A n c xs := by
  refine ⟨h.1, h.2.1, h.2.2.1, h.2.2.2.1, fun hn => ?_⟩
  obtain ⟨b, off, cs, rfl, hb, hr, hc⟩ := h.row hn
  exact ⟨b, off, cs, rfl, hs b hb, hr.wide hs, hc⟩
/-- The j-th element's cells. -/
theorem Sl.at_ (h : Sl L w S A n c xs) {j : Nat} (hj : j < n) : ∃ b off cs, ∃ hx : j < xs.length, A = some ⟨b, off, none⟩ ∧ S b ∧ L.rep w S xs[j] cs ∧ ∀ i v, cs[i]? = some v → w.cell? ⟨b, off + (j * L.size + i), none⟩ = some v := by
  obtain ⟨b, off, cs, rfl, hb, hr, hc⟩ := h.row (by omega)
  have hx : j < xs.length := by rw [h.1]; exact hj
  obtain ⟨cj, h1, h2⟩ := hr.at_ hx
  refine ⟨b, off, cj, hx, rfl, hb, h1, fun i v hv => hc _ v ?_⟩
  rw [h2 i (by rw [← L.len h1]; exact (List.getElem?_eq_some_iff.1 hv).1), hv]
theorem Sl.upto (h : Sl L w S A n c xs) {i : Nat} (hi : i ≤ n) : Sl L w S A i c (xs.take i) := by
  refine ⟨by rw [List.length_take, h.1]; omega, by have := h.cap; omega, h.cap.2, h.no, fun hn => ?_⟩
  obtain ⟨b, off, cs, rfl, hb, hr, hc⟩ := h.row (by omega)
  exact ⟨b, off, _, rfl, hb, hr.take i, fun j v hv => hc j v (by rw [List.getElem?_take] at hv; split at hv <;> simp_all)⟩
/-- Where 's[i:]' begins, elements of so many cells. -/
def cutS (size : Nat) (A : Option Addr) (c i : Nat) : Option Addr := if c = i then A else A.map (·.add (i * size))
theorem Sl.cut (h : Sl L w S A n c xs) {i : Nat} (hi : i ≤ n) : Sl L w S (cutS L.size A c i) (n - i) (c - i) (xs.drop i) := by
  refine ⟨by rw [List.length_drop, h.1], by have := h.cap; omega, by have := h.cap; omega, fun hA => ?_, fun hn => ?_⟩
  · have : A = none := by unfold cutS at hA; split at hA <;> simpa using hA
    have := h.no this
    omega
  obtain ⟨b, off, cs, rfl, hb, hr, hc⟩ := h.row (by omega)
  have := h.cap
  refine ⟨b, off + i * L.size, _, ?_, hb, hr.drop i, fun j v hv => ?_⟩
  · unfold cutS
    rw [if_neg (by omega), Option.map_some, Addr.add_lit]
  · rw [List.getElem?_drop] at hv
    rw [Nat.add_assoc]
    exact hc _ v hv
end

def Lay.int (k : IntKind) : Lay Int where
  size := 1
  rep := fun _ _ a cs => cs = [.int k a] ∧ (Lit.int k a).wf = true
  len := fun h => by rw [h.1]; rfl
  one := fun h u hu => by rw [h.1] at hu; simp at hu; subst hu; rfl
  keep := fun h _ => h
  wide := fun h _ => h
def Lay.bool : Lay Bool where
  size := 1
  rep := fun _ _ a cs => cs = [.bool a]
  len := fun h => by rw [h]; rfl
  one := fun h u hu => by rw [h] at hu; simp at hu; subst hu; rfl
  keep := fun h _ => h
  wide := fun h _ => h
def Lay.unit : Lay Unit where
  size := 0
  rep := fun _ _ _ cs => cs = []
  len := fun h => by rw [h]; rfl
  one := fun h u hu => by rw [h] at hu; simp at hu
  keep := fun h _ => h
  wide := fun h _ => h
def Lay.prod {α β : Type} (L : Lay α) (M : Lay β) : Lay (α × β) where
  size := L.size + M.size
  rep := fun w S a cs => ∃ c1 c2, cs = c1 ++ c2 ∧ L.rep w S a.1 c1 ∧ M.rep w S a.2 c2
  len := fun ⟨c1, c2, h, h1, h2⟩ => by rw [h, List.length_append, L.len h1, M.len h2]
  one := fun ⟨c1, c2, h, h1, h2⟩ u hu => by
    rw [h] at hu
    rcases List.mem_append.1 hu with hu | hu
    · exact L.one h1 u hu
    · exact M.one h2 u hu
  keep := fun ⟨c1, c2, h, h1, h2⟩ hk => ⟨c1, c2, h, L.keep h1 hk, M.keep h2 hk⟩
  wide := fun ⟨c1, c2, h, h1, h2⟩ hs => ⟨c1, c2, h, L.wide h1 hs, M.wide h2 hs⟩
/-- A structure of my own for what another one lays. -/
def Lay.via {α β : Type} (L : Lay β) (f : α → β) : Lay α where
  size := L.size
  rep := fun w S a cs => L.rep w S (f a) cs
  len := fun h => L.len h
  one := fun h => L.one h
  keep := fun h hk => L.keep h hk
  wide := fun h hs => L.wide h hs
def Lay.slice {α : Type} (L : Lay α) : Lay (List α) where
  size := 1
  rep := fun w S xs cs => ∃ A n c, cs = [.slice A n c] ∧ Sl L w S A n c xs
  len := fun ⟨_, _, _, h, _⟩ => by rw [h]; rfl
  one := fun ⟨_, _, _, h, _⟩ u hu => by rw [h] at hu; simp at hu; subst hu; rfl
  keep := fun ⟨A, n, c, h, hs⟩ hk => ⟨A, n, c, h, hs.keep hk⟩
  wide := fun ⟨A, n, c, h, hs⟩ hw => ⟨A, n, c, h, hs.wide hw⟩

/-! ### Slices of integers: the two words are one -/
theorem repRow_ints {k : IntKind} {w : World} {S : Nat → Prop} {xs : List Int} {cs : List Value} : RepRow (Lay.int k) w S xs cs ↔ cs = xs.map (Value.int k) ∧ ∀ x ∈ xs, (Lit.int k x).wf = true := by
  induction xs generalizing cs with
  | nil => simp [RepRow]
  | cons x xs ih =>
    constructor
    · rintro ⟨c1, c2, rfl, ⟨rfl, hx⟩, h2⟩
      obtain ⟨rfl, hw⟩ := ih.1 h2
      exact ⟨rfl, by simpa using ⟨hx, hw⟩⟩
    · rintro ⟨rfl, hw⟩
      simp only [List.mem_cons, forall_eq_or_imp] at hw
      exact ⟨[.int k x], _, rfl, ⟨rfl, hw.1⟩, ih.2 ⟨rfl, hw.2⟩⟩
theorem Sl.rd {k : IntKind} {w : World} {S : Nat → Prop} {A : Option Addr} {n c B : Nat} {xs : List Int} (h : Sl (Lay.int k) w S A n c xs) (hS : ∀ b, S b → b < B) : Rd w B k A n c xs := by
  have hwf : ∀ x ∈ xs, (Lit.int k x).wf = true := by
    rcases Nat.eq_zero_or_pos n with h0 | h0
    · have : xs = [] := List.eq_nil_of_length_eq_zero (by rw [h.len, h0])
      subst this; simp
    · obtain ⟨_, _, _, _, _, hr, _⟩ := h.row h0
      exact (repRow_ints.1 hr).2
  refine ⟨h.len, h.cap.1, h.cap.2, hwf, h.no, fun hn => ?_⟩
  obtain ⟨b, off, cs, rfl, hb, hr, hc⟩ := h.row hn
  obtain ⟨rfl, _⟩ := repRow_ints.1 hr
  refine ⟨b, off, rfl, hS b hb, fun j hj => ?_⟩
  have hjl : j < xs.length := by rw [h.len]; exact hj
  refine hc j _ ?_
  rw [nth_get hjl]
  simp [List.getElem?_eq_getElem hjl]
theorem Rd.sl {k : IntKind} {w : World} {A : Option Addr} {n c B : Nat} {xs : List Int} (h : Rd w B k A n c xs) : Sl (Lay.int k) w (· < B) A n c xs := by
  refine ⟨h.len, h.cap.1, h.cap.2, h.no, fun hn => ?_⟩
  obtain ⟨b, off, rfl, hb, hc⟩ := h.at_ hn
  refine ⟨b, off, _, rfl, hb, repRow_ints.2 ⟨rfl, h.wf⟩, fun i v hv => ?_⟩
  have hil : i < xs.length := by
    rcases Nat.lt_or_ge i xs.length with h1 | h1
    · exact h1
    · rw [List.getElem?_eq_none (by simpa using h1)] at hv; cases hv
  have := hc i (by rw [← h.len]; exact hil)
  rw [this, nth_get hil]
  simpa [List.getElem?_eq_getElem hil] using hv

/-! ### From a reading of an argument -/
/-- Whatever is read as of type t is laid by L. -/
def LayOf {α : Type} (P : Program) (t : TypeId) (L : Lay α) : Prop :=
  L.size = P.cellsOf t ∧ ∀ (H : Type) (enc : TypeId × Value → H) (w : World) (fuel : Nat) (cs : List Value) (x : DataW H × List MemPlace),
    DataW.trod enc P w 0 (fun _ => true) true fuel t cs = some x → ∃ a, L.rep w (· < w.heap.size) a cs

section
variable {P : Program} {t e : TypeId} {α : Type} {L : Lay α}
theorem layOf_int {k : IntKind} (hu : P.underlying t = some (.int k)) (hc : P.cellsOf t = 1) : LayOf P t (Lay.int k) :=
  ⟨hc.symm, fun _ _ _ _ _ _ h => by
    obtain ⟨n, rfl, _, hw⟩ := DataW.trod_int hu h
    exact ⟨n, rfl, hw⟩⟩
theorem layOf_bool (hu : P.underlying t = some .bool) (hc : P.cellsOf t = 1) : LayOf P t Lay.bool :=
  ⟨hc.symm, fun _ _ _ _ _ _ h => by
    obtain ⟨b, rfl, _⟩ := DataW.trod_bool hu h
    exact ⟨b, rfl⟩⟩
theorem layOf_via {β : Type} {M : Lay β} (h : LayOf P t M) (f : α → β) (hf : ∀ b, ∃ a, f a = b) : LayOf P t (M.via f) :=
  ⟨h.1, fun H enc w fuel cs x hx => by
    obtain ⟨b, hb⟩ := h.2 H enc w fuel cs x hx
    obtain ⟨a, rfl⟩ := hf b
    exact ⟨a, hb⟩⟩
theorem rows_exist {w : World} {S : Nat → Prop} (n : Nat) (cells : Nat → List Value) (h : ∀ i, i < n → ∃ a, L.rep w S a (cells i)) : ∃ xs : List α, xs.length = n ∧ RepRow L w S xs ((List.range n).flatMap cells) := by
  induction n with
  | zero => exact ⟨[], rfl, rfl⟩
  | succ n ih =>
    obtain ⟨xs, hl, hr⟩ := ih fun i hi => h i (by omega)
    obtain ⟨a, ha⟩ := h n (by omega)
    refine ⟨xs ++ [a], by simp [hl], ?_⟩
    rw [List.range_succ, List.flatMap_append]
    exact hr.append (by simpa using RepRow.single ha)
theorem flat_get (size n : Nat) (cells : Nat → List Value) (hl : ∀ i, i < n → (cells i).length = size) (hs : 0 < size) (i : Nat) (v : Value) (h : ((List.range n).flatMap cells)[i]? = some v) : i / size < n ∧ (cells (i / size))[i % size]? = some v := by
  induction n with
  | zero => simp at h
  | succ n ih =>
    rw [List.range_succ, List.flatMap_append] at h
    have hlen : ∀ m, m ≤ n → ((List.range m).flatMap cells).length = m * size := by
      intro m
      induction m with
      | zero => simp
      | succ m ihm =>
        intro hm
        rw [List.range_succ, List.flatMap_append, List.length_append, ihm (by omega)]
        simp only [List.flatMap_cons, List.flatMap_nil, List.append_nil]
        rw [hl m (by omega), Nat.add_mul]
        omega
    have hn := hlen n (Nat.le_refl _)
    rcases Nat.lt_or_ge i (n * size) with h1 | h1
    · rw [List.getElem?_append_left (by rw [hn]; exact h1)] at h
      have := ih (fun i hi => hl i (by omega)) h
      exact ⟨by omega, this.2⟩
    · rw [List.getElem?_append_right (by rw [hn]; exact h1), hn] at h
      simp only [List.flatMap_cons, List.flatMap_nil, List.append_nil] at h
      have hlt : i - n * size < size := by
        have := (List.getElem?_eq_some_iff.1 h).1
        rw [hl n (by omega)] at this
        exact this
      have hq : i / size = n := by
        rw [show i = (i - n * size) + n * size from by omega, Nat.add_mul_div_right _ _ hs, Nat.div_eq_of_lt hlt]
        omega
      have hm : i % size = i - n * size := by
        rw [show i = (i - n * size) + n * size from by omega, Nat.add_mul_mod_self_right, Nat.mod_eq_of_lt hlt]
        omega
      exact ⟨by omega, by rw [hq, hm]; exact h⟩
theorem layOf_slice (hu : P.underlying t = some (.slice e)) (hc : P.cellsOf t = 1) (hL : LayOf P e L) (hs : 0 < L.size) : LayOf P t (Lay.slice L) := by
  refine ⟨hc.symm, fun H enc w fuel cs x h => ?_⟩
  rcases open_slice hu h with ⟨rfl, _⟩ | ⟨a, len, cap, m, n, D, Pl, rfl, _, hlc, hcm, hm, _, hi⟩
  · exact ⟨[], none, 0, 0, rfl, Sl.nil L w _⟩
  · have hm' : m = cap := by simpa using hm
    subst hm'
    rw [← hL.1] at hi
    have hex : ∀ i, ∃ cs', i < m → (w.cells? 0 (a.add (i * L.size)) L.size = some cs' ∧ ∃ d, L.rep w (· < w.heap.size) d cs') := fun i => by
      by_cases him : i < m
      · obtain ⟨cs', h1, h2⟩ := hi i him
        obtain ⟨d, hd⟩ := hL.2 H enc w n cs' _ h2
        exact ⟨cs', fun _ => ⟨h1, d, hd⟩⟩
      · exact ⟨[], fun h => absurd h him⟩
    let cells : Nat → List Value := fun i => Classical.choose (hex i)
    have hcells : ∀ i, i < m → (w.cells? 0 (a.add (i * L.size)) L.size = some (cells i) ∧ ∃ d, L.rep w (· < w.heap.size) d (cells i)) := fun i => Classical.choose_spec (hex i)
    obtain ⟨xs, hxl, hxr⟩ := rows_exist (L := L) len cells fun i hil => (hcells i (by omega)).2
    refine ⟨xs, some a, len, m, rfl, hxl, hlc, hcm, by simp, fun hn => ?_⟩
    obtain ⟨b, off, spot⟩ := a
    obtain ⟨_, hl0, hc0⟩ := World.cells?_some (hcells 0 (by omega)).1
    have h00 := hc0 0 hs
    rw [List.getElem?_eq_getElem (by omega)] at h00
    have hspot : spot = none := by simpa [Addr.add] using World.cell?_spot h00
    subst hspot
    have hblk : b < w.heap.size := by simpa [Addr.add] using World.block_lt_of_cell? w _ h00
    refine ⟨b, off, _, rfl, hblk, hxr, fun i v hv => ?_⟩
    obtain ⟨h1, h2⟩ := flat_get L.size len cells (fun i hil => (World.cells?_some (hcells i (by omega)).1).2.1) hs i v hv
    obtain ⟨_, _, h3⟩ := World.cells?_some (hcells (i / L.size) (by omega)).1
    have h4 := h3 (i % L.size) (Nat.mod_lt _ hs)
    rw [h2, Addr.add_lit, Addr.add_lit] at h4
    rw [show off + i = off + i / L.size * L.size + i % L.size from by have := Nat.div_add_mod i L.size; rw [Nat.mul_comm] at this; omega]
    exact h4

/-- The fields of a struct, one behind the other. -/
inductive LayFs (P : Program) : (α : Type) → List Field → Nat → Lay α → Prop
  | nil (off : Nat) : LayFs P Unit [] off Lay.unit
  | cons {α β : Type} {L : Lay α} {M : Lay β} {f : Field} {fs : List Field} {off : Nat} (ho : f.offset = off) (h1 : LayOf P f.type L) (h2 : LayFs P β fs (off + L.size) M) : LayFs P (α × β) (f :: fs) off (L.prod M)
theorem layFs_rep {α : Type} {fs : List Field} {off : Nat} {L : Lay α} (h : LayFs P α fs off L) {H : Type} {enc : TypeId × Value → H} {w : World} {n : Nat} {cs : List Value} (hlen : cs.length = off + L.size)
    (hx : ∀ (i : Nat) (f : Field), fs[i]? = some f → ∃ x, DataW.trod enc P w 0 (fun _ => true) true n f.type ((cs.drop f.offset).take (P.cellsOf f.type)) = some x) : ∃ a, L.rep w (· < w.heap.size) a (cs.drop off) := by
  induction h with
  | nil off => exact ⟨(), by rw [List.drop_of_length_le (by rw [hlen]; exact Nat.le_refl _)]; rfl⟩
  | @cons α β L M f fs off ho h1 h2 ih =>
    have hsz : (L.prod M).size = L.size + M.size := rfl
    rw [hsz] at hlen
    obtain ⟨x, hx0⟩ := hx 0 f rfl
    rw [ho, ← h1.1] at hx0
    obtain ⟨a, ha⟩ := h1.2 H enc w n _ _ hx0
    obtain ⟨b, hb⟩ := ih (by omega) fun i g hg => hx (i + 1) g (by simpa using hg)
    refine ⟨(a, b), (cs.drop off).take L.size, cs.drop (off + L.size), ?_, ha, hb⟩
    rw [← List.drop_drop, List.take_append_drop]
theorem layOf_struct {fs : Array Field} (hu : P.underlying t = some (.struct fs)) (hc : P.cellsOf t = L.size) (h : LayFs P α fs.toList 0 L) : LayOf P t L := by
  refine ⟨hc.symm, fun H enc w fuel cs x hx => ?_⟩
  obtain ⟨xs, n, _, _, hl, hxl, hf⟩ := DataW.trod_struct hu hx
  have := layFs_rep h (cs := cs) (by rw [hl, hc]; omega) (H := H) (enc := enc) (w := w) (n := n) fun i f hi => by
    have hi' : fs[i]? = some f := by simpa using hi
    have hlt : i < xs.length := by rw [hxl]; exact (Array.getElem?_eq_some_iff.1 hi').1
    exact ⟨xs[i], by rw [hf i f hi', List.getElem?_eq_getElem hlt]⟩
  simpa using this
end

/-! ### Slices that the call owns, of whatever elements -/
/-- No cell of the block is frozen. -/
def Soft (w : World) (b : Nat) : Prop := ∀ off, w.frozen? ⟨b, off, none⟩ = false
theorem Soft.of_block {w w' : World} {b : Nat} (h : Soft w b) (e : w'.heap[b]? = w.heap[b]?) : Soft w' b := fun off => (World.frozen?_of_block (a := ⟨b, off, none⟩) e).trans (h off)
theorem Soft.of_cells {w : World} {b : Nat} {cs : Array Value} {e : TypeId} (h : w.heap[b]? = some (.cells cs e (0, 0))) : Soft w b := fun off => by simp [World.frozen?, h]
/-- A block that is new from lo on, and may be written; or any. -/
def New (w : World) : Option Nat → Nat → Prop
  | none, _ => True
  | some lo, b => lo ≤ b ∧ Soft w b
theorem New.of_block {w w' : World} {lo : Option Nat} {b : Nat} (h : New w lo b) (e : w'.heap[b]? = w.heap[b]?) : New w' lo b := by
  cases lo with
  | none => trivial
  | some l => exact ⟨h.1, h.2.of_block e⟩
/-- The blocks that elements of an owned slice may reach: new ones from lo on (any, where lo is none), and not the slice's own row. -/
def Els (w : World) (lo : Option Nat) (v : Value) (b : Nat) : Prop := New w lo b ∧ b < w.heap.size ∧ some b ≠ v.ownBlock
/-- The blocks from lo on, that may be written. -/
def From (w : World) (lo : Nat) (b : Nat) : Prop := lo ≤ b ∧ b < w.heap.size ∧ Soft w b
def OwnL {α : Type} (L : Lay α) (w : World) (base : Nat) (lo : Option Nat) (e : TypeId) (v : Value) (xs : List α) : Prop :=
  ∃ cs, w.ownsRow base e L.size v xs.length cs ∧ RepRow L w (Els w lo v) xs cs

section
variable {α : Type} {L : Lay α} {w w' : World} {base : Nat} {lo : Option Nat} {e : TypeId} {v v' : Value} {xs ys : List α}
theorem From.le {l l' b : Nat} (h : From w l b) (hl : l' ≤ l) : From w l' b := ⟨Nat.le_trans hl h.1, h.2⟩
theorem From.keep {l b : Nat} (h : From w l b) (hb : Below w.heap.size w w') : From w' l b := ⟨h.1, Nat.lt_of_lt_of_le h.2.1 hb.size, h.2.2.of_block (hb.block b h.2.1)⟩
theorem OwnL.nil (L : Lay α) (w : World) (base : Nat) (lo : Option Nat) (e : TypeId) : OwnL L w base lo e (.slice none 0 0) [] := ⟨[], World.ownsRow_nil w base e _, rfl⟩
theorem OwnL.slS (h : OwnL L w base lo e v xs) {S : Nat → Prop} (hS : ∀ b, Els w lo v b → S b) (hg : ∀ g, v.ownBlock = some g → base ≤ g → g < w.heap.size → Soft w g → S g) : ∃ A n c, v = .slice A n c ∧ Sl L w S A n c xs := by
  obtain ⟨cs, h1, h2⟩ := h
  rcases h1.2 with ⟨rfl, h0⟩ | ⟨g, cap, cur, rfl, hbg, hg', hnc, hcm, hcs, htake⟩
  · have : xs = [] := List.eq_nil_of_length_eq_zero h0
    subst this
    exact ⟨none, 0, 0, rfl, Sl.nil L w _⟩
  · have hlt : g < w.heap.size := (Array.getElem?_eq_some_iff.1 hg').1
    refine ⟨_, _, cap, rfl, rfl, hnc, hcm, by simp, fun hn => ⟨g, 0, cs, rfl, hg g rfl hbg hlt (Soft.of_cells hg'), h2.wide hS, fun i u hu => ?_⟩⟩
    have := h1.cells (g := g) rfl i u hu
    rwa [Addr.add_lit] at this
theorem OwnL.read (h : OwnL L w base lo e v xs) : ∃ A n c, v = .slice A n c ∧ Sl L w (· < w.heap.size) A n c xs := h.slS (fun _ hb => hb.2.1) fun _ _ _ h _ => h
theorem OwnL.sl {l : Nat} (h : OwnL L w base (some l) e v xs) {low : Nat} (hb : low ≤ base) (hl : low ≤ l) : ∃ A n c, v = .slice A n c ∧ Sl L w (From w low) A n c xs :=
  h.slS (fun _ hb' => ⟨Nat.le_trans hl hb'.1.1, hb'.2.1, hb'.1.2⟩) fun _ _ h1 h2 h3 => ⟨Nat.le_trans hb h1, h2, h3⟩
theorem OwnL.keep (h : OwnL L w base lo e v xs) (hb : Below w.heap.size w w') : OwnL L w' base lo e v xs := by
  obtain ⟨cs, h1, h2⟩ := h
  refine ⟨cs, ?_, (h2.keep fun p hp => hb.cell hp.2.1).wide fun b hb' => ⟨hb'.1.of_block (hb.block b hb'.2.1), Nat.lt_of_lt_of_le hb'.2.1 hb.size, hb'.2.2⟩⟩
  refine ⟨h1.1, ?_⟩
  rcases h1.2 with h0 | ⟨g, cap, cur, rfl, hbg, hg, r⟩
  · exact .inl h0
  · exact .inr ⟨g, cap, cur, rfl, hbg, by rw [hb.block g (Array.getElem?_eq_some_iff.1 hg).1]; exact hg, r⟩
theorem OwnL.below (h : OwnL L w base lo e v xs) (hx : Ext w w' v v') (hb : base ≤ w.heap.size) : Below base w w' := by
  obtain ⟨cs, h1, _⟩ := h
  exact ⟨hx.1.os, hx.1.tape, hx.1.output, hx.1.size, fun i hi => hx.1.block i (by omega) (fun e => by have := (h1.lt i e.symm).1; omega)⟩
theorem OwnL.loose {l : Nat} (h : OwnL L w base (some l) e v xs) : OwnL L w base none e v xs := by
  obtain ⟨cs, h1, h2⟩ := h
  exact ⟨cs, h1, h2.wide fun b hb => ⟨trivial, hb.2⟩⟩
theorem Els.ext (hx : Ext w w' v v') {b : Nat} (h : Els w lo v b) : Els w' lo v' b := by
  refine ⟨h.1.of_block (hx.1.block b h.2.1 h.2.2), Nat.lt_of_lt_of_le h.2.1 hx.size, fun he => ?_⟩
  rcases hx.2 with h2 | ⟨g, h2, hg⟩
  · exact h.2.2 (by rw [he, h2])
  · rw [h2] at he
    injection he with he
    have := h.2.1
    omega
end

theorem run_appL {α : Type} {L : Lay α} {P : Program} (w : World) (base : Nat) (lo : Option Nat) (t ty e : TypeId) (z : Value) (bytes : Nat) (ht : P.underlying t = some (.slice e))
    (hi : (P.info? e).map (fun i => (i.zero, i.size, i.bytes)) = some (some z, L.size, bytes)) (hzs : z.cells.size = L.size) (hsz : 0 < L.size) (v : Value) (xs ys : List α) (cy : List Value) (ad : Addr) (m c : Nat)
    (hown : OwnL L w base lo e v xs) (hy : RepRow L w (Els w lo v) ys cy) (hm : ys.length = m) (hc : ∀ j u, cy[j]? = some u → w.cell? (ad.add j) = some u) (hbase : base ≤ w.heap.size)
    (hlen : (xs.length + m) * bytes ≤ 140737488355328) (h63 : xs.length + m ≤ maxLen) :
    ∃ v' w', (Builtin.append_ #[t, t] ty #[v, .slice (some ad) m c]).run P w = .ok v' w' ∧ OwnL L w' base lo e v' (xs ++ ys) ∧ Ext w w' v v' := by
  obtain ⟨i, hi, hz0, hz1, hz2⟩ := info_parts hi
  obtain ⟨cs, h1, h2⟩ := hown
  obtain ⟨v', w', hr, g2, g3, _, g5⟩ := run_append_own_at (P := P) w base t ty e i z L.size bytes ht hi hz0 hz1 hz2 hzs hsz v _ _ h1 ad m c cy (by rw [hy.len, hm]) hc hy.one h63 hlen hbase
  have hext : Ext w w' v v' := ⟨g3, by
    rcases g5 with g5 | g5
    · exact .inl g5
    · exact .inr ⟨_, g5, Nat.le_refl _⟩⟩
  refine ⟨v', w', hr, ⟨cs ++ cy, by rw [List.length_append, hm]; exact g2, ?_⟩, hext⟩
  exact ((h2.append hy).keep fun p hp => World.cell?_of_block (g3.block p.block hp.2.1 hp.2.2)).wide fun b hb => Els.ext hext hb

theorem wpList_appL {α : Type} {L : Lay α} {P : Program} {w : World} {ops : Array Oper} {rest : List Oper} {o : Oper} {a : Act} {Q : Exit → Act → World → Prop} (hgd : Region.wanted o (yielded ops a.tmps) = true) (s x : Operand) (t : TypeId)
    (ho : o.op = .call { callee := .builtin .append, args := #[s, x], argTypes := #[t, t] }) (base : Nat) (lo : Option Nat) (e : TypeId) (z : Value) (bytes : Nat) (ht : P.underlying t = some (.slice e))
    (hi : (P.info? e).map (fun i => (i.zero, i.size, i.bytes)) = some (some z, L.size, bytes)) (hzs : z.cells.size = L.size) (hsz : 0 < L.size) (v : Value) (xs ys : List α) (cy : List Value) (ad : Addr) (m c : Nat)
    (hs : a.eval s = v) (hxx : a.eval x = .slice (some ad) m c)
    (hown : OwnL L w base lo e v xs) (hy : RepRow L w (Els w lo v) ys cy) (hm : ys.length = m) (hc : ∀ j u, cy[j]? = some u → w.cell? (ad.add j) = some u) (hbase : base ≤ w.heap.size)
    (hlen : (xs.length + m) * bytes ≤ 140737488355328) (h63 : xs.length + m ≤ maxLen)
    (h : ∀ v' w', OwnL L w' base lo e v' (xs ++ ys) → Ext w w' v v' → wpList P ops Q rest (a.put o.dst v') w') : wpList P ops Q (o :: rest) a w := by
  refine wpList_want hgd fun _ hK => ?_
  obtain ⟨v', w', hrun, h2, h3⟩ := run_appL (P := P) w base lo t o.type e z bytes ht hi hzs hsz v xs ys cy ad m c hown hy hm hc hbase hlen h63
  unfold Oper.wp execOp
  simp only [ho, resolve, invoke, builtin, Sem.run_bind, Sem.run_pure, Result.andThen_ok, List.map_toArray, List.map_cons, List.map_nil, hs, hxx, hrun]
  exact hK _ _ (h v' w' h2 h3)

/-- 'append(v, ys...)', ys whatever slice (nil let in) that reaches nothing of v's own row. -/
theorem run_catL {α : Type} {L : Lay α} {P : Program} (w : World) (base : Nat) (lo : Option Nat) (t ty e : TypeId) (z : Value) (bytes : Nat) (ht : P.underlying t = some (.slice e))
    (hi : (P.info? e).map (fun i => (i.zero, i.size, i.bytes)) = some (some z, L.size, bytes)) (hzs : z.cells.size = L.size) (hsz : 0 < L.size) (v : Value) (xs ys : List α) (S : Nat → Prop) (A : Option Addr) (m c : Nat)
    (hown : OwnL L w base lo e v xs) (hy : Sl L w S A m c ys) (hS : ∀ b, S b → Els w lo v b) (hbase : base ≤ w.heap.size)
    (hlen : (xs.length + m) * bytes ≤ 140737488355328) (h63 : xs.length + m ≤ maxLen) :
    ∃ v' w', (Builtin.append_ #[t, t] ty #[v, .slice A m c]).run P w = .ok v' w' ∧ OwnL L w' base lo e v' (xs ++ ys) ∧ Ext w w' v v' := by
  rcases Nat.eq_zero_or_pos m with h0 | h0
  · subst h0
    have hys : ys = [] := List.eq_nil_of_length_eq_zero hy.len
    subst hys
    rcases A with _ | ad
    · have hc := hy.no rfl
      subst hc
      obtain ⟨i, hi, _⟩ := info_parts hi
      obtain ⟨cs, h1, h2⟩ := hown
      exact ⟨v, w, run_append_owned_none (P := P) (w := w) base t ty e i L.size ht hi v _ _ h1, ⟨cs, by simpa using h1, by simpa using h2⟩, Ext.refl w v⟩
    · exact run_appL w base lo t ty e z bytes ht hi hzs hsz v xs [] [] ad 0 c hown rfl rfl (by simp) hbase hlen h63
  · obtain ⟨b, off, cs, rfl, hb, hr, hc⟩ := hy.row h0
    exact run_appL w base lo t ty e z bytes ht hi hzs hsz v xs ys cs ⟨b, off, none⟩ m c hown (hr.wide hS) hy.len (fun j u hu => by rw [Addr.add_lit]; exact hc j u hu) hbase hlen h63

theorem wpList_catL {α : Type} {L : Lay α} {P : Program} {w : World} {ops : Array Oper} {rest : List Oper} {o : Oper} {a : Act} {Q : Exit → Act → World → Prop} (hgd : Region.wanted o (yielded ops a.tmps) = true) (s x : Operand) (t : TypeId)
    (ho : o.op = .call { callee := .builtin .append, args := #[s, x], argTypes := #[t, t] }) (base : Nat) (lo : Option Nat) (e : TypeId) (z : Value) (bytes : Nat) (ht : P.underlying t = some (.slice e))
    (hi : (P.info? e).map (fun i => (i.zero, i.size, i.bytes)) = some (some z, L.size, bytes)) (hzs : z.cells.size = L.size) (hsz : 0 < L.size) (v : Value) (xs ys : List α) (S : Nat → Prop) (A : Option Addr) (m c : Nat)
    (hs : a.eval s = v) (hxx : a.eval x = .slice A m c)
    (hown : OwnL L w base lo e v xs) (hy : Sl L w S A m c ys) (hS : ∀ b, S b → Els w lo v b) (hbase : base ≤ w.heap.size)
    (hlen : (xs.length + m) * bytes ≤ 140737488355328) (h63 : xs.length + m ≤ maxLen)
    (h : ∀ v' w', OwnL L w' base lo e v' (xs ++ ys) → Ext w w' v v' → wpList P ops Q rest (a.put o.dst v') w') : wpList P ops Q (o :: rest) a w := by
  refine wpList_want hgd fun _ hK => ?_
  obtain ⟨v', w', hrun, h2, h3⟩ := run_catL (P := P) w base lo t o.type e z bytes ht hi hzs hsz v xs ys S A m c hown hy hS hbase hlen h63
  unfold Oper.wp execOp
  simp only [ho, resolve, invoke, builtin, Sem.run_bind, Sem.run_pure, Result.andThen_ok, List.map_toArray, List.map_cons, List.map_nil, hs, hxx, hrun]
  exact hK _ _ (h v' w' h2 h3)

theorem OwnL.lt {α : Type} {L : Lay α} {w : World} {base : Nat} {lo : Option Nat} {e : TypeId} {v : Value} {xs : List α} (h : OwnL L w base lo e v xs) {b : Nat} (hb : v.ownBlock = some b) : b < w.heap.size := by
  obtain ⟨cs, h1, _⟩ := h
  exact (h1.lt b hb).2
/-- 'v = append(v, x)' as the walk meets it: x has just been laid in a new block. -/
theorem wpList_pushL {α : Type} {L : Lay α} {P : Program} {w : World} {ops : Array Oper} {rest : List Oper} {o : Oper} {a : Act} {Q : Exit → Act → World → Prop} (hgd : Region.wanted o (yielded ops a.tmps) = true) (s x : Operand) (t : TypeId)
    (ho : o.op = .call { callee := .builtin .append, args := #[s, x], argTypes := #[t, t] }) (base : Nat) (lo : Option Nat) (e : TypeId) (z : Value) (bytes : Nat) (ht : P.underlying t = some (.slice e))
    (hi : (P.info? e).map (fun i => (i.zero, i.size, i.bytes)) = some (some z, L.size, bytes)) (hzs : z.cells.size = L.size) (hsz : 0 < L.size) (v : Value) (xs : List α) (y : α) (cy : Array Value) (S : Nat → Prop)
    (hs : a.eval s = v) (hxx : a.eval x = .slice (some ⟨w.heap.size, 0, none⟩) 1 1)
    (hown : OwnL L w base lo e v xs) (hy : L.rep w S y cy.toList) (hS : ∀ b, S b → Els w lo v b) (hbase : base ≤ w.heap.size)
    (hlen : (xs.length + 1) * bytes ≤ 140737488355328) (h63 : xs.length + 1 ≤ maxLen)
    (h : ∀ v' w', OwnL L w' base lo e v' (xs ++ [y]) → Ext w w' v v' → wpList P ops Q rest (a.put o.dst v') w') : wpList P ops Q (o :: rest) a (w.alloc (.cells cy e)) := by
  have hb : Below w.heap.size w (w.alloc (.cells cy e)) := bel_alloc (Below.refl _ _) _
  have hk : L.rep (w.alloc (.cells cy e)) (Els (w.alloc (.cells cy e)) lo v) y cy.toList :=
    L.wide (L.keep (L.wide hy hS) fun p hp => hb.cell hp.2.1) fun b hb' => ⟨hb'.1.of_block (hb.block b hb'.2.1), Nat.lt_of_lt_of_le hb'.2.1 hb.size, hb'.2.2⟩
  refine wpList_appL hgd s x t ho base lo e z bytes ht hi hzs hsz v xs [y] cy.toList ⟨w.heap.size, 0, none⟩ 1 1 hs hxx (hown.keep hb) (RepRow.single hk) rfl (fun j u hu => ?_) (by simp; omega) hlen h63
    fun v' w' h2 h3 => h v' w' h2 (((Ext.refl w v).alloc _).trans h3)
  rw [Addr.add_lit, Nat.zero_add, World.cell?_alloc_at _ _ _ _ rfl]
  simpa using hu

theorem rep_of_trod {α : Type} {L : Lay α} {H : Type} {enc : TypeId × Value → H} {P : Program} {W : World} {t : TypeId} {v : Value} {d : DataW H} {p : List MemPlace} (hL : LayOf P t L) (h : DataW.Trod enc P W 0 (fun _ => true) true t v d p) : ∃ x, L.rep W (· < W.heap.size) x v.cells.toList := by
  obtain ⟨fuel, hf⟩ := h
  exact hL.2 H enc W fuel _ _ hf
theorem sl_of_trod {α : Type} {L : Lay α} {H : Type} {enc : TypeId × Value → H} {P : Program} {W : World} {t : TypeId} {a : Option Addr} {len cap : Nat} {d : DataW H} {p : List MemPlace} (hL : LayOf P t (Lay.slice L)) (h : DataW.Trod enc P W 0 (fun _ => true) true t (.slice a len cap) d p) : ∃ xs, Sl L W (· < W.heap.size) a len cap xs := by
  obtain ⟨xs, A, n, c, hv, hs⟩ := rep_of_trod hL h
  simp [Value.cells] at hv
  obtain ⟨rfl, rfl, rfl⟩ := hv
  exact ⟨xs, hs⟩

end Go.Proofs.Ytannjlejghmfpaa
