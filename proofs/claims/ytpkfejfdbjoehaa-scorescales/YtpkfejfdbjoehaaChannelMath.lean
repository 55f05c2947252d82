/-
  Channels, plain: which may be, what is held, settled, failed, pushed, and closed.
-/
import Derived.Test.YtpkfejfdbjoehaaChannelTypes
import Derived.Test.YtpkfejfdbjoehaaMoneyMath
namespace Go.Proofs.Ytpkfejfdbjoehaa
open Go.RowKit Go.WalkArith

def zeroCh : Chn := ⟨0, 0, 0, 0, 0, [], false⟩
def numsH (l : List Hld) : List Int := l.map (·.N)
def HUp (l : List Hld) : Prop := l.Pairwise fun a b => a.Id < b.Id
def heldN (c : Chn) : Int := sumM (numsH c.Holds)
def ChOk (c : Chn) : Prop := c.Reserve ≤ mMax ∧ c.Most ≤ mMax ∧ c.Holds.length ≤ 64 ∧ (c.Open = false → c.Holds = []) ∧ (∀ h ∈ c.Holds, h.N ≠ 0) ∧ HUp c.Holds ∧ allLe mMax (numsH c.Holds) = true ∧ heldN c ≤ c.Most ∧ c.Local ≤ mMax ∧ c.Remote ≤ mMax ∧ c.Local + c.Remote + heldN c ≤ mMax
noncomputable instance (c : Chn) : Decidable (ChOk c) := Classical.propDecidable _
noncomputable def chE (c : Chn) : Int := if ChOk c then 0 else 1
noncomputable def heV (c : Chn) : Int := if ChOk c then heldN c else 0
noncomputable def aaV (c : Chn) : Int := if ChOk c then c.Local + c.Remote + heldN c else 0
def roomN (c : Chn) : Int := if c.Open = false ∨ c.Holds.length = 64 ∨ c.Local < c.Reserve then 0 else min (c.Local - c.Reserve) (c.Most - heldN c)
noncomputable def rmV (c : Chn) : Int := if ChOk c then roomN c else 0
def holdF (l : List Hld) (id : Int) : Option Hld := l.find? fun r => r.Id == id
def withH (l : List Hld) (r : Hld) : List Hld := (l.filter fun x => decide (x.Id < r.Id)) ++ [r] ++ l.filter fun x => decide (r.Id < x.Id)
def lessH (l : List Hld) (id : Int) : List Hld := l.filter fun x => x.Id != id
noncomputable def hoE (c : Chn) (id n : Int) : Int :=
  if ChOk c ∧ n ≠ 0 ∧ n ≤ mMax then (if c.Open = false then 14 else if (holdF c.Holds id).isSome = true then 6 else if c.Holds.length = 64 then 7 else if c.Local < c.Reserve ∨ c.Local - c.Reserve < n then 9 else if c.Most - heldN c < n then 8 else 0) else 1
noncomputable def hoC (c : Chn) (id n : Int) : Chn := if hoE c id n = 0 then ⟨c.Id, c.Local - n, c.Remote, c.Reserve, c.Most, withH c.Holds ⟨id, n⟩, c.Open⟩ else zeroCh
noncomputable def wtE (c : Chn) (id : Int) : Int := if ChOk c then (match holdF c.Holds id with | none => 5 | some _ => 0) else 1
noncomputable def wtN (c : Chn) (id : Int) : Int := if ChOk c then (match holdF c.Holds id with | none => 0 | some h => h.N) else 0
noncomputable def seC (c : Chn) (id : Int) : Chn := if wtE c id = 0 then ⟨c.Id, c.Local, c.Remote + wtN c id, c.Reserve, c.Most, lessH c.Holds id, c.Open⟩ else zeroCh
noncomputable def faC (c : Chn) (id : Int) : Chn := if wtE c id = 0 then ⟨c.Id, c.Local + wtN c id, c.Remote, c.Reserve, c.Most, lessH c.Holds id, c.Open⟩ else zeroCh
noncomputable def puE (c : Chn) (n : Int) : Int := if ChOk c ∧ n ≤ mMax then (if c.Open = false then 14 else if c.Remote < n then 9 else 0) else 1
noncomputable def puC (c : Chn) (n : Int) : Chn := if puE c n = 0 then ⟨c.Id, c.Local + n, c.Remote - n, c.Reserve, c.Most, c.Holds, c.Open⟩ else zeroCh
noncomputable def clE (c : Chn) : Int := if ChOk c then (if c.Open = false then 14 else if 0 < c.Holds.length then 10 else 0) else 1
noncomputable def clC (c : Chn) : Chn := if clE c = 0 then ⟨c.Id, c.Local, c.Remote, c.Reserve, c.Most, c.Holds, false⟩ else zeroCh

theorem holdF_some {l : List Hld} {id : Int} {r : Hld} (h : holdF l id = some r) : r ∈ l ∧ r.Id = id := by
  have h1 := List.mem_of_find?_eq_some h
  have h2 := List.find?_some h
  exact ⟨h1, by simpa using h2⟩
theorem holdF_none {l : List Hld} {id : Int} (h : holdF l id = none) : ∀ r ∈ l, r.Id ≠ id := fun r hr => by
  have := List.find?_eq_none.1 h r hr
  simpa using this
theorem hup_one {l : List Hld} (h : HUp l) {a b : Hld} (ha : a ∈ l) (hb : b ∈ l) (e : a.Id = b.Id) : a = b := by
  obtain ⟨i, hi, rfl⟩ := List.getElem_of_mem ha
  obtain ⟨j, hj, rfl⟩ := List.getElem_of_mem hb
  rcases Nat.lt_trichotomy i j with q | q | q
  · have := List.pairwise_iff_getElem.1 h i j hi hj q; omega
  · subst q; rfl
  · have := List.pairwise_iff_getElem.1 h j i hj hi q; omega
theorem holdF_mem {l : List Hld} (h : HUp l) {r : Hld} (hr : r ∈ l) : holdF l r.Id = some r := by
  cases hf : holdF l r.Id with
  | none => exact absurd rfl (holdF_none hf r hr)
  | some x =>
    obtain ⟨h1, h2⟩ := holdF_some hf
    rw [hup_one h h1 hr h2]
/-- Rows that rise are the same if the same are in them. -/
theorem hup_ext : ∀ {a b : List Hld}, HUp a → HUp b → (∀ x, x ∈ a ↔ x ∈ b) → a = b
  | [], [], _, _, _ => rfl
  | [], y :: b, _, _, h => by have := (h y).2 (by simp); simp at this
  | x :: a, [], _, _, h => by have := (h x).1 (by simp); simp at this
  | x :: a, y :: b, ha, hb, h => by
    have ha' := List.pairwise_cons.1 ha
    have hb' := List.pairwise_cons.1 hb
    have e : x = y := by
      rcases List.mem_cons.1 ((h x).1 (by simp)) with e | h1
      · exact e
      · rcases List.mem_cons.1 ((h y).2 (by simp)) with e | h2
        · exact e.symm
        · have := hb'.1 x h1
          have := ha'.1 y h2
          omega
    subst e
    rw [hup_ext ha'.2 hb'.2 fun z => by
      constructor
      · intro hz
        rcases List.mem_cons.1 ((h z).1 (by simp [hz])) with e | k
        · subst e; have := ha'.1 z hz; omega
        · exact k
      · intro hz
        rcases List.mem_cons.1 ((h z).2 (by simp [hz])) with e | k
        · subst e; have := hb'.1 z hz; omega
        · exact k]
theorem hwith_mem {l : List Hld} {r x : Hld} : x ∈ withH l r ↔ (x ∈ l ∧ x.Id ≠ r.Id) ∨ x = r := by
  unfold withH
  simp only [List.mem_append, List.mem_filter, List.mem_singleton, decide_eq_true_eq]
  constructor
  · rintro ((⟨h1, h2⟩ | h) | ⟨h1, h2⟩)
    · exact .inl ⟨h1, by omega⟩
    · exact .inr h
    · exact .inl ⟨h1, by omega⟩
  · rintro (⟨h1, h2⟩ | h)
    · rcases Int.lt_or_gt_of_ne h2 with q | q
      · exact .inl (.inl ⟨h1, q⟩)
      · exact .inr ⟨h1, q⟩
    · exact .inl (.inr h)
theorem hwith_up {l : List Hld} (h : HUp l) (r : Hld) : HUp (withH l r) := by
  unfold withH HUp
  rw [List.pairwise_append, List.pairwise_append]
  refine ⟨⟨h.filter _, List.pairwise_singleton _ _, fun a ha b hb => ?_⟩, h.filter _, fun a ha b hb => ?_⟩
  · simp only [List.mem_filter, decide_eq_true_eq] at ha
    simp only [List.mem_singleton] at hb
    subst hb; exact ha.2
  · simp only [List.mem_append, List.mem_filter, List.mem_singleton, decide_eq_true_eq] at ha hb
    rcases ha with ⟨_, ha⟩ | rfl
    · omega
    · exact hb.2
theorem hfilters_len (l : List Hld) (k : Int) : (l.filter fun x => decide (x.Id < k)).length + (l.filter fun x => decide (k < x.Id)).length + (l.filter fun x => x.Id == k).length = l.length := by
  induction l with
  | nil => rfl
  | cons x l ih =>
    simp only [List.filter_cons, List.length_cons]
    rcases Int.lt_trichotomy x.Id k with q | q | q
    · rw [if_pos (by simpa using q), if_neg (by simp; omega), if_neg (by simp; omega)]
      simp only [List.length_cons]; omega
    · rw [if_neg (by simp; omega), if_neg (by simp; omega), if_pos (by simpa using q)]
      simp only [List.length_cons]; omega
    · rw [if_neg (by simp; omega), if_pos (by simpa using q), if_neg (by simp; omega)]
      simp only [List.length_cons]; omega
theorem hwith_len (l : List Hld) (r : Hld) : (withH l r).length + (l.filter fun x => x.Id == r.Id).length = l.length + 1 := by
  have := hfilters_len l r.Id
  unfold withH
  simp only [List.length_append, List.length_singleton]
  omega
theorem hwith_len_new {l : List Hld} {r : Hld} (h : holdF l r.Id = none) : (withH l r).length = l.length + 1 := by
  have h1 := hwith_len l r
  have : (l.filter fun x => x.Id == r.Id) = [] := List.filter_eq_nil_iff.2 fun x hx => by have := holdF_none h x hx; simpa using this
  rw [this] at h1
  simpa using h1

/-! ### Sums -/
theorem sum_parts (l : List Hld) (k : Int) : sumM (numsH (l.filter fun x => decide (x.Id < k))) + sumM (numsH (l.filter fun x => decide (k < x.Id))) + sumM (numsH (l.filter fun x => x.Id == k)) = sumM (numsH l) := by
  induction l with
  | nil => rfl
  | cons x l ih =>
    simp only [List.filter_cons, numsH, List.map_cons, sumM] at ih ⊢
    rcases Int.lt_trichotomy x.Id k with q | q | q
    · rw [if_pos (by simpa using q), if_neg (by simp; omega), if_neg (by simp; omega)]
      simp only [List.map_cons, sumM]; omega
    · rw [if_neg (by simp; omega), if_neg (by simp; omega), if_pos (by simpa using q)]
      simp only [List.map_cons, sumM]; omega
    · rw [if_neg (by simp; omega), if_pos (by simpa using q), if_neg (by simp; omega)]
      simp only [List.map_cons, sumM]; omega
theorem sum_less (l : List Hld) (k : Int) : sumM (numsH (lessH l k)) + sumM (numsH (l.filter fun x => x.Id == k)) = sumM (numsH l) := by
  induction l with
  | nil => rfl
  | cons x l ih =>
    simp only [lessH, List.filter_cons, numsH, List.map_cons, sumM] at ih ⊢
    by_cases q : x.Id = k
    · rw [if_neg (by simp; omega), if_pos (by simpa using q)]
      simp only [List.map_cons, sumM]; omega
    · rw [if_pos (by simpa using q), if_neg (by simp; omega)]
      simp only [List.map_cons, sumM]; omega
theorem len_less (l : List Hld) (k : Int) : (lessH l k).length + (l.filter fun x => x.Id == k).length = l.length := by
  induction l with
  | nil => rfl
  | cons x l ih =>
    simp only [lessH, List.filter_cons, List.length_cons] at ih ⊢
    by_cases q : x.Id = k
    · rw [if_neg (by simp; omega), if_pos (by simpa using q)]
      simp only [List.length_cons]; omega
    · rw [if_pos (by simpa using q), if_neg (by simp; omega)]
      simp only [List.length_cons]; omega
theorem only_none {l : List Hld} {id : Int} (h : holdF l id = none) : (l.filter fun x => x.Id == id) = [] := List.filter_eq_nil_iff.2 fun x hx => by have := holdF_none h x hx; simpa using this
theorem only_one {l : List Hld} (hu : HUp l) {id : Int} {r : Hld} (h : holdF l id = some r) : (l.filter fun x => x.Id == id) = [r] := by
  obtain ⟨h1, h2⟩ := holdF_some h
  refine hup_ext (hu.filter _) (List.pairwise_singleton _ _) fun x => ?_
  rw [List.mem_filter, List.mem_singleton]
  constructor
  · rintro ⟨k1, k2⟩
    exact hup_one hu k1 h1 (by rw [h2]; simpa using k2)
  · rintro rfl
    exact ⟨h1, by simpa using h2⟩
theorem sum_with {l : List Hld} {r : Hld} (h : holdF l r.Id = none) : sumM (numsH (withH l r)) = sumM (numsH l) + r.N := by
  have h1 := sum_parts l r.Id
  rw [only_none h] at h1
  unfold withH
  simp only [numsH, List.map_append, sumM_append, List.map_cons, List.map_nil, sumM] at h1 ⊢
  omega
theorem sum_gone {l : List Hld} (hu : HUp l) {id : Int} {r : Hld} (h : holdF l id = some r) : sumM (numsH (lessH l id)) = sumM (numsH l) - r.N := by
  have h1 := sum_less l id
  rw [only_one hu h] at h1
  simp only [numsH, List.map_cons, List.map_nil, sumM] at h1 ⊢
  omega
theorem len_gone {l : List Hld} (hu : HUp l) {id : Int} {r : Hld} (h : holdF l id = some r) : (lessH l id).length + 1 = l.length := by
  have h1 := len_less l id
  rw [only_one hu h] at h1
  simpa using h1
theorem less_up {l : List Hld} (hu : HUp l) (id : Int) : HUp (lessH l id) := hu.filter _
theorem less_mem {l : List Hld} {id : Int} {x : Hld} : x ∈ lessH l id ↔ x ∈ l ∧ x.Id ≠ id := by simp [lessH, List.mem_filter]
theorem less_none {l : List Hld} {id : Int} : holdF (lessH l id) id = none := by
  refine List.find?_eq_none.2 fun x hx => ?_
  have := (less_mem.1 hx).2
  simpa using this
theorem less_other {l : List Hld} (hu : HUp l) {id other : Int} (h : other ≠ id) : holdF (lessH l id) other = holdF l other := by
  cases hf : holdF l other with
  | none =>
    refine List.find?_eq_none.2 fun x hx => ?_
    have := holdF_none hf x (less_mem.1 hx).1
    simpa using this
  | some r =>
    obtain ⟨h1, h2⟩ := holdF_some hf
    have := holdF_mem (less_up hu id) (r := r) (less_mem.2 ⟨h1, by rw [h2]; exact h⟩)
    rw [h2] at this
    exact this
theorem less_with {l : List Hld} (hu : HUp l) {r : Hld} (h : holdF l r.Id = none) : lessH (withH l r) r.Id = l := by
  refine hup_ext (less_up (hwith_up hu r) _) hu fun x => ?_
  rw [less_mem, hwith_mem]
  constructor
  · rintro ⟨⟨k1, -⟩ | rfl, k3⟩
    · exact k1
    · exact absurd rfl k3
  · exact fun k => ⟨.inl ⟨k, holdF_none h x k⟩, holdF_none h x k⟩
theorem with_found {l : List Hld} (hu : HUp l) (r : Hld) : holdF (withH l r) r.Id = some r := holdF_mem (hwith_up hu r) (hwith_mem.2 (.inr rfl))
theorem less_comm (l : List Hld) (a b : Int) : lessH (lessH l a) b = lessH (lessH l b) a := by
  unfold lessH
  rw [List.filter_filter, List.filter_filter]
  congr 1
  funext x
  rw [Bool.and_comm]
def HldsWf (l : List Hld) : Prop := ∀ x ∈ l, HldWf x
theorem nums_nonneg {l : List Hld} (h : HldsWf l) : ∀ x ∈ numsH l, 0 ≤ x := fun x hx => by
  obtain ⟨y, hy, rfl⟩ := List.mem_map.1 hx
  exact (bounds_u64 (h y hy).num).1
theorem held_nonneg {c : Chn} (h : HldsWf c.Holds) : 0 ≤ heldN c := sumM_nonneg (nums_nonneg h)
theorem num_le {l : List Hld} (h : HldsWf l) {x : Hld} (hx : x ∈ l) : x.N ≤ sumM (numsH l) := le_sumM (nums_nonneg h) x.N (List.mem_map.2 ⟨x, hx, rfl⟩)
end Go.Proofs.Ytpkfejfdbjoehaa
