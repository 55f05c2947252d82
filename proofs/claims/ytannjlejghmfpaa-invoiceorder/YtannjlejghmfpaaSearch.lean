/-
  A row that rises, searched by halves: where a number stands, or would stand; how two numbers stand to each other.
-/
import Derived.Test.YtannjlejghmfpaaStd
namespace Go.Proofs.Ytannjlejghmfpaa
open Go.RowKit Go.WalkArith

/-- How two numbers stand to each other. -/
def cmpI (x y : Int) : Int := if x < y then -1 else if y < x then 1 else 0
theorem isNaN_any (x : Int) (w : World) : Calls Try.prog 50 #[.int .u64 x] w fun e w' => e = .returned (.bool false) ∧ w = w' := by
  have h : (x != x) = false := by simp
  go_enter Try.func50, Try.ntmps50
  go_wp2
  go_ret
  exact ⟨rfl, rfl⟩
theorem compare_any (x y : Int) (w : World) : Calls Try.prog 46 #[.int .u64 x, .int .u64 y] w fun e w' => e = .returned (.int .i64 (cmpI x y)) ∧ w = w' := by
  go_enter Try.func46, Try.ntmps46
  go_wp2_with (go_at_call 50; refine (isNaN_any _ _).mono ?_; rintro e w' ⟨rfl, rfl⟩)
  all_goals (go_ret; exact ⟨ret_num (by unfold cmpI; (repeat' split) <;> omega), rfl⟩)

section
variable {α : Type} {f : α → Int} {l : List α} {t : Int}
def UpF (f : α → Int) (l : List α) : Prop := l.Pairwise fun a b => f a < f b
/-- k is the first place that is not below t. -/
def AtF (f : α → Int) (l : List α) (t : Int) (k : Nat) : Prop := k ≤ l.length ∧ (∀ (i : Nat) (h : i < l.length), i < k → f l[i] < t) ∧ ∀ (i : Nat) (h : i < l.length), k ≤ i → t ≤ f l[i]
/-- What a search knows of its two ends. -/
def EndsF (f : α → Int) (l : List α) (t : Int) (i j : Nat) : Prop := i ≤ j ∧ j ≤ l.length ∧ (∀ (k : Nat) (h : k < l.length), k < i → f l[k] < t) ∧ ∀ (k : Nat) (h : k < l.length), j ≤ k → t ≤ f l[k]
/-- Whether it stands there. -/
def hitF (f : α → Int) (l : List α) (t : Int) (k : Nat) : Bool := match l[k]? with | some x => f x == t | none => false
theorem hitF_get {k : Nat} (h : k < l.length) : hitF f l t k = (f l[k] == t) := by simp [hitF, List.getElem?_eq_getElem h]
theorem hitF_out {k : Nat} (h : l.length ≤ k) : hitF f l t k = false := by simp [hitF, List.getElem?_eq_none h]
theorem EndsF.up {i j m : Nat} (h : EndsF f l t i j) (hr : UpF f l) (hm : m < j) (hi : i ≤ m) (hx : m < l.length) (hlt : f l[m] < t) : EndsF f l t (m + 1) j := by
  refine ⟨by omega, h.2.1, fun k hk hkm => ?_, h.2.2.2⟩
  rcases Nat.lt_or_ge k m with h1 | h1
  · have := List.pairwise_iff_getElem.1 hr k m hk hx h1
    omega
  · obtain rfl : k = m := by omega
    exact hlt
theorem EndsF.down {i j m : Nat} (h : EndsF f l t i j) (hr : UpF f l) (hi : i ≤ m) (hx : m < l.length) (hlt : ¬ f l[m] < t) : EndsF f l t i m := by
  refine ⟨hi, by omega, h.2.2.1, fun k hk hmk => ?_⟩
  rcases Nat.lt_or_ge m k with h1 | h1
  · have := List.pairwise_iff_getElem.1 hr m k hx hk h1
    omega
  · obtain rfl : k = m := by omega
    omega
theorem AtF.lt {k : Nat} (h : AtF f l t k) : (l.filter fun x => decide (f x < t)) = l.take k := by
  conv => lhs; rw [← List.take_append_drop k l]
  rw [List.filter_append, List.filter_eq_self.2, List.filter_eq_nil_iff.2, List.append_nil]
  · intro r hr
    obtain ⟨i, hi, rfl⟩ := List.getElem_of_mem hr
    rw [List.getElem_drop]
    rw [List.length_drop] at hi
    have := h.2.2 (k + i) (by omega) (by omega)
    simpa using this
  · intro r hr
    obtain ⟨i, hi, rfl⟩ := List.getElem_of_mem hr
    rw [List.getElem_take]
    rw [List.length_take] at hi
    have := h.2.1 i (by omega) (by omega)
    simpa using this
theorem AtF.gt {k : Nat} (h : AtF f l t k) (hr : UpF f l) : (l.filter fun x => decide (t < f x)) = l.drop (if hitF f l t k = true then k + 1 else k) := by
  have key : ∀ m, (∀ (i : Nat) (h : i < l.length), i < m → ¬ t < f l[i]) → (∀ (i : Nat) (h : i < l.length), m ≤ i → t < f l[i]) → (l.filter fun x => decide (t < f x)) = l.drop m := by
    intro m h1 h2
    conv => lhs; rw [← List.take_append_drop m l]
    rw [List.filter_append, List.filter_eq_nil_iff.2, List.filter_eq_self.2, List.nil_append]
    · intro r hr
      obtain ⟨i, hi, rfl⟩ := List.getElem_of_mem hr
      rw [List.getElem_drop]
      rw [List.length_drop] at hi
      have := h2 (m + i) (by omega) (by omega)
      simpa using this
    · intro r hr
      obtain ⟨i, hi, rfl⟩ := List.getElem_of_mem hr
      rw [List.getElem_take]
      rw [List.length_take] at hi
      have := h1 i (by omega) (by omega)
      simpa using this
  split
  · rename_i he
    rcases Nat.lt_or_ge k l.length with hk | hk
    · rw [hitF_get hk] at he
      have he : f l[k] = t := by simpa using he
      refine key (k + 1) (fun i hi hik => ?_) fun i hi hik => ?_
      · rcases Nat.lt_or_ge i k with h1 | h1
        · have := h.2.1 i hi h1; omega
        · obtain rfl : i = k := by omega
          omega
      · have := List.pairwise_iff_getElem.1 hr k i hk hi (by omega)
        omega
    · rw [hitF_out hk] at he; cases he
  · rename_i he
    refine key k (fun i hi hik => by have := h.2.1 i hi hik; omega) fun i hi hik => ?_
    have h3 := h.2.2 k (by omega) (Nat.le_refl _)
    rw [hitF_get (by omega)] at he
    have he : f l[k] ≠ t := by simpa using he
    rcases Nat.lt_or_ge k i with h1 | h1
    · have h2 := List.pairwise_iff_getElem.1 hr k i (by omega) hi h1
      omega
    · obtain rfl : i = k := by omega
      omega
theorem AtF.find {k : Nat} (h : AtF f l t k) (hx : hitF f l t k = true) : ∃ hk : k < l.length, f l[k] = t ∧ (l.find? fun x => f x == t) = some l[k] := by
  rcases Nat.lt_or_ge k l.length with hk | hk
  · rw [hitF_get hk] at hx
    have he : f l[k] = t := by simpa using hx
    refine ⟨hk, he, ?_⟩
    rw [List.find?_eq_some_iff_getElem]
    refine ⟨by simpa using he, k, hk, rfl, fun j hj => ?_⟩
    have := h.2.1 j (by omega) hj
    simp; omega
  · rw [hitF_out hk] at hx; cases hx
theorem AtF.none {k : Nat} (h : AtF f l t k) (hr : UpF f l) (hx : hitF f l t k = false) : (l.find? fun x => f x == t) = Option.none := by
  rw [List.find?_eq_none]
  intro x hm
  obtain ⟨i, hi, rfl⟩ := List.getElem_of_mem hm
  have : f l[i] ≠ t := by
    rcases Nat.lt_or_ge i k with h1 | h1
    · have := h.2.1 i hi h1; omega
    · have hk : k < l.length := by omega
      rw [hitF_get hk] at hx
      have hx : f l[k] ≠ t := by simpa using hx
      have h3 := h.2.2 k hk (Nat.le_refl _)
      rcases Nat.lt_or_ge k i with h2 | h2
      · have := List.pairwise_iff_getElem.1 hr k i hk hi h2
        omega
      · obtain rfl : i = k := by omega
        exact hx
  simpa using this
/-- What is put together around a place. -/
theorem AtF.with_set {k : Nat} (h : AtF f l t k) (hr : UpF f l) (hx : hitF f l t k = true) (r : α) : (l.filter fun x => decide (f x < t)) ++ [r] ++ (l.filter fun x => decide (t < f x)) = l.set k r := by
  obtain ⟨hk, -, -⟩ := h.find hx
  rw [h.lt, h.gt hr, if_pos hx, List.set_eq_take_append_cons_drop, if_pos hk, List.append_assoc]
  rfl
theorem AtF.with_new {k : Nat} (h : AtF f l t k) (hr : UpF f l) (hx : hitF f l t k = false) (r : α) : (l.filter fun x => decide (f x < t)) ++ [r] ++ (l.filter fun x => decide (t < f x)) = l.take k ++ [r] ++ l.drop k := by
  rw [h.lt, h.gt hr, if_neg (by simp [hx])]
end
end Go.Proofs.Ytannjlejghmfpaa
