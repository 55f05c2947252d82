/-
  Plain laws of the octets: what was put is got.
-/
import Derived.Test.YtgiapfenalhleaaBigsizeGet
namespace Go.Proofs.Ytgiapfenalhleaa
open Go.RowKit Go.WalkArith

theorem bhd_zero {n : Int} (h : bhd (fst n) = 0) : fst n = n := by
  unfold fst at h ⊢
  split
  · rfl
  · rename_i h1
    rw [if_neg h1] at h
    split at h
    · simp [bhd] at h
    · split at h <;> simp [bhd] at h
theorem fst_lt {n : Int} (h0 : 0 ≤ n) (hn : n ≤ 18446744073709551615) (h : bhd (fst n) ≠ 0) : n < 2 ^ (8 * bhd (fst n)) := by
  rcases fst_fits h0 (by omega) with ⟨h1, _⟩ | h1
  · exact absurd h1 h
  · exact h1

/-- What was put is got, whatever stands behind. -/
theorem get_put {n : Int} (h0 : 0 ≤ n) (hn : n ≤ 18446744073709551615) (ys : List Int) : getE (oct n ++ ys) = 0 ∧ rdN (oct n ++ ys) = n := by
  have hx : nth (oct n ++ ys) 0 = fst n := rfl
  have hr : rdN (oct n ++ ys) = n := by
    unfold rdN
    rw [hx]
    split
    · exact bhd_zero (by assumption)
    · rename_i hz
      unfold valTo
      have : ((oct n ++ ys).drop 1).take (bhd (fst n)) = high n (bhd (fst n)) := by
        simp only [oct, List.cons_append, List.drop_succ_cons, List.drop_zero]
        rw [List.take_append_of_le_length (by rw [high_len]; omega), List.take_of_length_le (by rw [high_len]; omega)]
      rw [this]
      exact val_high _ _ h0 (fst_lt h0 hn hz)
  refine ⟨?_, hr⟩
  unfold getE
  rw [hr, hx, if_neg (by rw [List.length_append, oct_len]; omega), if_pos rfl]

/-- What is got, put, is what was read. -/
theorem put_get {xs : List Int} (hw : ∀ x ∈ xs, 0 ≤ x ∧ x ≤ 255) (he : getE xs = 0) : oct (rdN xs) = xs.take (oct (rdN xs)).length ∧ (oct (rdN xs)).length ≤ xs.length := by
  obtain ⟨h1, h2⟩ := getE_ok he
  have hl : (oct (rdN xs)).length = 1 + bhd (nth xs 0) := by rw [oct_len, h2]
  refine ⟨?_, by omega⟩
  rw [hl]
  cases xs with
  | nil => simp at h1
  | cons x xs =>
    have hx : nth (x :: xs) 0 = x := rfl
    rw [hx] at h1 h2 ⊢
    unfold oct
    rw [h2, Nat.add_comm, List.take_succ_cons]
    congr 1
    by_cases hz : bhd x = 0
    · rw [hz]; rfl
    · have hr : rdN (x :: xs) = val (xs.take (bhd x)) := by
        unfold rdN
        rw [hx, if_neg hz]
        rfl
      have hlen : (xs.take (bhd x)).length = bhd x := by rw [List.length_take]; simp at h1; omega
      have := high_val (xs.take (bhd x)) fun y hy => hw y (by have := List.mem_of_mem_take hy; simp [this])
      rw [hlen] at this
      rw [hr, this]

theorem octs_cons (n : Int) (l : List Int) : octs (n :: l) = oct n ++ octs l := by simp [octs]
theorem allA_put (l : List Int) (hl : ∀ x ∈ l, 0 ≤ x ∧ x ≤ 18446744073709551615) (f : Nat) (acc : List Int) (hf : (octs l).length ≤ f) : allA f (octs l) acc = (acc ++ l, 0) := by
  induction l generalizing f acc with
  | nil => rw [show octs [] = [] from rfl, allA_nil]; simp
  | cons n l ih =>
    have hn := hl n (by simp)
    obtain ⟨h1, h2⟩ := get_put hn.1 hn.2 (octs l)
    rw [octs_cons] at hf ⊢
    obtain ⟨f', h3, h4⟩ := allA_step f (oct n ++ octs l) acc hf (by simp [oct]) h1
    rw [h2, List.drop_left] at h3 h4
    rw [h3, ih (fun x hx => hl x (by simp [hx])) f' _ h4]
    simp
theorem all_put (l : List Int) (hl : ∀ x ∈ l, 0 ≤ x ∧ x ≤ 18446744073709551615) (h : l.length ≤ 200) : allS (octs l) = (l, 0) := by
  have := octs_len_le l
  unfold allS
  rw [if_pos (by omega), allA_put l hl _ _ (Nat.le_refl _)]
  simp

end Go.Proofs.Ytgiapfenalhleaa
