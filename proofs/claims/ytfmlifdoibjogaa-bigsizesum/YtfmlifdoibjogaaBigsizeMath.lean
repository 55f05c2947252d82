/-
  Numbers as octets: the plain functions, and what holds of them. No program.
-/
import Derived.Test.YtfmlifdoibjogaaMem
import Derived.OpenShut
namespace Go.Proofs.Ytfmlifdoibjogaa
open Go.RowKit Go.WalkArith

/-- The first octet of n. -/
def fst (n : Int) : Int := if n < 253 then n else if n < 65536 then 253 else if n < 4294967296 then 254 else 255
/-- How many octets stand behind a first one. -/
def bhd (f : Int) : Nat := if f = 253 then 2 else if f = 254 then 4 else if f = 255 then 8 else 0
/-- The last k octets of n, the highest one first. -/
def high (n : Int) : Nat → List Int
  | 0 => []
  | k + 1 => n / 2 ^ (8 * k) % 256 :: high n k
def oct (n : Int) : List Int := fst n :: high n (bhd (fst n))
def octs (l : List Int) : List Int := l.flatMap oct

theorem fst_bd (n : Int) (h0 : 0 ≤ n) : 0 ≤ fst n ∧ fst n ≤ 255 := by unfold fst; split <;> (try split) <;> (try split) <;> omega
theorem bhd_le (f : Int) : bhd f ≤ 8 := by unfold bhd; split <;> (try split) <;> (try split) <;> omega
theorem high_len (n : Int) (k : Nat) : (high n k).length = k := by induction k with | zero => rfl | succ k ih => simp [high, ih]
theorem high_take (n : Int) (k j : Nat) (h : j < k) : (high n k).take (j + 1) = (high n k).take j ++ [n / 2 ^ (8 * (k - 1 - j)) % 256] := by
  induction k generalizing j with
  | zero => omega
  | succ k ih =>
    cases j with
    | zero => simp [high]
    | succ j =>
      simp only [high, List.take_succ_cons, List.cons_append]
      rw [ih j (by omega), show k + 1 - 1 - (j + 1) = k - 1 - j from by omega]
theorem high_bd (n : Int) (k : Nat) : ∀ x ∈ high n k, 0 ≤ x ∧ x ≤ 255 := by
  induction k with
  | zero => simp [high]
  | succ k ih =>
    intro x hx
    simp only [high, List.mem_cons] at hx
    rcases hx with rfl | hx
    · omega
    · exact ih x hx
theorem oct_bd (n : Int) (h0 : 0 ≤ n) : ∀ x ∈ oct n, 0 ≤ x ∧ x ≤ 255 := by
  intro x hx
  simp only [oct, List.mem_cons] at hx
  rcases hx with rfl | hx
  · exact fst_bd n h0
  · exact high_bd _ _ x hx
theorem oct_len (n : Int) : (oct n).length = 1 + bhd (fst n) := by simp [oct, high_len]; omega
theorem octs_len_le (l : List Int) : (octs l).length ≤ 9 * l.length := by
  induction l with
  | nil => simp [octs]
  | cons x l ih =>
    have h1 := oct_len x
    have h2 := bhd_le (fst x)
    simp only [octs, List.flatMap_cons, List.length_append, List.length_cons] at ih ⊢
    omega
theorem octs_append (a b : List Int) : octs (a ++ b) = octs a ++ octs b := by simp [octs]
theorem octs_take (xs : List Int) (j : Nat) (h : j < xs.length) : octs (xs.take (j + 1)) = octs (xs.take j) ++ oct (xs.getD j 0) := by
  rw [List.take_succ_eq_append_getElem h, octs_append]
  simp [octs, List.getD, List.getElem?_eq_getElem h]
theorem getD_mem {xs : List Int} {j : Nat} (h : j < xs.length) : xs.getD j 0 ∈ xs := by
  simp [List.getD, List.getElem?_eq_getElem h]

/-- The order of texts. -/
def lexLt : List Int → List Int → Bool
  | _, [] => false
  | [], _ :: _ => true
  | a :: x, b :: y => decide (a < b) || (decide (a = b) && lexLt x y)

theorem u8_inj {x y : Int} (hx : 0 ≤ x ∧ x ≤ 255) (hy : 0 ≤ y ∧ y ≤ 255) (h : UInt8.ofNat x.toNat = UInt8.ofNat y.toNat) : x = y := by
  have h1 : (UInt8.ofNat x.toNat).toNat = (UInt8.ofNat y.toNat).toNat := by rw [h]
  simp only [UInt8.toNat_ofNat'] at h1
  omega
theorem str_list (xs : List Int) : (strOfNums xs).toList = xs.map fun n => UInt8.ofNat n.toNat := by simp [strOfNums]
theorem str_inj {xs ys : List Int} (hx : ∀ x ∈ xs, 0 ≤ x ∧ x ≤ 255) (hy : ∀ x ∈ ys, 0 ≤ x ∧ x ≤ 255) (h : (strOfNums xs).toList = (strOfNums ys).toList) : xs = ys := by
  rw [str_list, str_list] at h
  induction xs generalizing ys with
  | nil => cases ys with | nil => rfl | cons y ys => simp at h
  | cons x xs ih =>
    cases ys with
    | nil => simp at h
    | cons y ys =>
      simp only [List.map_cons, List.cons.injEq] at h
      rw [u8_inj (hx x (by simp)) (hy y (by simp)) h.1, ih (fun z hz => hx z (by simp [hz])) (fun z hz => hy z (by simp [hz])) h.2]
theorem str_eq {xs ys : List Int} (hx : ∀ x ∈ xs, 0 ≤ x ∧ x ≤ 255) (hy : ∀ x ∈ ys, 0 ≤ x ∧ x ≤ 255) : ((strOfNums xs).toList == (strOfNums ys).toList) = decide (xs = ys) := by
  by_cases h : xs = ys
  · subst h; simp
  · have : ¬ (strOfNums xs).toList = (strOfNums ys).toList := fun e => h (str_inj hx hy e)
    rw [decide_eq_false h]
    exact beq_eq_false_iff_ne.2 this
theorem str_lt {xs ys : List Int} (hx : ∀ x ∈ xs, 0 ≤ x ∧ x ≤ 255) (hy : ∀ x ∈ ys, 0 ≤ x ∧ x ≤ 255) : Op.bytesLess (strOfNums xs).toList (strOfNums ys).toList = lexLt xs ys := by
  rw [str_list, str_list]
  induction xs generalizing ys with
  | nil => cases ys <;> rfl
  | cons x xs ih =>
    cases ys with
    | nil => rfl
    | cons y ys =>
      have bx := hx x (by simp)
      have by_ := hy y (by simp)
      simp only [List.map_cons, Op.bytesLess, lexLt]
      rw [ih (fun z hz => hx z (by simp [hz])) (fun z hz => hy z (by simp [hz]))]
      congr 1
      · rw [Bool.eq_iff_iff]
        simp [UInt8.lt_iff_toNat_lt, UInt8.toNat_ofNat']
        omega
      · congr 1
        by_cases h : x = y
        · subst h; simp
        · rw [decide_eq_false h]
          exact beq_eq_false_iff_ne.2 fun e => h (u8_inj bx by_ e)

theorem pow_pos8 (k : Nat) : (0 : Int) < 2 ^ (8 * k) := Int.pow_pos (by omega)
theorem pow_succ8 (k : Nat) : (2 : Int) ^ (8 * (k + 1)) = 2 ^ (8 * k) * 256 := by rw [show 8 * (k + 1) = 8 * k + 8 from by omega, Int.pow_add]; rfl
theorem high_snoc (n : Int) (k : Nat) : high n (k + 1) = high (n / 256) k ++ [n % 256] := by
  induction k with
  | zero => simp [high]
  | succ k ih =>
    rw [high, ih]
    simp only [high, List.cons_append, List.cons.injEq, and_true]
    rw [pow_succ8, Int.mul_comm, Int.ediv_ediv_of_nonneg (by omega)]
theorem lex_snoc (a b : List Int) (x y : Int) (h : a.length = b.length) : lexLt (a ++ [x]) (b ++ [y]) = (lexLt a b || (decide (a = b) && decide (x < y))) := by
  induction a generalizing b with
  | nil =>
    cases b with
    | nil => simp [lexLt]
    | cons => simp at h
  | cons u a ih =>
    cases b with
    | nil => simp at h
    | cons v b =>
      simp only [List.cons_append, lexLt]
      rw [ih b (by simpa using h)]
      by_cases e : u = v
      · subst e; simp
      · simp [e]
theorem lex_high (k : Nat) (n m : Int) (hn : 0 ≤ n) (hm : m < 2 ^ (8 * k)) (h : n < m) : lexLt (high n k) (high m k) = true := by
  induction k generalizing n m with
  | zero => simp at hm; omega
  | succ k ih =>
    rw [high_snoc n, high_snoc m, lex_snoc _ _ _ _ (by rw [high_len, high_len])]
    rw [pow_succ8] at hm
    have hm' : m / 256 < 2 ^ (8 * k) := Int.ediv_lt_of_lt_mul (by omega) hm
    by_cases hq : n / 256 < m / 256
    · rw [ih _ _ (by omega) hm' hq]; rfl
    · have e : n / 256 = m / 256 := by omega
      have : n % 256 < m % 256 := by omega
      rw [e]
      simp [this]
theorem lex_irrefl (a : List Int) : lexLt a a = false := by
  induction a with
  | nil => rfl
  | cons x a ih => simp [lexLt, ih]
theorem fst_mono {n m : Int} (h : n < m) : fst n ≤ fst m := by unfold fst; (repeat' split) <;> omega
theorem bhd_mono {n m : Int} (h : fst n ≤ fst m) (hb : fst m ≤ 255) : bhd (fst n) ≤ bhd (fst m) := by unfold bhd; (repeat' split) <;> omega
theorem fst_fits {m : Int} (h0 : 0 ≤ m) (hm : m < 18446744073709551616) : bhd (fst m) = 0 ∧ m < 253 ∧ fst m = m ∨ m < 2 ^ (8 * bhd (fst m)) := by
  unfold fst
  repeat' split
  · exact .inl ⟨by unfold bhd; (repeat' split) <;> omega, by omega, rfl⟩
  · right; simp [bhd]; omega
  · right; simp [bhd]; omega
  · right; simp [bhd]; omega
/-- Of two different numbers: the octets of the smaller one are no more, come ahead, and do not begin the other's. -/
theorem oct_apart {n m : Int} (hn : 0 ≤ n) (hm : m < 18446744073709551616) (h : n < m) :
    (oct n).length ≤ (oct m).length ∧ lexLt (oct n) (oct m) = true ∧ oct n ≠ (oct m).take (oct n).length := by
  have f1 := fst_mono h
  have f2 := fst_bd m (by omega)
  have hl : (oct n).length ≤ (oct m).length := by rw [oct_len, oct_len]; have := bhd_mono f1 f2.2; omega
  by_cases hf : fst n < fst m
  · refine ⟨hl, by simp [oct, lexLt, hf], fun e => ?_⟩
    rw [oct_len, Nat.add_comm] at e
    simp only [oct, List.take_succ_cons, List.cons.injEq] at e
    omega
  · have hfe : fst n = fst m := by omega
    have hlt : lexLt (oct n) (oct m) = true := by
      simp only [oct, lexLt, hfe]
      rcases fst_fits (m := m) (by omega) hm with ⟨_, _, h3⟩ | h4
      · exfalso
        rw [h3] at hfe
        unfold fst at hfe
        revert hfe
        repeat' split
        all_goals omega
      · rw [lex_high _ n m hn h4 h]; simp
    refine ⟨hl, hlt, fun e => ?_⟩
    rw [List.take_of_length_le (by rw [oct_len, oct_len, hfe]; omega)] at e
    rw [e, lex_irrefl] at hlt
    cases hlt
theorem wf_bytes {xs : List Int} (h : ∀ x ∈ xs, (Lit.int .u8 x).wf = true) : ∀ x ∈ xs, 0 ≤ x ∧ x ≤ 255 := fun x hx => bounds_u8 (h x hx)

end Go.Proofs.Ytfmlifdoibjogaa
