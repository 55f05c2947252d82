/-
  Numbers as octets: the plain functions, and what holds of them. No program.
-/
import Derived.Test.YtannjlejghmfpaaMem
import Derived.OpenShut
import Derived.Laws.BitsAllLaws
namespace Go.Proofs.Ytannjlejghmfpaa
open Go.RowKit Go.WalkArith

/-- The first octet of n. -/
def fst (n : Int) : Int := if n < 253 then n else if n < 65536 then 253 else if n < 4294967296 then 254 else 255
/-- How many octets stand behind a first one. -/
def bhd (f : Int) : Nat := if f = 253 then 2 else if f = 254 then 4 else if f = 255 then 8 else 0
/-- The last k octets of n, the highest one first. -/
def high (n : Int) : Nat → List Int
  | 0 => []
  | k + 1 => n / 2 ^ (8 * k) % 256 :: high n k
def oct (n : Int) : List Int := fst n :: high n (bhd (fst n))
def octs (l : List Int) : List Int := l.flatMap oct

theorem fst_bd (n : Int) (h0 : 0 ≤ n) : 0 ≤ fst n ∧ fst n ≤ 255 := by unfold fst; split <;> (try split) <;> (try split) <;> omega
theorem bhd_le (f : Int) : bhd f ≤ 8 := by unfold bhd; split <;> (try split) <;> (try split) <;> omega
theorem high_len (n : Int) (k : Nat) : (high n k).length = k := by induction k with | zero => rfl | succ k ih => simp [high, ih]
theorem high_take (n : Int) (k j : Nat) (h : j < k) : (high n k).take (j + 1) = (high n k).take j ++ [n / 2 ^ (8 * (k - 1 - j)) % 256] := by
  induction k generalizing j with
  | zero => omega
  | succ k ih =>
    cases j with
    | zero => simp [high]
    | succ j =>
      simp only [high, List.take_succ_cons, List.cons_append]
      rw [ih j (by omega), show k + 1 - 1 - (j + 1) = k - 1 - j from by omega]
theorem high_bd (n : Int) (k : Nat) : ∀ x ∈ high n k, 0 ≤ x ∧ x ≤ 255 := by
  induction k with
  | zero => simp [high]
  | succ k ih =>
    intro x hx
    simp only [high, List.mem_cons] at hx
    rcases hx with rfl | hx
    · omega
    · exact ih x hx
theorem oct_bd (n : Int) (h0 : 0 ≤ n) : ∀ x ∈ oct n, 0 ≤ x ∧ x ≤ 255 := by
  intro x hx
  simp only [oct, List.mem_cons] at hx
  rcases hx with rfl | hx
  · exact fst_bd n h0
  · exact high_bd _ _ x hx
theorem oct_len (n : Int) : (oct n).length = 1 + bhd (fst n) := by simp [oct, high_len]; omega
theorem octs_len_le (l : List Int) : (octs l).length ≤ 9 * l.length := by
  induction l with
  | nil => simp [octs]
  | cons x l ih =>
    have h1 := oct_len x
    have h2 := bhd_le (fst x)
    simp only [octs, List.flatMap_cons, List.length_append, List.length_cons] at ih ⊢
    omega
theorem octs_append (a b : List Int) : octs (a ++ b) = octs a ++ octs b := by simp [octs]
theorem octs_take (xs : List Int) (j : Nat) (h : j < xs.length) : octs (xs.take (j + 1)) = octs (xs.take j) ++ oct (nth xs j) := by
  rw [List.take_succ_eq_append_getElem h, octs_append]
  simp [octs, nth_get h]

/-- The order of texts. -/
def lexLt : List Int → List Int → Bool
  | _, [] => false
  | [], _ :: _ => true
  | a :: x, b :: y => decide (a < b) || (decide (a = b) && lexLt x y)

theorem u8_inj {x y : Int} (hx : 0 ≤ x ∧ x ≤ 255) (hy : 0 ≤ y ∧ y ≤ 255) (h : UInt8.ofNat x.toNat = UInt8.ofNat y.toNat) : x = y := by
  have h1 : (UInt8.ofNat x.toNat).toNat = (UInt8.ofNat y.toNat).toNat := by rw [h]
  simp only [UInt8.toNat_ofNat'] at h1
  omega
theorem str_list (xs : List Int) : (strOfNums xs).toList = xs.map fun n => UInt8.ofNat n.toNat := by simp [strOfNums]
theorem str_inj {xs ys : List Int} (hx : ∀ x ∈ xs, 0 ≤ x ∧ x ≤ 255) (hy : ∀ x ∈ ys, 0 ≤ x ∧ x ≤ 255) (h : (strOfNums xs).toList = (strOfNums ys).toList) : xs = ys := by
  rw [str_list, str_list] at h
  induction xs generalizing ys with
  | nil => cases ys with | nil => rfl | cons y ys => simp at h
  | cons x xs ih =>
    cases ys with
    | nil => simp at h
    | cons y ys =>
      simp only [List.map_cons, List.cons.injEq] at h
      rw [u8_inj (hx x (by simp)) (hy y (by simp)) h.1, ih (fun z hz => hx z (by simp [hz])) (fun z hz => hy z (by simp [hz])) h.2]
theorem str_eq {xs ys : List Int} (hx : ∀ x ∈ xs, 0 ≤ x ∧ x ≤ 255) (hy : ∀ x ∈ ys, 0 ≤ x ∧ x ≤ 255) : ((strOfNums xs).toList == (strOfNums ys).toList) = decide (xs = ys) := by
  by_cases h : xs = ys
  · subst h; simp
  · have : ¬ (strOfNums xs).toList = (strOfNums ys).toList := fun e => h (str_inj hx hy e)
    rw [decide_eq_false h]
    exact beq_eq_false_iff_ne.2 this
theorem str_lt {xs ys : List Int} (hx : ∀ x ∈ xs, 0 ≤ x ∧ x ≤ 255) (hy : ∀ x ∈ ys, 0 ≤ x ∧ x ≤ 255) : Op.bytesLess (strOfNums xs).toList (strOfNums ys).toList = lexLt xs ys := by
  rw [str_list, str_list]
  induction xs generalizing ys with
  | nil => cases ys <;> rfl
  | cons x xs ih =>
    cases ys with
    | nil => rfl
    | cons y ys =>
      have bx := hx x (by simp)
      have by_ := hy y (by simp)
      simp only [List.map_cons, Op.bytesLess, lexLt]
      rw [ih (fun z hz => hx z (by simp [hz])) (fun z hz => hy z (by simp [hz]))]
      congr 1
      · rw [Bool.eq_iff_iff]
        simp [UInt8.lt_iff_toNat_lt, UInt8.toNat_ofNat']
        omega
      · congr 1
        by_cases h : x = y
        · subst h; simp
        · rw [decide_eq_false h]
          exact beq_eq_false_iff_ne.2 fun e => h (u8_inj bx by_ e)

theorem pow_pos8 (k : Nat) : (0 : Int) < 2 ^ (8 * k) := Int.pow_pos (by omega)
theorem pow_succ8 (k : Nat) : (2 : Int) ^ (8 * (k + 1)) = 2 ^ (8 * k) * 256 := by rw [show 8 * (k + 1) = 8 * k + 8 from by omega, Int.pow_add]; rfl
theorem high_snoc (n : Int) (k : Nat) : high n (k + 1) = high (n / 256) k ++ [n % 256] := by
  induction k with
  | zero => simp [high]
  | succ k ih =>
    rw [high, ih]
    simp only [high, List.cons_append, List.cons.injEq, and_true]
    rw [pow_succ8, Int.mul_comm, Int.ediv_ediv_of_nonneg (by omega)]
theorem lex_snoc (a b : List Int) (x y : Int) (h : a.length = b.length) : lexLt (a ++ [x]) (b ++ [y]) = (lexLt a b || (decide (a = b) && decide (x < y))) := by
  induction a generalizing b with
  | nil =>
    cases b with
    | nil => simp [lexLt]
    | cons => simp at h
  | cons u a ih =>
    cases b with
    | nil => simp at h
    | cons v b =>
      simp only [List.cons_append, lexLt]
      rw [ih b (by simpa using h)]
      by_cases e : u = v
      · subst e; simp
      · simp [e]
theorem lex_high (k : Nat) (n m : Int) (hn : 0 ≤ n) (hm : m < 2 ^ (8 * k)) (h : n < m) : lexLt (high n k) (high m k) = true := by
  induction k generalizing n m with
  | zero => simp at hm; omega
  | succ k ih =>
    rw [high_snoc n, high_snoc m, lex_snoc _ _ _ _ (by rw [high_len, high_len])]
    rw [pow_succ8] at hm
    have hm' : m / 256 < 2 ^ (8 * k) := Int.ediv_lt_of_lt_mul (by omega) hm
    by_cases hq : n / 256 < m / 256
    · rw [ih _ _ (by omega) hm' hq]; rfl
    · have e : n / 256 = m / 256 := by omega
      have : n % 256 < m % 256 := by omega
      rw [e]
      simp [this]
theorem lex_irrefl (a : List Int) : lexLt a a = false := by
  induction a with
  | nil => rfl
  | cons x a ih => simp [lexLt, ih]
theorem fst_mono {n m : Int} (h : n < m) : fst n ≤ fst m := by unfold fst; (repeat' split) <;> omega
theorem bhd_mono {n m : Int} (h : fst n ≤ fst m) (hb : fst m ≤ 255) : bhd (fst n) ≤ bhd (fst m) := by unfold bhd; (repeat' split) <;> omega
theorem fst_fits {m : Int} (h0 : 0 ≤ m) (hm : m < 18446744073709551616) : bhd (fst m) = 0 ∧ m < 253 ∧ fst m = m ∨ m < 2 ^ (8 * bhd (fst m)) := by
  unfold fst
  repeat' split
  · exact .inl ⟨by unfold bhd; (repeat' split) <;> omega, by omega, rfl⟩
  · right; simp [bhd]; omega
  · right; simp [bhd]; omega
  · right; simp [bhd]; omega
/-- Of two different numbers: the octets of the smaller one are no more, come ahead, and do not begin the other's. -/
theorem oct_apart {n m : Int} (hn : 0 ≤ n) (hm : m < 18446744073709551616) (h : n < m) :
    (oct n).length ≤ (oct m).length ∧ lexLt (oct n) (oct m) = true ∧ oct n ≠ (oct m).take (oct n).length := by
  have f1 := fst_mono h
  have f2 := fst_bd m (by omega)
  have hl : (oct n).length ≤ (oct m).length := by rw [oct_len, oct_len]; have := bhd_mono f1 f2.2; omega
  by_cases hf : fst n < fst m
  · refine ⟨hl, by simp [oct, lexLt, hf], fun e => ?_⟩
    rw [oct_len, Nat.add_comm] at e
    simp only [oct, List.take_succ_cons, List.cons.injEq] at e
    omega
  · have hfe : fst n = fst m := by omega
    have hlt : lexLt (oct n) (oct m) = true := by
      simp only [oct, lexLt, hfe]
      rcases fst_fits (m := m) (by omega) hm with ⟨_, _, h3⟩ | h4
      · exfalso
        rw [h3] at hfe
        unfold fst at hfe
        revert hfe
        repeat' split
        all_goals omega
      · rw [lex_high _ n m hn h4 h]; simp
    refine ⟨hl, hlt, fun e => ?_⟩
    rw [List.take_of_length_le (by rw [oct_len, oct_len, hfe]; omega)] at e
    rw [e, lex_irrefl] at hlt
    cases hlt
theorem wf_bytes {xs : List Int} (h : ∀ x ∈ xs, (Lit.int .u8 x).wf = true) : ∀ x ∈ xs, 0 ≤ x ∧ x ≤ 255 := fun x hx => bounds_u8 (h x hx)

theorem snoc_ind {α : Type} {p : List α → Prop} (l : List α) (nil : p []) (snoc : ∀ l x, p l → p (l ++ [x])) : p l := by
  rw [← List.reverse_reverse l]
  induction l.reverse with
  | nil => exact nil
  | cons x l ih => rw [List.reverse_cons]; exact snoc _ _ ih
/-- The number whose octets these are. -/
def val (l : List Int) : Int := l.foldl (fun a b => a * 256 + b) 0
theorem val_snoc (l : List Int) (x : Int) : val (l ++ [x]) = val l * 256 + x := by simp [val]
theorem val_bd (l : List Int) (h : ∀ x ∈ l, 0 ≤ x ∧ x ≤ 255) : 0 ≤ val l ∧ val l < 2 ^ (8 * l.length) := by
  induction l using snoc_ind with
  | nil => simp [val]
  | snoc l x ih =>
    have h1 := ih fun y hy => h y (by simp [hy])
    have h2 := h x (by simp)
    rw [val_snoc, List.length_append, List.length_singleton, pow_succ8]
    omega
theorem high_val (l : List Int) (h : ∀ x ∈ l, 0 ≤ x ∧ x ≤ 255) : high (val l) l.length = l := by
  induction l using snoc_ind with
  | nil => simp [high]
  | snoc l x ih =>
    have h1 := ih fun y hy => h y (by simp [hy])
    have h2 := h x (by simp)
    rw [val_snoc, List.length_append, List.length_singleton, high_snoc, show (val l * 256 + x) / 256 = val l from by omega, h1, show (val l * 256 + x) % 256 = x from by omega]
theorem val_high (k : Nat) (n : Int) (h0 : 0 ≤ n) (hn : n < 2 ^ (8 * k)) : val (high n k) = n := by
  induction k generalizing n with
  | zero => simp at hn; simp [high, val]; omega
  | succ k ih =>
    rw [pow_succ8] at hn
    rw [high_snoc, val_snoc, ih (n / 256) (by omega) (Int.ediv_lt_of_lt_mul (by omega) hn)]
    omega

/-- What 'read' tells. -/
def valTo (xs : List Int) (j : Nat) : Int := val ((xs.drop 1).take j)
def rdN (xs : List Int) : Int := if bhd (nth xs 0) = 0 then nth xs 0 else valTo xs (bhd (nth xs 0))
theorem valTo_succ (xs : List Int) (j : Nat) (h : 1 + j < xs.length) : valTo xs (j + 1) = valTo xs j * 256 + nth xs (1 + j) := by
  unfold valTo
  rw [List.take_succ_eq_append_getElem (by rw [List.length_drop]; omega), val_snoc, nth_get h]
  simp [Nat.add_comm]
theorem valTo_bd (xs : List Int) (j : Nat) (hw : ∀ x ∈ xs, 0 ≤ x ∧ x ≤ 255) : 0 ≤ valTo xs j ∧ valTo xs j < 2 ^ (8 * j) := by
  have h := val_bd ((xs.drop 1).take j) fun x hx => hw x (List.mem_of_mem_drop (List.mem_of_mem_take hx))
  refine ⟨h.1, Int.lt_of_lt_of_le h.2 ?_⟩
  have : ((xs.drop 1).take j).length ≤ j := List.length_take_le _ _
  exact_mod_cast Nat.pow_le_pow_right (by omega) (by omega : 8 * ((xs.drop 1).take j).length ≤ 8 * j)
theorem pow8_le (j : Nat) (h : j ≤ 7) : (2 : Int) ^ (8 * j) ≤ 72057594037927936 := by
  have : j = 0 ∨ j = 1 ∨ j = 2 ∨ j = 3 ∨ j = 4 ∨ j = 5 ∨ j = 6 ∨ j = 7 := by omega
  rcases this with h | h | h | h | h | h | h | h <;> subst h <;> decide
theorem or_byte (v y : Int) (h0 : 0 ≤ v) (h1 : v < 72057594037927936) (h2 : 0 ≤ y) (h3 : y ≤ 255) : bits .or .u64 (v * 256) y = v * 256 + y := by
  obtain ⟨a, rfl⟩ := Int.eq_ofNat_of_zero_le h0
  obtain ⟨b, rfl⟩ := Int.eq_ofNat_of_zero_le h2
  have h := u64_or_nat (a * 256) b (by omega) (by omega)
  rw [show ((a * 256 : Nat) : Int) = (a : Int) * 256 from by simp] at h
  rw [h]
  have h8 := Nat.shiftLeft_add_eq_or_of_lt (b := b) (i := 8) (by omega) a
  rw [Nat.shiftLeft_eq] at h8
  rw [show a * 256 = a * 2 ^ 8 from rfl, ← h8]
  simp

/-- The error that 'Get' tells. -/
def getE (xs : List Int) : Int := if xs.length ≤ bhd (nth xs 0) then 3 else if fst (rdN xs) = nth xs 0 then 0 else 2
theorem rdN_bd (xs : List Int) (hl : 0 < xs.length) (hw : ∀ x ∈ xs, 0 ≤ x ∧ x ≤ 255) : 0 ≤ rdN xs ∧ rdN xs ≤ 18446744073709551615 := by
  have h1 := hw _ (nth_mem hl)
  have h2 := valTo_bd xs (bhd (nth xs 0)) hw
  unfold rdN
  split
  · omega
  · refine ⟨h2.1, ?_⟩
    have h3 : bhd (nth xs 0) = 2 ∨ bhd (nth xs 0) = 4 ∨ bhd (nth xs 0) = 8 := by
      rename_i hz
      unfold bhd at hz ⊢
      revert hz
      (repeat' split) <;> omega
    rcases h3 with h | h | h <;> rw [h] at h2 ⊢ <;> simp at h2 <;> omega

end Go.Proofs.Ytannjlejghmfpaa
