/-
  Floats as scores: one order of all words of float64, by a pair of whole numbers; opposites; what is no number.
  The opposite of a float, and what is multiplied by it; by nothing.
-/
import Derived.Test.YtpkfejfdbjoehaaMem
import Derived.Laws.FloatArith
namespace Go.Proofs.Ytpkfejfdbjoehaa
open Go.RowKit Go.WalkArith

abbrev dbl : Ieee.Format := FloatKind.f64.format
theorem dbl_is : dbl = Ieee.double := rfl
def nanB (x : Nat) : Bool := (dbl.read x).isNaN
/-- Where a datum stands among scores. -/
def datK : Ieee.Datum → Int × Int
  | .nan .. => (-2, 0)
  | .infinity s => (if s then -1 else 1, 0)
  | .number s m i => (0, Ieee.signed s m (i - dbl.leastPlace).toNat)
def scK (x : Nat) : Int × Int := datK (dbl.read x)
def ltK (p q : Int × Int) : Bool := decide (p.1 < q.1) || (p.1 == q.1 && decide (p.2 < q.2))
theorem ltK_iff {p q : Int × Int} : ltK p q = true ↔ p.1 < q.1 ∨ (p.1 = q.1 ∧ p.2 < q.2) := by simp [ltK]
theorem ltK_no {p q : Int × Int} : ltK p q = false ↔ ¬ (p.1 < q.1 ∨ (p.1 = q.1 ∧ p.2 < q.2)) := by rw [← ltK_iff]; simp
theorem ltK_irr (p : Int × Int) : ltK p p = false := ltK_no.2 (by omega)
theorem ltK_asym {p q : Int × Int} (h : ltK p q = true) : ltK q p = false := ltK_no.2 (by have := ltK_iff.1 h; omega)
theorem ltK_trans {p q r : Int × Int} (h : ltK p q = true) (h2 : ltK q r = true) : ltK p r = true := ltK_iff.2 (by have := ltK_iff.1 h; have := ltK_iff.1 h2; omega)
theorem ltK_same {p q : Int × Int} (h : ltK p q = false) (h2 : ltK q p = false) : p = q := by
  have a := ltK_no.1 h
  have b := ltK_no.1 h2
  have e1 : p.1 = q.1 := by omega
  have e2 : p.2 = q.2 := by omega
  exact Prod.ext e1 e2
theorem ltK_le {p q r : Int × Int} (h : ltK p q = false) (h2 : ltK q r = false) : ltK p r = false := ltK_no.2 (by have := ltK_no.1 h; have := ltK_no.1 h2; omega)

theorem read_place {x : Nat} {s : Bool} {m : Nat} {i : Int} (h : dbl.read x = .number s m i) : dbl.leastPlace ≤ i := by
  unfold Ieee.Format.read at h
  simp only at h
  split at h
  · injection h with _ _ h; omega
  · split at h
    · injection h with _ _ h; omega
    · split at h <;> cases h
theorem signed_scale (s : Bool) (m a b : Nat) : Ieee.signed s m (a + b) = Ieee.signed s m a * 2 ^ b := by
  unfold Ieee.signed
  rw [Nat.shiftLeft_eq, Nat.shiftLeft_eq, Nat.pow_add, ← Nat.mul_assoc]
  cases s <;> simp [Int.neg_mul]
theorem scale_lt (x y : Int) (b : Nat) : (x * 2 ^ b < y * 2 ^ b) ↔ x < y := by
  have : (0 : Int) < 2 ^ b := Int.pow_pos (by decide)
  exact Int.mul_lt_mul_right this
theorem cmp_scale (x y : Int) (b : Nat) : compare (x * 2 ^ b) (y * 2 ^ b) = compare x y := by
  have h1 := scale_lt x y b
  have h2 := scale_lt y x b
  rcases Int.lt_trichotomy x y with q | q | q
  · rw [Int.compare_eq_lt.2 q, Int.compare_eq_lt.2 (h1.2 q)]
  · rw [q]
    rw [Int.compare_eq_eq.2 rfl, Int.compare_eq_eq.2 rfl]
  · rw [Int.compare_eq_gt.2 q, Int.compare_eq_gt.2 (h2.2 q)]
/-- How two words that are numbers stand to each other. -/
def cmpK (p q : Int × Int) : Ordering := if ltK p q = true then .lt else if ltK q p = true then .gt else .eq
theorem order_is (x y : Nat) : dbl.order x y = if nanB x = true ∨ nanB y = true then none else some (cmpK (scK x) (scK y)) := by
  unfold Ieee.Format.order nanB scK
  have hx := @read_place x
  have hy := @read_place y
  cases h1 : dbl.read x with
  | nan s t => simp [Ieee.Datum.order, Ieee.Datum.isNaN]
  | infinity s =>
    cases h2 : dbl.read y with
    | nan t u => simp [Ieee.Datum.order, Ieee.Datum.isNaN]
    | infinity t => cases s <;> cases t <;> simp [Ieee.Datum.order, Ieee.Datum.isNaN, datK, cmpK, ltK] <;> rfl
    | number t n j => cases s <;> simp [Ieee.Datum.order, Ieee.Datum.isNaN, datK, cmpK, ltK]
  | number s m i =>
    cases h2 : dbl.read y with
    | nan t u => simp [Ieee.Datum.order, Ieee.Datum.isNaN]
    | infinity t => cases t <;> simp [Ieee.Datum.order, Ieee.Datum.isNaN, datK, cmpK, ltK]
    | number t n j =>
      have hi := hx h1
      have hj := hy h2
      have e : Ieee.Datum.order (.number s m i) (.number t n j) = some (compare (Ieee.signed s m (i - min i j).toNat) (Ieee.signed t n (j - min i j).toNat)) := rfl
      rw [e, if_neg (by simp [Ieee.Datum.isNaN])]
      congr 1
      have k1 : (i - dbl.leastPlace).toNat = (i - min i j).toNat + (min i j - dbl.leastPlace).toNat := by omega
      have k2 : (j - dbl.leastPlace).toNat = (j - min i j).toNat + (min i j - dbl.leastPlace).toNat := by omega
      show compare (Ieee.signed s m (i - min i j).toNat) (Ieee.signed t n (j - min i j).toNat) = cmpK (0, Ieee.signed s m (i - dbl.leastPlace).toNat) (0, Ieee.signed t n (j - dbl.leastPlace).toNat)
      rw [k1, k2, signed_scale, signed_scale, ← cmp_scale _ _ (min i j - dbl.leastPlace).toNat]
      generalize Ieee.signed s m (i - min i j).toNat * 2 ^ (min i j - dbl.leastPlace).toNat = a
      generalize Ieee.signed t n (j - min i j).toNat * 2 ^ (min i j - dbl.leastPlace).toNat = b
      unfold cmpK
      rcases Int.lt_trichotomy a b with q | q | q
      · rw [Int.compare_eq_lt.2 q, if_pos ((ltK_iff (p := (0, a)) (q := (0, b))).2 (.inr ⟨rfl, q⟩))]
      · rw [q, Int.compare_eq_eq.2 rfl, if_neg (by rw [ltK_irr]; simp), if_neg (by rw [ltK_irr]; simp)]
      · rw [Int.compare_eq_gt.2 q, if_neg (by rw [ltK_no.2 (by simp; omega)]; simp), if_pos ((ltK_iff (p := (0, b)) (q := (0, a))).2 (.inr ⟨rfl, q⟩))]
theorem nan_key {x : Nat} : nanB x = true ↔ (scK x).1 = -2 := by
  unfold nanB scK
  cases dbl.read x with
  | nan s t => simp [Ieee.Datum.isNaN, datK]
  | infinity s => cases s <;> simp [Ieee.Datum.isNaN, datK]
  | number s m i => simp [Ieee.Datum.isNaN, datK]
theorem key_ge (x : Nat) : -2 ≤ (scK x).1 := by
  unfold scK
  cases dbl.read x with
  | nan s t => simp [datK]
  | infinity s => cases s <;> simp [datK]
  | number s m i => simp [datK]
theorem nan_is {x : Nat} (h : nanB x = true) : scK x = (-2, 0) := by
  unfold nanB at h
  unfold scK
  cases hr : dbl.read x with
  | nan s t => rfl
  | infinity s => rw [hr] at h; simp [Ieee.Datum.isNaN] at h
  | number s m i => rw [hr] at h; simp [Ieee.Datum.isNaN] at h
theorem order_ne (x : Nat) : (dbl.order x x != some .eq) = nanB x := by
  rw [order_is]
  cases h : nanB x with
  | true => simp
  | false => simp [cmpK, ltK_irr]
theorem order_same (x : Nat) : (dbl.order x x == some .eq) = !nanB x := by
  rw [order_is]
  cases h : nanB x with
  | true => simp
  | false => simp [cmpK, ltK_irr]
theorem order_lt (x y : Nat) (h : nanB x = false) : (dbl.order x y == some .lt) = ltK (scK x) (scK y) := by
  rw [order_is]
  cases hy : nanB y with
  | true =>
    have k := nan_key.1 hy
    have k2 := key_ge x
    rw [if_pos (.inr rfl)]
    exact (ltK_no.2 (by
      rw [nan_is hy]
      intro q
      have e : ¬ (scK x).1 = -2 := fun e => by rw [nan_key.2 e] at h; cases h
      simp at q
      omega)).symm
  | false =>
    rw [if_neg (by simp [h])]
    unfold cmpK
    cases hl : ltK (scK x) (scK y) with
    | true => simp
    | false =>
      cases hg : ltK (scK y) (scK x) <;> simp
theorem nan_lt {x y : Nat} (h : nanB x = true) : ltK (scK x) (scK y) = !nanB y := by
  rw [nan_is h]
  cases hy : nanB y with
  | true => rw [nan_is hy]; rfl
  | false =>
    have k2 := key_ge y
    have e : ¬ (scK y).1 = -2 := fun e => by rw [nan_key.2 e] at hy; cases hy
    exact ltK_iff.2 (.inl (by show -2 < (scK y).1; omega))

/-! ### What an operation gives: just those bits, or one that is no number -/
def FVal (o : Option Nat) (r : Nat) : Prop := match o with | some b => r = b | none => nanB r = true
def keyO (o : Option Nat) : Int × Int := match o with | some b => scK b | none => (-2, 0)
theorem FVal.key {o : Option Nat} {r : Nat} (h : FVal o r) : scK r = keyO o := by
  cases o with
  | none => exact nan_is h
  | some b => exact congrArg scK h
theorem nan_word (t : Nat) : nanB (t % 2 * 2 ^ 63 + 0x7ff0000000000000 + 1 + t / 2 % (2 ^ 52 - 1)) = true := by
  have h1 : (t % 2 * 2 ^ 63 + 0x7ff0000000000000 + 1 + t / 2 % (2 ^ 52 - 1)) % dbl.signWeight = 0x7ff0000000000000 + 1 + t / 2 % (2 ^ 52 - 1) := by
    show (t % 2 * 2 ^ 63 + 0x7ff0000000000000 + 1 + t / 2 % (2 ^ 52 - 1)) % 2 ^ 63 = _
    have := Nat.mod_lt (t / 2) (show 0 < 2 ^ 52 - 1 by decide)
    omega
  have h2 : dbl.binade = 2 ^ 52 := rfl
  have h3 : dbl.infRung = 0x7ff0000000000000 := by decide
  unfold nanB Ieee.Format.read
  simp only [h1]
  rw [if_neg (by rw [h2]; omega), if_neg (by rw [h3]; omega), if_neg (by rw [h3]; omega)]
  rfl
theorem nan_wf (t : Nat) : (Lit.float .f64 (t % 2 * 2 ^ 63 + 0x7ff0000000000000 + 1 + t / 2 % (2 ^ 52 - 1))).wf = true := by
  refine wf_of_lt .f64 _ ?_
  show _ < 2 ^ 64
  have := Nat.mod_lt (t / 2) (show 0 < 2 ^ 52 - 1 by decide)
  omega
section
variable {P : Program} (w : World)
theorem run_float (op : BinOp) (ho : op = .add ∨ op = .sub ∨ op = .mul ∨ op = .quo) (t : TypeId) (x y : Nat) : ∃ r w', (binOp op t (.float .f64 x) (.float .f64 y)).run P w = .ok (.float .f64 r) w' ∧ FVal (floatBits op .f64 x y) r ∧ (Lit.float .f64 r).wf = true ∧ Below w.heap.size w w' := by
  cases hf : floatBits op .f64 x y with
  | some r => exact ⟨r, w, run_float_arith w op t .f64 x y r hf, rfl, floatBits_wf hf, Below.refl _ _⟩
  | none =>
    refine ⟨(Question.nanBits .f64 x y).cut (w.tape w.drawn (.nanBits .f64 x y)), w.drew, ?_, nan_word _, nan_wf _, (Below.refl _ _).drew⟩
    unfold floatBits at hf
    rcases ho with rfl | rfl | rfl | rfl <;> simp only at hf <;> simp [binOp, Op.floatArith, hf, Question.forced]
end
end Go.Proofs.Ytpkfejfdbjoehaa
namespace Go.Proofs.Ytpkfejfdbjoehaa
open Go.RowKit Go.WalkArith

def negK (p : Int × Int) : Int × Int := (-p.1, -p.2)
/-- A sign, and a rung, read. -/
def rdS (s : Bool) (R : Nat) : Ieee.Datum :=
  if R < dbl.binade then .number s R dbl.leastPlace
  else if R < dbl.infRung then .number s (dbl.binade + R % dbl.binade) (dbl.leastPlace + (R / dbl.binade - 1 : Nat))
  else if R = dbl.infRung then .infinity s
  else .nan s (R - dbl.infRung)
theorem read_is (x : Nat) : dbl.read x = rdS (x / dbl.signWeight % 2 == 1) (x % dbl.signWeight) := rfl
theorem sw_is : dbl.signWeight = 2 ^ 63 := rfl
theorem read_word (s : Bool) (R : Nat) (h : R < dbl.signWeight) : dbl.read (dbl.word s R) = rdS s R := by
  rw [read_is, sw_is]
  rw [sw_is] at h
  unfold Ieee.Format.word
  cases s with
  | true =>
    rw [if_pos rfl, sw_is]
    have h1 : (2 ^ 63 + R) / 2 ^ 63 = 1 := by omega
    have h2 : (2 ^ 63 + R) % 2 ^ 63 = R := by omega
    rw [h1, h2]; rfl
  | false =>
    rw [if_neg (by simp)]
    have h1 : R / 2 ^ 63 = 0 := by omega
    have h2 : R % 2 ^ 63 = R := by omega
    rw [h1, h2]; rfl
theorem signed_neg (s : Bool) (m a : Nat) : Ieee.signed (!s) m a = - Ieee.signed s m a := by
  unfold Ieee.signed
  cases s <;> simp
theorem rdS_nan (s : Bool) (R : Nat) : (rdS s R).isNaN = true ↔ dbl.infRung < R := by
  have hb : dbl.binade ≤ dbl.infRung := by decide
  unfold rdS
  split
  · simp [Ieee.Datum.isNaN]; omega
  · split
    · simp [Ieee.Datum.isNaN]; omega
    · split
      · simp [Ieee.Datum.isNaN]; omega
      · simp [Ieee.Datum.isNaN]; omega
theorem rdS_opp {s : Bool} {R : Nat} (h : R ≤ dbl.infRung) : datK (rdS (!s) R) = negK (datK (rdS s R)) := by
  unfold rdS
  split
  · simp only [datK, negK, signed_neg]; rfl
  · split
    · simp only [datK, negK, signed_neg]; rfl
    · rw [if_pos (by omega), if_pos (by omega)]
      cases s <;> rfl
theorem neg_word {x : Nat} : (Go.Op.negFloat .f64 x) / dbl.signWeight % 2 = 1 - x / dbl.signWeight % 2 ∧ (Go.Op.negFloat .f64 x) % dbl.signWeight = x % dbl.signWeight := by
  have e : Go.Op.negFloat .f64 x = x ^^^ 2 ^ 63 := rfl
  rw [e, sw_is, Nat.xor_div_two_pow, Nat.xor_mod_two_pow]
  refine ⟨?_, by simp⟩
  have h2 : (2 : Nat) ^ 63 / 2 ^ 63 = 1 := by decide
  rw [h2]
  have := @Nat.xor_mod_two_pow (x / 2 ^ 63) 1 1
  rw [Nat.pow_one] at this
  rw [this]
  rcases Nat.mod_two_eq_zero_or_one (x / 2 ^ 63) with q | q <;> rw [q] <;> rfl
theorem read_neg (x : Nat) : dbl.read (Go.Op.negFloat .f64 x) = rdS (!(x / dbl.signWeight % 2 == 1)) (x % dbl.signWeight) := by
  obtain ⟨h1, h2⟩ := @neg_word x
  rw [read_is, h1, h2]
  congr 1
  rcases Nat.mod_two_eq_zero_or_one (x / dbl.signWeight) with q | q <;> rw [q] <;> rfl
theorem nan_neg (x : Nat) : nanB (Go.Op.negFloat .f64 x) = nanB x := by
  unfold nanB
  rw [Bool.eq_iff_iff, read_neg, read_is, rdS_nan, rdS_nan]
theorem key_neg {x : Nat} (h : nanB x = false) : scK (Go.Op.negFloat .f64 x) = negK (scK x) := by
  unfold scK
  rw [read_neg, read_is]
  refine rdS_opp ?_
  unfold nanB at h
  rw [read_is] at h
  have := mt (rdS_nan (x / dbl.signWeight % 2 == 1) (x % dbl.signWeight)).2 (by rw [h]; simp)
  omega
/-- The rung that a datum is written at. -/
def rungOf : Ieee.Datum → Nat
  | .number _ m p => dbl.nearest false m p
  | .infinity _ => dbl.infRung
  | .nan _ _ => 0
theorem word_false (R : Nat) : dbl.word false R = R := rfl
theorem near_sign (s : Bool) (m : Nat) (p : Int) : dbl.nearest s m p = dbl.word s (dbl.nearest false m p) ∧ dbl.nearest false m p ≤ dbl.infRung := by
  unfold Ieee.Format.nearest
  split
  · exact ⟨rfl, Nat.zero_le _⟩
  · refine ⟨?_, ?_⟩
    · rw [word_false]
      rfl
    · rw [word_false]
      exact Nat.min_le_right _ _
theorem write_sign {d : Ieee.Datum} (h : d.isNaN = false) : dbl.write d = dbl.word d.neg (rungOf d) ∧ rungOf d ≤ dbl.infRung := by
  cases d with
  | nan s t => simp [Ieee.Datum.isNaN] at h
  | infinity s => exact ⟨rfl, Nat.le_refl _⟩
  | number s m p => exact near_sign s m p
theorem opp_word {d : Ieee.Datum} (h : d.isNaN = false) : nanB (dbl.write d) = false ∧ scK (dbl.write d.opposite) = negK (scK (dbl.write d)) := by
  obtain ⟨h1, h2⟩ := write_sign h
  have h3 : d.opposite.isNaN = false := by cases d <;> simp_all [Ieee.Datum.opposite, Ieee.Datum.isNaN]
  obtain ⟨h4, -⟩ := write_sign h3
  have h5 : rungOf d.opposite = rungOf d := by cases d <;> rfl
  have h6 : d.opposite.neg = !d.neg := by cases d <;> rfl
  have h7 : rungOf d < dbl.signWeight := Nat.lt_of_le_of_lt h2 (by decide)
  refine ⟨?_, ?_⟩
  · unfold nanB
    rw [h1, read_word _ _ h7, Bool.eq_false_iff]
    intro q
    have := (rdS_nan _ _).1 q
    omega
  · unfold scK
    rw [h4, h1, h5, h6, read_word _ _ h7, read_word _ _ h7]
    exact rdS_opp h2
theorem product_opp (a b : Ieee.Datum) : a.opposite.product b = (a.product b).map Ieee.Datum.opposite := by
  cases a with
  | nan s t => cases b <;> rfl
  | infinity s =>
    cases b with
    | nan u v => rfl
    | infinity u => simp [Ieee.Datum.opposite, Ieee.Datum.product]
    | number u n j => by_cases h : n = 0 <;> simp [Ieee.Datum.opposite, Ieee.Datum.product, h]
  | number s m i =>
    cases b with
    | nan u v => rfl
    | infinity u => by_cases h : m = 0 <;> simp [Ieee.Datum.opposite, Ieee.Datum.product, h]
    | number u n j => simp [Ieee.Datum.opposite, Ieee.Datum.product]
theorem product_num {a b d : Ieee.Datum} (h : a.product b = some d) : d.isNaN = false := by
  cases a with
  | nan s t => cases b <;> cases h
  | infinity s =>
    cases b with
    | nan u v => cases h
    | infinity u => injection h with h; subst h; rfl
    | number u n j =>
      by_cases q : n = 0
      · simp [Ieee.Datum.product, q] at h
      · simp [Ieee.Datum.product, q] at h; subst h; rfl
  | number s m i =>
    cases b with
    | nan u v => cases h
    | infinity u =>
      by_cases q : m = 0
      · simp [Ieee.Datum.product, q] at h
      · simp [Ieee.Datum.product, q] at h; subst h; rfl
    | number u n j => injection h with h; subst h; rfl
theorem opp_read (x : Nat) : ∃ s R, dbl.read x = rdS s R ∧ dbl.read (Go.Op.negFloat .f64 x) = rdS (!s) R := ⟨_, _, read_is x, read_neg x⟩
theorem rdS_oppD (s : Bool) (R : Nat) : rdS (!s) R = (rdS s R).opposite := by
  unfold rdS
  (repeat' split) <;> rfl
/-- What is multiplied by the opposite is the opposite. -/
theorem mul_neg (x y : Nat) : (floatBits .mul .f64 x y = none ∧ floatBits .mul .f64 (Go.Op.negFloat .f64 x) y = none) ∨ (∃ b c, floatBits .mul .f64 x y = some b ∧ floatBits .mul .f64 (Go.Op.negFloat .f64 x) y = some c ∧ nanB b = false ∧ scK c = negK (scK b)) := by
  have e1 : floatBits .mul .f64 x y = ((dbl.read x).product (dbl.read y)).map dbl.write := rfl
  have e2 : floatBits .mul .f64 (Go.Op.negFloat .f64 x) y = ((dbl.read (Go.Op.negFloat .f64 x)).product (dbl.read y)).map dbl.write := rfl
  obtain ⟨s, R, h1, h2⟩ := opp_read x
  rw [e1, e2, h1, h2, rdS_oppD, product_opp]
  cases hp : (rdS s R).product (dbl.read y) with
  | none => exact .inl ⟨rfl, rfl⟩
  | some d =>
    obtain ⟨k1, k2⟩ := opp_word (product_num hp)
    exact .inr ⟨_, _, rfl, rfl, k1, k2⟩
theorem mul_zero (y : Nat) : floatBits .mul .f64 0 y = none ∨ ∃ b, floatBits .mul .f64 0 y = some b ∧ nanB b = false ∧ scK b = (0, 0) := by
  have e1 : floatBits .mul .f64 0 y = ((dbl.read 0).product (dbl.read y)).map dbl.write := rfl
  have e0 : dbl.read 0 = .number false 0 dbl.leastPlace := by rw [read_is]; decide
  rw [e1, e0]
  cases dbl.read y with
  | nan s t => exact .inl rfl
  | infinity s => exact .inl rfl
  | number s n j =>
    refine .inr ⟨_, rfl, ?_⟩
    have h0 : dbl.write (.number (false ^^ s) (0 * n) (dbl.leastPlace + j)) = dbl.word (false ^^ s) 0 := by
      show dbl.nearest _ _ _ = _
      rw [Nat.zero_mul]
      unfold Ieee.Format.nearest
      rw [if_pos rfl]
    rw [h0]
    unfold nanB scK
    rw [read_word _ _ (by decide)]
    cases s <;> decide
theorem key_zero : scK 0 = (0, 0) ∧ nanB 0 = false := by
  have e0 : dbl.read 0 = .number false 0 dbl.leastPlace := by rw [read_is]; decide
  unfold scK nanB
  rw [e0]
  decide
theorem one_one : (dbl.order 4607182418800017408 4607182418800017408 == some .eq) = true := by
  rw [order_same]
  have : nanB 4607182418800017408 = false := by
    unfold nanB
    rw [read_is]
    decide
  rw [this]; rfl
end Go.Proofs.Ytpkfejfdbjoehaa
