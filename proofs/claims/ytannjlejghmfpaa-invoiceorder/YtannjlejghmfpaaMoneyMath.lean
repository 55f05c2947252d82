/-
  Money, as plain numbers: what is added, taken away, shared, and split, and the laws of that.
-/
import Derived.Test.YtannjlejghmfpaaBigsizeMath
namespace Go.Proofs.Ytannjlejghmfpaa

def mMax : Int := 4611686018427387904
def allLe (m : Int) (l : List Int) : Bool := l.all fun x => decide (x ≤ m)
def sumM : List Int → Int
  | [] => 0
  | x :: l => x + sumM l
def chkM (l : List Int) : Int := if allLe mMax l = true then 0 else 1
def addE (l : List Int) : Int := if allLe mMax l = true then (if sumM l ≤ mMax then 0 else 8) else 1
def addN (l : List Int) : Int := if addE l = 0 then sumM l else 0
def subE (a b : Int) : Int := if a ≤ mMax ∧ b ≤ mMax then (if b ≤ a then 0 else 9) else 1
def subN (a b : Int) : Int := if subE a b = 0 then a - b else 0
def scl (a p w : Int) : Int := a * p / w
def shareE (a p : Int) : Int := if a ≤ mMax ∧ p ≤ 1000000 then 0 else 1
def shareN (a p : Int) : Int := if shareE a p = 0 then scl a p 1000000 else 0
def feeE (b p a : Int) : Int := if shareE a p = 0 then addE [b, shareN a p] else 1
def feeN (b p a : Int) : Int := if feeE b p a = 0 then b + shareN a p else 0
def upM (ws : List Int) (j : Nat) : Int := sumM (ws.take j)
def partM (a : Int) (ws : List Int) (j : Nat) : Int := scl a (upM ws (j + 1)) (sumM ws) - scl a (upM ws j) (sumM ws)
def ptsM (a : Int) (ws : List Int) (j : Nat) : List Int := (List.range j).map (partM a ws)
def splitE (a : Int) (ws : List Int) : Int := if a ≤ mMax ∧ ws.length ≤ 64 ∧ allLe 1000000 ws = true ∧ sumM ws ≠ 0 then 0 else 1
def splitL (a : Int) (ws : List Int) : List Int := if splitE a ws = 0 then ptsM a ws ws.length else []

theorem allLe_nil (m : Int) : allLe m [] = true := rfl
theorem allLe_iff {m : Int} {l : List Int} : allLe m l = true ↔ ∀ x ∈ l, x ≤ m := by simp [allLe]
theorem allLe_no {m : Int} {l : List Int} : allLe m l = false ↔ ∃ x ∈ l, m < x := by
  rw [← Bool.not_eq_true, allLe_iff]
  simp
theorem allLe_take {m : Int} {l : List Int} {j : Nat} (hj : j < l.length) (h : allLe m (l.take j) = true) (hx : nth l j ≤ m) : allLe m (l.take (j + 1)) = true := by
  rw [allLe_iff] at *
  rw [List.take_succ_eq_append_getElem hj]
  intro x hm
  rcases List.mem_append.1 hm with hm | hm
  · exact h x hm
  · simp at hm
    rw [hm, ← nth_get hj]
    exact hx
theorem allLe_bad {m : Int} {l : List Int} {j : Nat} (hj : j < l.length) (hx : m < nth l j) : allLe m l = false := allLe_no.2 ⟨nth l j, nth_mem hj, hx⟩
theorem allLe_all {m : Int} {l : List Int} {j : Nat} (hj : l.length ≤ j) (h : allLe m (l.take j) = true) : allLe m l = true := by rwa [List.take_of_length_le hj] at h
theorem allLe_mono {m k : Int} {l : List Int} (h : allLe m l = true) (hk : m ≤ k) : allLe k l = true := by
  rw [allLe_iff] at *
  intro x hx
  have := h x hx
  omega

theorem sumM_append (l o : List Int) : sumM (l ++ o) = sumM l + sumM o := by
  induction l with
  | nil => simp [sumM]
  | cons x l ih => simp [sumM, ih]; omega
theorem upM_zero (ws : List Int) : upM ws 0 = 0 := by simp [upM, sumM]
theorem upM_succ {ws : List Int} {j : Nat} (hj : j < ws.length) : upM ws (j + 1) = upM ws j + nth ws j := by
  unfold upM
  rw [List.take_succ_eq_append_getElem hj, sumM_append, nth_get hj]
  simp [sumM]
theorem upM_all {ws : List Int} {j : Nat} (hj : ws.length ≤ j) : upM ws j = sumM ws := by rw [upM, List.take_of_length_le hj]
theorem sumM_nonneg {l : List Int} (h : ∀ x ∈ l, 0 ≤ x) : 0 ≤ sumM l := by
  induction l with
  | nil => simp [sumM]
  | cons x l ih =>
    have h1 := h x (by simp)
    have h2 := ih fun y hy => h y (by simp [hy])
    simp only [sumM]
    omega
theorem upM_nonneg {l : List Int} (h : ∀ x ∈ l, 0 ≤ x) (j : Nat) : 0 ≤ upM l j := sumM_nonneg fun x hx => h x (List.mem_of_mem_take hx)
theorem upM_le {l : List Int} (h : ∀ x ∈ l, 0 ≤ x) (j : Nat) : upM l j ≤ sumM l := by
  have h1 := sumM_append (l.take j) (l.drop j)
  rw [List.take_append_drop] at h1
  have h2 := sumM_nonneg (l := l.drop j) fun x hx => h x (List.mem_of_mem_drop hx)
  unfold upM
  omega
theorem sumM_le {l : List Int} {m : Int} (h : ∀ x ∈ l, x ≤ m) : sumM l ≤ l.length * m := by
  induction l with
  | nil => simp [sumM]
  | cons x l ih =>
    have h1 := h x (by simp)
    have h2 := ih fun y hy => h y (by simp [hy])
    simp only [sumM, List.length_cons]
    have h3 : ((l.length + 1 : Nat) : Int) * m = l.length * m + m := by rw [Int.natCast_add, Int.add_mul]; simp
    omega
theorem le_sumM {l : List Int} (h : ∀ x ∈ l, 0 ≤ x) : ∀ x ∈ l, x ≤ sumM l := by
  induction l with
  | nil => simp
  | cons y l ih =>
    intro x hx
    have h1 := h y (by simp)
    have h2 := sumM_nonneg (l := l) fun z hz => h z (by simp [hz])
    simp only [sumM]
    rcases List.mem_cons.1 hx with rfl | hx
    · omega
    · have := ih (fun z hz => h z (by simp [hz])) x hx
      omega

/-- Taken apart by the whole first, it is the same. -/
theorem scl_apart (a p w : Int) (hw : 0 < w) : a / w * p + a % w * p / w = scl a p w := by
  unfold scl
  have h := Int.mul_ediv_add_emod a w
  have h2 : a * p = a % w * p + w * (a / w * p) := by
    conv => lhs; rw [← h]
    rw [Int.add_mul, Int.mul_assoc]
    omega
  rw [h2, Int.add_mul_ediv_left _ _ (by omega)]
  omega
theorem scl_zero (a w : Int) : scl a 0 w = 0 := by simp [scl]
theorem scl_zeroL (p w : Int) : scl 0 p w = 0 := by simp [scl]
theorem scl_all (a w : Int) (hw : 0 < w) : scl a w w = a := by rw [scl, Int.mul_ediv_cancel _ (by omega)]
theorem scl_nonneg {a p w : Int} (ha : 0 ≤ a) (hp : 0 ≤ p) (hw : 0 < w) : 0 ≤ scl a p w := Int.ediv_nonneg (Int.mul_nonneg ha hp) (by omega)
theorem scl_mono {a p q w : Int} (ha : 0 ≤ a) (hp : p ≤ q) (hw : 0 < w) : scl a p w ≤ scl a q w := Int.ediv_le_ediv hw (Int.mul_le_mul_of_nonneg_left hp ha)
theorem scl_monoL {a b p w : Int} (hp : 0 ≤ p) (hab : a ≤ b) (hw : 0 < w) : scl a p w ≤ scl b p w := Int.ediv_le_ediv hw (Int.mul_le_mul_of_nonneg_right hab hp)
theorem scl_le {a p w : Int} (ha : 0 ≤ a) (hp : p ≤ w) (hw : 0 < w) : scl a p w ≤ a := by
  have := scl_mono (w := w) ha hp hw
  rwa [scl_all a w hw] at this
/-- What the program's scale works out in between stays within 64 bits. -/
theorem scl_bounds {a p w : Int} (ha : 0 ≤ a) (hp : 0 ≤ p) (hpw : p ≤ w) (hw : 0 < w) (hw64 : w ≤ 64000000) : 0 ≤ a / w ∧ 0 ≤ a / w * p ∧ a / w * p ≤ a ∧ 0 ≤ a % w ∧ a % w < w ∧ 0 ≤ a % w * p ∧ a % w * p ≤ 4096000000000000 := by
  have h1 : 0 ≤ a / w := Int.ediv_nonneg ha (by omega)
  have h2 : 0 ≤ a % w := Int.emod_nonneg _ (by omega)
  have h3 : a % w < w := Int.emod_lt_of_pos _ hw
  have h4 := Int.mul_ediv_add_emod a w
  have h5 : a / w * p ≤ a / w * w := Int.mul_le_mul_of_nonneg_left hpw h1
  have h6 : a / w * w = w * (a / w) := Int.mul_comm _ _
  have h7 : a % w * p ≤ a % w * 64000000 := Int.mul_le_mul_of_nonneg_left (by omega) h2
  refine ⟨h1, Int.mul_nonneg h1 hp, by omega, h2, h3, Int.mul_nonneg h2 hp, by omega⟩
/-- A floor less a floor. -/
theorem floor_less {u v d : Int} (hd : 0 < d) : (u + v) / d - u / d = v / d ∨ (u + v) / d - u / d = v / d + 1 := by
  have a1 := Int.mul_ediv_add_emod u d
  have a2 := Int.mul_ediv_add_emod v d
  have a3 := Int.emod_nonneg u (show d ≠ 0 by omega)
  have a4 := Int.emod_nonneg v (show d ≠ 0 by omega)
  have a5 := Int.emod_lt_of_pos u hd
  have a6 := Int.emod_lt_of_pos v hd
  have e : u + v = (u % d + v % d) + d * (u / d + v / d) := by rw [Int.mul_add]; omega
  have e2 : (u + v) / d = (u % d + v % d) / d + (u / d + v / d) := by rw [e, Int.add_mul_ediv_left _ _ (by omega)]
  have e3 : (u % d + v % d) / d = 0 ∨ (u % d + v % d) / d = 1 := by
    rcases Int.lt_or_le (u % d + v % d) d with h | h
    · exact .inl (Int.ediv_eq_zero_of_lt (by omega) h)
    · right
      have : u % d + v % d = (u % d + v % d - d) + d * 1 := by omega
      rw [this, Int.add_mul_ediv_left _ _ (by omega), Int.ediv_eq_zero_of_lt (by omega) (by omega)]
      rfl
  omega
theorem scl_add (a p q w : Int) (hw : 0 < w) : scl a (p + q) w - scl a p w = scl a q w ∨ scl a (p + q) w - scl a p w = scl a q w + 1 := by
  unfold scl
  rw [Int.mul_add]
  exact floor_less hw
theorem floor_twice {u d : Int} (hd : 0 < d) : 2 * (u / d) ≤ 2 * u / d ∧ 2 * u / d ≤ 2 * (u / d) + 1 := by
  have h := floor_less (u := u) (v := u) hd
  rw [show u + u = 2 * u by omega] at h
  omega
theorem scl_twice (a p w : Int) (hw : 0 < w) : 2 * scl a p w ≤ scl (2 * a) p w ∧ scl (2 * a) p w ≤ 2 * scl a p w + 1 := by
  unfold scl
  rw [Int.mul_assoc]
  exact floor_twice hw

theorem ptsM_succ (a : Int) (ws : List Int) (j : Nat) : ptsM a ws (j + 1) = ptsM a ws j ++ [partM a ws j] := by simp [ptsM, List.range_succ]
theorem ptsM_len (a : Int) (ws : List Int) (j : Nat) : (ptsM a ws j).length = j := by simp [ptsM]
theorem ptsM_nth (a : Int) (ws : List Int) {i j : Nat} (h : i < j) : nth (ptsM a ws j) i = partM a ws i := by
  rw [nth_get (by rw [ptsM_len]; exact h)]
  simp [ptsM]
theorem ptsM_sum (a : Int) (ws : List Int) (j : Nat) : sumM (ptsM a ws j) = scl a (upM ws j) (sumM ws) := by
  induction j with
  | zero => simp [ptsM, sumM, upM_zero, scl_zero]
  | succ j ih =>
    rw [ptsM_succ, sumM_append, ih]
    simp [sumM, partM]
    omega
section
variable {a : Int} {ws : List Int}
theorem upM_mono (h : ∀ x ∈ ws, 0 ≤ x) (j : Nat) : upM ws j ≤ upM ws (j + 1) := by
  rcases Nat.lt_or_ge j ws.length with hj | hj
  · rw [upM_succ hj]
    have := h _ (nth_mem hj)
    omega
  · rw [upM_all hj, upM_all (by omega)]
    omega
theorem partM_nonneg (ha : 0 ≤ a) (h : ∀ x ∈ ws, 0 ≤ x) (h0 : 0 < sumM ws) (j : Nat) : 0 ≤ partM a ws j := by
  have := scl_mono (w := sumM ws) ha (upM_mono h j) h0
  unfold partM
  omega
theorem partM_le (ha : 0 ≤ a) (h : ∀ x ∈ ws, 0 ≤ x) (h0 : 0 < sumM ws) (j : Nat) : partM a ws j ≤ a := by
  have h1 := scl_le (w := sumM ws) ha (upM_le h (j + 1)) h0
  have h2 := scl_nonneg (w := sumM ws) ha (upM_nonneg h j) h0
  unfold partM
  omega
theorem ptsM_mem {j : Nat} {x : Int} (h : x ∈ ptsM a ws j) : ∃ i, i < j ∧ x = partM a ws i := by
  obtain ⟨i, hi, rfl⟩ := List.mem_map.1 h
  exact ⟨i, List.mem_range.1 hi, rfl⟩
theorem ptsM_all (h0 : 0 < sumM ws) : sumM (ptsM a ws ws.length) = a := by rw [ptsM_sum, upM_all (Nat.le_refl _), scl_all _ _ h0]
theorem partM_near (h0 : 0 < sumM ws) {j : Nat} (hj : j < ws.length) : partM a ws j = scl a (nth ws j) (sumM ws) ∨ partM a ws j = scl a (nth ws j) (sumM ws) + 1 := by
  unfold partM
  rw [upM_succ hj]
  exact scl_add _ _ _ _ h0
theorem partM_none {j : Nat} (hj : j < ws.length) (h : nth ws j = 0) : partM a ws j = 0 := by
  unfold partM
  rw [upM_succ hj, h, Int.add_zero, Int.sub_self]
theorem partM_twice (h0 : 0 < sumM ws) (j : Nat) : 2 * partM a ws j ≤ partM (2 * a) ws j + 1 ∧ partM (2 * a) ws j ≤ 2 * partM a ws j + 1 := by
  have h1 := scl_twice a (upM ws j) _ h0
  have h2 := scl_twice a (upM ws (j + 1)) _ h0
  unfold partM
  omega
theorem partM_nothing (j : Nat) : partM 0 ws j = 0 := by simp [partM, scl_zeroL]
theorem splitE_cases : (splitE a ws = 0 ∧ a ≤ mMax ∧ ws.length ≤ 64 ∧ allLe 1000000 ws = true ∧ sumM ws ≠ 0 ∧ splitL a ws = ptsM a ws ws.length) ∨ (splitE a ws = 1 ∧ splitL a ws = [] ∧ ¬ (a ≤ mMax ∧ ws.length ≤ 64 ∧ allLe 1000000 ws = true ∧ sumM ws ≠ 0)) := by
  by_cases h : a ≤ mMax ∧ ws.length ≤ 64 ∧ allLe 1000000 ws = true ∧ sumM ws ≠ 0
  · have h1 : splitE a ws = 0 := if_pos h
    exact .inl ⟨h1, h.1, h.2.1, h.2.2.1, h.2.2.2, if_pos h1⟩
  · have h1 : splitE a ws = 1 := if_neg h
    exact .inr ⟨h1, if_neg (by rw [h1]; decide), h⟩
end

theorem nonneg_u64 {xs : List Int} (h : ∀ x ∈ xs, (Lit.int .u64 x).wf = true) : ∀ x ∈ xs, 0 ≤ x := fun x hx => (bounds_u64 (h x hx)).1
theorem weights_sum {ws : List Int} (h : allLe 1000000 ws = true) (hl : ws.length ≤ 64) : sumM ws ≤ 64000000 := by
  have := sumM_le (allLe_iff.1 h)
  omega
def weighE (ws : List Int) : Int := if ws.length ≤ 64 ∧ allLe 1000000 ws = true ∧ sumM ws ≠ 0 then 0 else 1
def weighN (ws : List Int) : Int := if weighE ws = 0 then sumM ws else 0
theorem chkM_two (a b : Int) : chkM [a, b] = if a ≤ mMax ∧ b ≤ mMax then 0 else 1 := by simp [chkM, allLe]
theorem chkM_one (a : Int) : chkM [a] = if a ≤ mMax then 0 else 1 := by simp [chkM, allLe]
theorem addE_two (a b : Int) : addE [a, b] = if a ≤ mMax ∧ b ≤ mMax then (if a + b ≤ mMax then 0 else 8) else 1 := by simp [addE, allLe, sumM]
theorem addN_two (a b : Int) : addN [a, b] = if addE [a, b] = 0 then a + b else 0 := by simp [addN, sumM]
theorem addE_weights {ws : List Int} (h : allLe 1000000 ws = true) (hl : ws.length ≤ 64) : addE ws = 0 := by
  have := weights_sum h hl
  rw [addE, if_pos (allLe_mono h (by decide)), if_pos (by unfold mMax; omega)]
theorem shareN_bd {a p : Int} (ha : 0 ≤ a) (hp : 0 ≤ p) : 0 ≤ shareN a p ∧ shareN a p ≤ a ∧ shareN a p ≤ mMax := by
  unfold shareN
  by_cases h : shareE a p = 0
  · rw [if_pos h]
    have hh : a ≤ mMax ∧ p ≤ 1000000 := by
      unfold shareE at h
      by_cases k : a ≤ mMax ∧ p ≤ 1000000
      · exact k
      · rw [if_neg k] at h; cases h
    have h1 := scl_nonneg (w := 1000000) ha hp (by decide)
    have h2 := scl_le (w := 1000000) ha hh.2 (by decide)
    omega
  · rw [if_neg h]
    unfold mMax
    omega
theorem shareE_cases (a p : Int) : (shareE a p = 0 ∧ a ≤ mMax ∧ p ≤ 1000000 ∧ shareN a p = scl a p 1000000) ∨ (shareE a p = 1 ∧ ¬ (a ≤ mMax ∧ p ≤ 1000000) ∧ shareN a p = 0) := by
  by_cases h : a ≤ mMax ∧ p ≤ 1000000
  · have h1 : shareE a p = 0 := if_pos h
    exact .inl ⟨h1, h.1, h.2, if_pos h1⟩
  · have h1 : shareE a p = 1 := if_neg h
    exact .inr ⟨h1, h, if_neg (by rw [h1]; decide)⟩
theorem feeE_ok {b p a : Int} (h : shareE a p = 0) : feeE b p a = addE [b, shareN a p] ∧ feeN b p a = addN [b, shareN a p] := by
  have h1 : feeE b p a = addE [b, shareN a p] := if_pos h
  exact ⟨h1, by rw [feeN, h1, addN_two]⟩
theorem feeE_no {b p a : Int} (h : shareE a p = 1) : feeE b p a = 1 ∧ feeN b p a = 0 := by
  have h1 : feeE b p a = 1 := if_neg (by rw [h]; decide)
  exact ⟨h1, by rw [feeN, h1]; rfl⟩
theorem weigh_cases (ws : List Int) : (weighE ws = 0 ∧ ws.length ≤ 64 ∧ allLe 1000000 ws = true ∧ sumM ws ≠ 0 ∧ weighN ws = sumM ws) ∨ (weighE ws = 1 ∧ weighN ws = 0 ∧ ¬ (ws.length ≤ 64 ∧ allLe 1000000 ws = true ∧ sumM ws ≠ 0)) := by
  by_cases h : ws.length ≤ 64 ∧ allLe 1000000 ws = true ∧ sumM ws ≠ 0
  · have h1 : weighE ws = 0 := if_pos h
    exact .inl ⟨h1, h.1, h.2.1, h.2.2, if_pos h1⟩
  · have h1 : weighE ws = 1 := if_neg h
    exact .inr ⟨h1, if_neg (by rw [h1]; decide), h⟩
theorem split_ok {a : Int} {ws : List Int} (h : a ≤ mMax) (hw : weighE ws = 0) : splitE a ws = 0 ∧ splitL a ws = ptsM a ws ws.length := by
  rcases weigh_cases ws with ⟨_, h1, h2, h3, _⟩ | ⟨h1, _⟩
  · have h4 : splitE a ws = 0 := if_pos ⟨h, h1, h2, h3⟩
    exact ⟨h4, if_pos h4⟩
  · rw [h1] at hw; cases hw
theorem split_noA {a : Int} {ws : List Int} (h : ¬ a ≤ mMax) : splitE a ws = 1 ∧ splitL a ws = [] := by
  have h4 : splitE a ws = 1 := if_neg fun k => h k.1
  exact ⟨h4, if_neg (by rw [h4]; decide)⟩
theorem split_noW {a : Int} {ws : List Int} (hw : weighE ws = 1) : splitE a ws = 1 ∧ splitL a ws = [] := by
  rcases weigh_cases ws with ⟨h1, _⟩ | ⟨_, _, h⟩
  · rw [h1] at hw; cases hw
  · have h4 : splitE a ws = 1 := if_neg fun k => h k.2
    exact ⟨h4, if_neg (by rw [h4]; decide)⟩
theorem addE_cases2 (a b : Int) : (addE [a, b] = 0 ∧ addN [a, b] = a + b ∧ a ≤ mMax ∧ b ≤ mMax ∧ a + b ≤ mMax) ∨ (addE [a, b] = 8 ∧ addN [a, b] = 0 ∧ a ≤ mMax ∧ b ≤ mMax ∧ ¬ a + b ≤ mMax) ∨ (addE [a, b] = 1 ∧ addN [a, b] = 0 ∧ ¬ (a ≤ mMax ∧ b ≤ mMax)) := by
  by_cases h : a ≤ mMax ∧ b ≤ mMax
  · by_cases h2 : a + b ≤ mMax
    · have e : addE [a, b] = 0 := by rw [addE_two, if_pos h, if_pos h2]
      exact .inl ⟨e, by rw [addN_two, if_pos e], h.1, h.2, h2⟩
    · have e : addE [a, b] = 8 := by rw [addE_two, if_pos h, if_neg h2]
      exact .inr (.inl ⟨e, by rw [addN_two, if_neg (by rw [e]; decide)], h.1, h.2, h2⟩)
  · have e : addE [a, b] = 1 := by rw [addE_two, if_neg h]
    exact .inr (.inr ⟨e, by rw [addN_two, if_neg (by rw [e]; decide)], h⟩)
theorem fee_cases (b p a : Int) : (feeE b p a = 0 ∧ feeN b p a = b + shareN a p ∧ shareE a p = 0 ∧ b + shareN a p ≤ mMax ∧ b ≤ mMax) ∨ (∃ k, feeE b p a = k ∧ (k != 0) = true ∧ (k == 0) = false ∧ feeN b p a = 0) := by
  rcases shareE_cases a p with ⟨h, -⟩ | ⟨h, -⟩
  · obtain ⟨f1, f2⟩ := feeE_ok (b := b) h
    rw [f1, f2]
    rcases addE_cases2 b (shareN a p) with ⟨h1, h2, h3, h4, h5⟩ | ⟨h1, h2, -⟩ | ⟨h1, h2, -⟩
    · exact .inl ⟨h1, h2, h, h5, h3⟩
    · exact .inr ⟨8, h1, rfl, rfl, h2⟩
    · exact .inr ⟨1, h1, rfl, rfl, h2⟩
  · obtain ⟨f1, f2⟩ := feeE_no (b := b) h
    exact .inr ⟨1, f1, rfl, rfl, f2⟩
theorem share_mono {a p q : Int} (ha : 0 ≤ a) (h : shareE a p = 0) (h2 : shareE a q = 0) (hq : p ≤ q) : shareN a p ≤ shareN a q := by
  rw [shareN, if_pos h, shareN, if_pos h2]
  exact scl_mono ha hq (by decide)
theorem share_monoL {a b p : Int} (hp : 0 ≤ p) (h : shareE a p = 0) (h2 : shareE b p = 0) (hq : a ≤ b) : shareN a p ≤ shareN b p := by
  rw [shareN, if_pos h, shareN, if_pos h2]
  exact scl_monoL hp hq (by decide)
theorem share_nothing (p : Int) : shareN 0 p = 0 := by
  rw [shareN, scl_zeroL]
  split <;> rfl
end Go.Proofs.Ytannjlejghmfpaa
