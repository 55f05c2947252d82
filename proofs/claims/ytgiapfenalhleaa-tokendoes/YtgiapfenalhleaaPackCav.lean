/-
  A map of caps: what it holds behind each caveat; and the words of what Caps answers.
  Money, as plain numbers: what is added, taken away, shared, and split, and the laws of that.
  The contracts of package money's small functions.
  The contracts of package caveat's own small functions: which caveat, which use, and which row of caveats may be, whether one holds.
  The contracts of package caveat's own functions: whether one holds, a caveat's octets.
  The contract of package caveat's own Put.
  The contract of package caveat's own read.
  The contract of package caveat's own Get.
-/
import Derived.Test.YtgiapfenalhleaaCaveatMath
import Derived.Test.YtgiapfenalhleaaStep
import Derived.Maps.OwnSet
import Derived.Maps.RangeWalk
import Derived.Test.YtgiapfenalhleaaBigsizeMath
import Derived.Test.YtgiapfenalhleaaStd
import Derived.Test.YtgiapfenalhleaaRet
import Derived.Test.YtgiapfenalhleaaCaveatRef3
import Derived.Laws.BitsAllLaws
namespace Go.Proofs.Ytgiapfenalhleaa
open Go.RowKit Go.WalkArith Go.Maps

theorem cvLaw : Maps.Keyed Try.prog 25 := Maps.int_keyed Try.underlying25
theorem cvZero (w : World) : (zeroValue 25).run Try.prog w = .ok (.int .u64 0) w := by kernel_rfl
theorem keysN_len (l : List Cav) : (keysN l).length ≤ l.length := by
  refine snoc_ind (p := fun l => (keysN l).length ≤ l.length) l (by simp [keysN]) fun l c ih => ?_
  have := (keysN_one l c).2
  simp
  omega

/-- The map in block b holds the caps of these caveats. -/
def CapTo (w : World) (b : Nat) (l : List Cav) : Prop := ∃ (n : Nat) (D : DataW Unit), w.ownsMap Try.prog 25 (plainElem Try.prog 25) b n D ∧ n ≤ l.length ∧
  (∀ k, (Lit.int .u64 k).wf = true → Maps.has D (.int .u64 k) = (capS l k).isSome) ∧ (∀ k m, (Lit.int .u64 k).wf = true → capS l k = some m → ∀ z, D.atKey (.int .u64 k) z = .lit (.int .u64 m)) ∧ Maps.size D = (keysN l).length

theorem capTo_made (w : World) : CapTo (w.alloc (.map #[] 0)) w.heap.size [] :=
  ⟨0, .map [], World.ownsMap_made _ _ _ _, Nat.le_refl _, fun k _ => by simp [Maps.has, capS], fun k m _ h => by simp [capS] at h, rfl⟩
theorem CapTo.lt {w : World} {b : Nat} {l : List Cav} (h : CapTo w b l) : b < w.heap.size := let ⟨_, _, h1, _⟩ := h; h1.lt
theorem CapTo.of_block {w w' : World} {b : Nat} {l : List Cav} (h : CapTo w b l) (hb : w'.heap[b]? = w.heap[b]?) : CapTo w' b l := by
  obtain ⟨n, D, ⟨es, clock, h1, h2⟩, h3⟩ := h
  exact ⟨n, D, ⟨es, clock, hb.trans h1, h2⟩, h3⟩
theorem CapTo.below {w w' : World} {b : Nat} {l : List Cav} (h : CapTo w b l) (hb : Below w.heap.size w w') : CapTo w' b l := h.of_block (hb.block b h.lt)
/-- A caveat that is no cap, or whose cap is no less than what is there. -/
theorem CapTo.skip {w : World} {b : Nat} {l : List Cav} (h : CapTo w b l) {c : Cav} (hc : c.Kind ≠ 4 ∨ ∃ m, capS l c.B = some m ∧ ¬ c.A < m) : CapTo w b (l ++ [c]) := by
  have e1 : ∀ k, capS (l ++ [c]) k = capS l k := fun k => by
    rw [capS_snoc]
    unfold capStep
    rcases hc with hc | ⟨m, hm, hlt⟩
    · rw [if_neg fun q => hc q.1]
    · split
      · rename_i q
        rw [← q.2, hm]
        simp [hlt]
      · rfl
  have e2 : keysN (l ++ [c]) = keysN l := by
    rw [keysN_snoc, if_neg]
    rintro ⟨k1, k2⟩
    rcases hc with hc | ⟨m, hm, _⟩
    · exact hc k1
    · exact k2 ((keysN_mem l c.B).2 (by rw [hm]; rfl))
  obtain ⟨n, D, h1, h2, h3, h4, h5⟩ := h
  exact ⟨n, D, h1, by simp; omega, fun k hk => by rw [e1]; exact h3 k hk, fun k m hk hm => h4 k m hk (by rw [← e1]; exact hm), by rw [e2]; exact h5⟩
/-- What is told: a map of the caps, or none where there is none. -/
def CapMap (w : World) (base : Nat) (v : Value) (l : List Cav) : Prop := (v = .map none ∧ keysN l = []) ∨ ∃ b, v = .map (some b) ∧ base ≤ b ∧ CapTo w b l
theorem CapMap.below {w w' : World} {base : Nat} {v : Value} {l : List Cav} (h : CapMap w base v l) (hb : Below w.heap.size w w') : CapMap w' base v l := by
  rcases h with h | ⟨b, h1, h2, h3⟩
  · exact .inl h
  · exact .inr ⟨b, h1, h2, h3.below hb⟩
end Go.Proofs.Ytgiapfenalhleaa
namespace Go.Proofs.Ytgiapfenalhleaa

def mMax : Int := 4611686018427387904
def allLe (m : Int) (l : List Int) : Bool := l.all fun x => decide (x ≤ m)
def sumM : List Int → Int
  | [] => 0
  | x :: l => x + sumM l
def chkM (l : List Int) : Int := if allLe mMax l = true then 0 else 1
def addE (l : List Int) : Int := if allLe mMax l = true then (if sumM l ≤ mMax then 0 else 8) else 1
def addN (l : List Int) : Int := if addE l = 0 then sumM l else 0
def subE (a b : Int) : Int := if a ≤ mMax ∧ b ≤ mMax then (if b ≤ a then 0 else 9) else 1
def subN (a b : Int) : Int := if subE a b = 0 then a - b else 0
def scl (a p w : Int) : Int := a * p / w
def shareE (a p : Int) : Int := if a ≤ mMax ∧ p ≤ 1000000 then 0 else 1
def shareN (a p : Int) : Int := if shareE a p = 0 then scl a p 1000000 else 0
def feeE (b p a : Int) : Int := if shareE a p = 0 then addE [b, shareN a p] else 1
def feeN (b p a : Int) : Int := if feeE b p a = 0 then b + shareN a p else 0
def upM (ws : List Int) (j : Nat) : Int := sumM (ws.take j)
def partM (a : Int) (ws : List Int) (j : Nat) : Int := scl a (upM ws (j + 1)) (sumM ws) - scl a (upM ws j) (sumM ws)
def ptsM (a : Int) (ws : List Int) (j : Nat) : List Int := (List.range j).map (partM a ws)
def splitE (a : Int) (ws : List Int) : Int := if a ≤ mMax ∧ ws.length ≤ 64 ∧ allLe 1000000 ws = true ∧ sumM ws ≠ 0 then 0 else 1
def splitL (a : Int) (ws : List Int) : List Int := if splitE a ws = 0 then ptsM a ws ws.length else []

theorem allLe_nil (m : Int) : allLe m [] = true := rfl
theorem allLe_iff {m : Int} {l : List Int} : allLe m l = true ↔ ∀ x ∈ l, x ≤ m := by simp [allLe]
theorem allLe_no {m : Int} {l : List Int} : allLe m l = false ↔ ∃ x ∈ l, m < x := by
  rw [← Bool.not_eq_true, allLe_iff]
  simp
theorem allLe_take {m : Int} {l : List Int} {j : Nat} (hj : j < l.length) (h : allLe m (l.take j) = true) (hx : nth l j ≤ m) : allLe m (l.take (j + 1)) = true := by
  rw [allLe_iff] at *
  rw [List.take_succ_eq_append_getElem hj]
  intro x hm
  rcases List.mem_append.1 hm with hm | hm
  · exact h x hm
  · simp at hm
    rw [hm, ← nth_get hj]
    exact hx
theorem allLe_bad {m : Int} {l : List Int} {j : Nat} (hj : j < l.length) (hx : m < nth l j) : allLe m l = false := allLe_no.2 ⟨nth l j, nth_mem hj, hx⟩
theorem allLe_all {m : Int} {l : List Int} {j : Nat} (hj : l.length ≤ j) (h : allLe m (l.take j) = true) : allLe m l = true := by rwa [List.take_of_length_le hj] at h
theorem allLe_mono {m k : Int} {l : List Int} (h : allLe m l = true) (hk : m ≤ k) : allLe k l = true := by
  rw [allLe_iff] at *
  intro x hx
  have := h x hx
  omega

theorem sumM_append (l o : List Int) : sumM (l ++ o) = sumM l + sumM o := by
  induction l with
  | nil => simp [sumM]
  | cons x l ih => simp [sumM, ih]; omega
theorem upM_zero (ws : List Int) : upM ws 0 = 0 := by simp [upM, sumM]
theorem upM_succ {ws : List Int} {j : Nat} (hj : j < ws.length) : upM ws (j + 1) = upM ws j + nth ws j := by
  unfold upM
  rw [List.take_succ_eq_append_getElem hj, sumM_append, nth_get hj]
  simp [sumM]
theorem upM_all {ws : List Int} {j : Nat} (hj : ws.length ≤ j) : upM ws j = sumM ws := by rw [upM, List.take_of_length_le hj]
theorem sumM_nonneg {l : List Int} (h : ∀ x ∈ l, 0 ≤ x) : 0 ≤ sumM l := by
  induction l with
  | nil => simp [sumM]
  | cons x l ih =>
    have h1 := h x (by simp)
    have h2 := ih fun y hy => h y (by simp [hy])
    simp only [sumM]
    omega
theorem upM_nonneg {l : List Int} (h : ∀ x ∈ l, 0 ≤ x) (j : Nat) : 0 ≤ upM l j := sumM_nonneg fun x hx => h x (List.mem_of_mem_take hx)
theorem upM_le {l : List Int} (h : ∀ x ∈ l, 0 ≤ x) (j : Nat) : upM l j ≤ sumM l := by
  have h1 := sumM_append (l.take j) (l.drop j)
  rw [List.take_append_drop] at h1
  have h2 := sumM_nonneg (l := l.drop j) fun x hx => h x (List.mem_of_mem_drop hx)
  unfold upM
  omega
theorem sumM_le {l : List Int} {m : Int} (h : ∀ x ∈ l, x ≤ m) : sumM l ≤ l.length * m := by
  induction l with
  | nil => simp [sumM]
  | cons x l ih =>
    have h1 := h x (by simp)
    have h2 := ih fun y hy => h y (by simp [hy])
    simp only [sumM, List.length_cons]
    have h3 : ((l.length + 1 : Nat) : Int) * m = l.length * m + m := by rw [Int.natCast_add, Int.add_mul]; simp
    omega
theorem le_sumM {l : List Int} (h : ∀ x ∈ l, 0 ≤ x) : ∀ x ∈ l, x ≤ sumM l := by
  induction l with
  | nil => simp
  | cons y l ih =>
    intro x hx
    have h1 := h y (by simp)
    have h2 := sumM_nonneg (l := l) fun z hz => h z (by simp [hz])
    simp only [sumM]
    rcases List.mem_cons.1 hx with rfl | hx
    · omega
    · have := ih (fun z hz => h z (by simp [hz])) x hx
      omega

/-- Taken apart by the whole first, it is the same. -/
theorem scl_apart (a p w : Int) (hw : 0 < w) : a / w * p + a % w * p / w = scl a p w := by
  unfold scl
  have h := Int.mul_ediv_add_emod a w
  have h2 : a * p = a % w * p + w * (a / w * p) := by
    conv => lhs; rw [← h]
    rw [Int.add_mul, Int.mul_assoc]
    omega
  rw [h2, Int.add_mul_ediv_left _ _ (by omega)]
  omega
theorem scl_zero (a w : Int) : scl a 0 w = 0 := by simp [scl]
theorem scl_zeroL (p w : Int) : scl 0 p w = 0 := by simp [scl]
theorem scl_all (a w : Int) (hw : 0 < w) : scl a w w = a := by rw [scl, Int.mul_ediv_cancel _ (by omega)]
theorem scl_nonneg {a p w : Int} (ha : 0 ≤ a) (hp : 0 ≤ p) (hw : 0 < w) : 0 ≤ scl a p w := Int.ediv_nonneg (Int.mul_nonneg ha hp) (by omega)
theorem scl_mono {a p q w : Int} (ha : 0 ≤ a) (hp : p ≤ q) (hw : 0 < w) : scl a p w ≤ scl a q w := Int.ediv_le_ediv hw (Int.mul_le_mul_of_nonneg_left hp ha)
theorem scl_monoL {a b p w : Int} (hp : 0 ≤ p) (hab : a ≤ b) (hw : 0 < w) : scl a p w ≤ scl b p w := Int.ediv_le_ediv hw (Int.mul_le_mul_of_nonneg_right hab hp)
theorem scl_le {a p w : Int} (ha : 0 ≤ a) (hp : p ≤ w) (hw : 0 < w) : scl a p w ≤ a := by
  have := scl_mono (w := w) ha hp hw
  rwa [scl_all a w hw] at this
/-- What the program's scale works out in between stays within 64 bits. -/
theorem scl_bounds {a p w : Int} (ha : 0 ≤ a) (hp : 0 ≤ p) (hpw : p ≤ w) (hw : 0 < w) (hw64 : w ≤ 64000000) : 0 ≤ a / w ∧ 0 ≤ a / w * p ∧ a / w * p ≤ a ∧ 0 ≤ a % w ∧ a % w < w ∧ 0 ≤ a % w * p ∧ a % w * p ≤ 4096000000000000 := by
  have h1 : 0 ≤ a / w := Int.ediv_nonneg ha (by omega)
  have h2 : 0 ≤ a % w := Int.emod_nonneg _ (by omega)
  have h3 : a % w < w := Int.emod_lt_of_pos _ hw
  have h4 := Int.mul_ediv_add_emod a w
  have h5 : a / w * p ≤ a / w * w := Int.mul_le_mul_of_nonneg_left hpw h1
  have h6 : a / w * w = w * (a / w) := Int.mul_comm _ _
  have h7 : a % w * p ≤ a % w * 64000000 := Int.mul_le_mul_of_nonneg_left (by omega) h2
  refine ⟨h1, Int.mul_nonneg h1 hp, by omega, h2, h3, Int.mul_nonneg h2 hp, by omega⟩
/-- A floor less a floor. -/
theorem floor_less {u v d : Int} (hd : 0 < d) : (u + v) / d - u / d = v / d ∨ (u + v) / d - u / d = v / d + 1 := by
  have a1 := Int.mul_ediv_add_emod u d
  have a2 := Int.mul_ediv_add_emod v d
  have a3 := Int.emod_nonneg u (show d ≠ 0 by omega)
  have a4 := Int.emod_nonneg v (show d ≠ 0 by omega)
  have a5 := Int.emod_lt_of_pos u hd
  have a6 := Int.emod_lt_of_pos v hd
  have e : u + v = (u % d + v % d) + d * (u / d + v / d) := by rw [Int.mul_add]; omega
  have e2 : (u + v) / d = (u % d + v % d) / d + (u / d + v / d) := by rw [e, Int.add_mul_ediv_left _ _ (by omega)]
  have e3 : (u % d + v % d) / d = 0 ∨ (u % d + v % d) / d = 1 := by
    rcases Int.lt_or_le (u % d + v % d) d with h | h
    · exact .inl (Int.ediv_eq_zero_of_lt (by omega) h)
    · right
      have : u % d + v % d = (u % d + v % d - d) + d * 1 := by omega
      rw [this, Int.add_mul_ediv_left _ _ (by omega), Int.ediv_eq_zero_of_lt (by omega) (by omega)]
      rfl
  omega
theorem scl_add (a p q w : Int) (hw : 0 < w) : scl a (p + q) w - scl a p w = scl a q w ∨ scl a (p + q) w - scl a p w = scl a q w + 1 := by
  unfold scl
  rw [Int.mul_add]
  exact floor_less hw
theorem floor_twice {u d : Int} (hd : 0 < d) : 2 * (u / d) ≤ 2 * u / d ∧ 2 * u / d ≤ 2 * (u / d) + 1 := by
  have h := floor_less (u := u) (v := u) hd
  rw [show u + u = 2 * u by omega] at h
  omega
theorem scl_twice (a p w : Int) (hw : 0 < w) : 2 * scl a p w ≤ scl (2 * a) p w ∧ scl (2 * a) p w ≤ 2 * scl a p w + 1 := by
  unfold scl
  rw [Int.mul_assoc]
  exact floor_twice hw

theorem ptsM_succ (a : Int) (ws : List Int) (j : Nat) : ptsM a ws (j + 1) = ptsM a ws j ++ [partM a ws j] := by simp [ptsM, List.range_succ]
theorem ptsM_len (a : Int) (ws : List Int) (j : Nat) : (ptsM a ws j).length = j := by simp [ptsM]
theorem ptsM_nth (a : Int) (ws : List Int) {i j : Nat} (h : i < j) : nth (ptsM a ws j) i = partM a ws i := by
  rw [nth_get (by rw [ptsM_len]; exact h)]
  simp [ptsM]
theorem ptsM_sum (a : Int) (ws : List Int) (j : Nat) : sumM (ptsM a ws j) = scl a (upM ws j) (sumM ws) := by
  induction j with
  | zero => simp [ptsM, sumM, upM_zero, scl_zero]
  | succ j ih =>
    rw [ptsM_succ, sumM_append, ih]
    simp [sumM, partM]
    omega
section
variable {a : Int} {ws : List Int}
theorem upM_mono (h : ∀ x ∈ ws, 0 ≤ x) (j : Nat) : upM ws j ≤ upM ws (j + 1) := by
  rcases Nat.lt_or_ge j ws.length with hj | hj
  · rw [upM_succ hj]
    have := h _ (nth_mem hj)
    omega
  · rw [upM_all hj, upM_all (by omega)]
    omega
theorem partM_nonneg (ha : 0 ≤ a) (h : ∀ x ∈ ws, 0 ≤ x) (h0 : 0 < sumM ws) (j : Nat) : 0 ≤ partM a ws j := by
  have := scl_mono (w := sumM ws) ha (upM_mono h j) h0
  unfold partM
  omega
theorem partM_le (ha : 0 ≤ a) (h : ∀ x ∈ ws, 0 ≤ x) (h0 : 0 < sumM ws) (j : Nat) : partM a ws j ≤ a := by
  have h1 := scl_le (w := sumM ws) ha (upM_le h (j + 1)) h0
  have h2 := scl_nonneg (w := sumM ws) ha (upM_nonneg h j) h0
  unfold partM
  omega
theorem ptsM_mem {j : Nat} {x : Int} (h : x ∈ ptsM a ws j) : ∃ i, i < j ∧ x = partM a ws i := by
  obtain ⟨i, hi, rfl⟩ := List.mem_map.1 h
  exact ⟨i, List.mem_range.1 hi, rfl⟩
theorem ptsM_all (h0 : 0 < sumM ws) : sumM (ptsM a ws ws.length) = a := by rw [ptsM_sum, upM_all (Nat.le_refl _), scl_all _ _ h0]
theorem partM_near (h0 : 0 < sumM ws) {j : Nat} (hj : j < ws.length) : partM a ws j = scl a (nth ws j) (sumM ws) ∨ partM a ws j = scl a (nth ws j) (sumM ws) + 1 := by
  unfold partM
  rw [upM_succ hj]
  exact scl_add _ _ _ _ h0
theorem partM_none {j : Nat} (hj : j < ws.length) (h : nth ws j = 0) : partM a ws j = 0 := by
  unfold partM
  rw [upM_succ hj, h, Int.add_zero, Int.sub_self]
theorem partM_twice (h0 : 0 < sumM ws) (j : Nat) : 2 * partM a ws j ≤ partM (2 * a) ws j + 1 ∧ partM (2 * a) ws j ≤ 2 * partM a ws j + 1 := by
  have h1 := scl_twice a (upM ws j) _ h0
  have h2 := scl_twice a (upM ws (j + 1)) _ h0
  unfold partM
  omega
theorem partM_nothing (j : Nat) : partM 0 ws j = 0 := by simp [partM, scl_zeroL]
theorem splitE_cases : (splitE a ws = 0 ∧ a ≤ mMax ∧ ws.length ≤ 64 ∧ allLe 1000000 ws = true ∧ sumM ws ≠ 0 ∧ splitL a ws = ptsM a ws ws.length) ∨ (splitE a ws = 1 ∧ splitL a ws = [] ∧ ¬ (a ≤ mMax ∧ ws.length ≤ 64 ∧ allLe 1000000 ws = true ∧ sumM ws ≠ 0)) := by
  by_cases h : a ≤ mMax ∧ ws.length ≤ 64 ∧ allLe 1000000 ws = true ∧ sumM ws ≠ 0
  · have h1 : splitE a ws = 0 := if_pos h
    exact .inl ⟨h1, h.1, h.2.1, h.2.2.1, h.2.2.2, if_pos h1⟩
  · have h1 : splitE a ws = 1 := if_neg h
    exact .inr ⟨h1, if_neg (by rw [h1]; decide), h⟩
end

theorem nonneg_u64 {xs : List Int} (h : ∀ x ∈ xs, (Lit.int .u64 x).wf = true) : ∀ x ∈ xs, 0 ≤ x := fun x hx => (bounds_u64 (h x hx)).1
theorem weights_sum {ws : List Int} (h : allLe 1000000 ws = true) (hl : ws.length ≤ 64) : sumM ws ≤ 64000000 := by
  have := sumM_le (allLe_iff.1 h)
  omega
def weighE (ws : List Int) : Int := if ws.length ≤ 64 ∧ allLe 1000000 ws = true ∧ sumM ws ≠ 0 then 0 else 1
def weighN (ws : List Int) : Int := if weighE ws = 0 then sumM ws else 0
theorem chkM_two (a b : Int) : chkM [a, b] = if a ≤ mMax ∧ b ≤ mMax then 0 else 1 := by simp [chkM, allLe]
theorem chkM_one (a : Int) : chkM [a] = if a ≤ mMax then 0 else 1 := by simp [chkM, allLe]
theorem addE_two (a b : Int) : addE [a, b] = if a ≤ mMax ∧ b ≤ mMax then (if a + b ≤ mMax then 0 else 8) else 1 := by simp [addE, allLe, sumM]
theorem addN_two (a b : Int) : addN [a, b] = if addE [a, b] = 0 then a + b else 0 := by simp [addN, sumM]
theorem addE_weights {ws : List Int} (h : allLe 1000000 ws = true) (hl : ws.length ≤ 64) : addE ws = 0 := by
  have := weights_sum h hl
  rw [addE, if_pos (allLe_mono h (by decide)), if_pos (by unfold mMax; omega)]
theorem shareN_bd {a p : Int} (ha : 0 ≤ a) (hp : 0 ≤ p) : 0 ≤ shareN a p ∧ shareN a p ≤ a ∧ shareN a p ≤ mMax := by
  unfold shareN
  by_cases h : shareE a p = 0
  · rw [if_pos h]
    have hh : a ≤ mMax ∧ p ≤ 1000000 := by
      unfold shareE at h
      by_cases k : a ≤ mMax ∧ p ≤ 1000000
      · exact k
      · rw [if_neg k] at h; cases h
    have h1 := scl_nonneg (w := 1000000) ha hp (by decide)
    have h2 := scl_le (w := 1000000) ha hh.2 (by decide)
    omega
  · rw [if_neg h]
    unfold mMax
    omega
theorem shareE_cases (a p : Int) : (shareE a p = 0 ∧ a ≤ mMax ∧ p ≤ 1000000 ∧ shareN a p = scl a p 1000000) ∨ (shareE a p = 1 ∧ ¬ (a ≤ mMax ∧ p ≤ 1000000) ∧ shareN a p = 0) := by
  by_cases h : a ≤ mMax ∧ p ≤ 1000000
  · have h1 : shareE a p = 0 := if_pos h
    exact .inl ⟨h1, h.1, h.2, if_pos h1⟩
  · have h1 : shareE a p = 1 := if_neg h
    exact .inr ⟨h1, h, if_neg (by rw [h1]; decide)⟩
theorem feeE_ok {b p a : Int} (h : shareE a p = 0) : feeE b p a = addE [b, shareN a p] ∧ feeN b p a = addN [b, shareN a p] := by
  have h1 : feeE b p a = addE [b, shareN a p] := if_pos h
  exact ⟨h1, by rw [feeN, h1, addN_two]⟩
theorem feeE_no {b p a : Int} (h : shareE a p = 1) : feeE b p a = 1 ∧ feeN b p a = 0 := by
  have h1 : feeE b p a = 1 := if_neg (by rw [h]; decide)
  exact ⟨h1, by rw [feeN, h1]; rfl⟩
theorem weigh_cases (ws : List Int) : (weighE ws = 0 ∧ ws.length ≤ 64 ∧ allLe 1000000 ws = true ∧ sumM ws ≠ 0 ∧ weighN ws = sumM ws) ∨ (weighE ws = 1 ∧ weighN ws = 0 ∧ ¬ (ws.length ≤ 64 ∧ allLe 1000000 ws = true ∧ sumM ws ≠ 0)) := by
  by_cases h : ws.length ≤ 64 ∧ allLe 1000000 ws = true ∧ sumM ws ≠ 0
  · have h1 : weighE ws = 0 := if_pos h
    exact .inl ⟨h1, h.1, h.2.1, h.2.2, if_pos h1⟩
  · have h1 : weighE ws = 1 := if_neg h
    exact .inr ⟨h1, if_neg (by rw [h1]; decide), h⟩
theorem split_ok {a : Int} {ws : List Int} (h : a ≤ mMax) (hw : weighE ws = 0) : splitE a ws = 0 ∧ splitL a ws = ptsM a ws ws.length := by
  rcases weigh_cases ws with ⟨_, h1, h2, h3, _⟩ | ⟨h1, _⟩
  · have h4 : splitE a ws = 0 := if_pos ⟨h, h1, h2, h3⟩
    exact ⟨h4, if_pos h4⟩
  · rw [h1] at hw; cases hw
theorem split_noA {a : Int} {ws : List Int} (h : ¬ a ≤ mMax) : splitE a ws = 1 ∧ splitL a ws = [] := by
  have h4 : splitE a ws = 1 := if_neg fun k => h k.1
  exact ⟨h4, if_neg (by rw [h4]; decide)⟩
theorem split_noW {a : Int} {ws : List Int} (hw : weighE ws = 1) : splitE a ws = 1 ∧ splitL a ws = [] := by
  rcases weigh_cases ws with ⟨h1, _⟩ | ⟨_, _, h⟩
  · rw [h1] at hw; cases hw
  · have h4 : splitE a ws = 1 := if_neg fun k => h k.2
    exact ⟨h4, if_neg (by rw [h4]; decide)⟩
theorem addE_cases2 (a b : Int) : (addE [a, b] = 0 ∧ addN [a, b] = a + b ∧ a ≤ mMax ∧ b ≤ mMax ∧ a + b ≤ mMax) ∨ (addE [a, b] = 8 ∧ addN [a, b] = 0 ∧ a ≤ mMax ∧ b ≤ mMax ∧ ¬ a + b ≤ mMax) ∨ (addE [a, b] = 1 ∧ addN [a, b] = 0 ∧ ¬ (a ≤ mMax ∧ b ≤ mMax)) := by
  by_cases h : a ≤ mMax ∧ b ≤ mMax
  · by_cases h2 : a + b ≤ mMax
    · have e : addE [a, b] = 0 := by rw [addE_two, if_pos h, if_pos h2]
      exact .inl ⟨e, by rw [addN_two, if_pos e], h.1, h.2, h2⟩
    · have e : addE [a, b] = 8 := by rw [addE_two, if_pos h, if_neg h2]
      exact .inr (.inl ⟨e, by rw [addN_two, if_neg (by rw [e]; decide)], h.1, h.2, h2⟩)
  · have e : addE [a, b] = 1 := by rw [addE_two, if_neg h]
    exact .inr (.inr ⟨e, by rw [addN_two, if_neg (by rw [e]; decide)], h⟩)
theorem fee_cases (b p a : Int) : (feeE b p a = 0 ∧ feeN b p a = b + shareN a p ∧ shareE a p = 0 ∧ b + shareN a p ≤ mMax ∧ b ≤ mMax) ∨ (∃ k, feeE b p a = k ∧ (k != 0) = true ∧ (k == 0) = false ∧ feeN b p a = 0) := by
  rcases shareE_cases a p with ⟨h, -⟩ | ⟨h, -⟩
  · obtain ⟨f1, f2⟩ := feeE_ok (b := b) h
    rw [f1, f2]
    rcases addE_cases2 b (shareN a p) with ⟨h1, h2, h3, h4, h5⟩ | ⟨h1, h2, -⟩ | ⟨h1, h2, -⟩
    · exact .inl ⟨h1, h2, h, h5, h3⟩
    · exact .inr ⟨8, h1, rfl, rfl, h2⟩
    · exact .inr ⟨1, h1, rfl, rfl, h2⟩
  · obtain ⟨f1, f2⟩ := feeE_no (b := b) h
    exact .inr ⟨1, f1, rfl, rfl, f2⟩
theorem share_mono {a p q : Int} (ha : 0 ≤ a) (h : shareE a p = 0) (h2 : shareE a q = 0) (hq : p ≤ q) : shareN a p ≤ shareN a q := by
  rw [shareN, if_pos h, shareN, if_pos h2]
  exact scl_mono ha hq (by decide)
theorem share_monoL {a b p : Int} (hp : 0 ≤ p) (h : shareE a p = 0) (h2 : shareE b p = 0) (hq : a ≤ b) : shareN a p ≤ shareN b p := by
  rw [shareN, if_pos h, shareN, if_pos h2]
  exact scl_monoL hp hq (by decide)
theorem share_nothing (p : Int) : shareN 0 p = 0 := by
  rw [shareN, scl_zeroL]
  split <;> rfl
end Go.Proofs.Ytgiapfenalhleaa
namespace Go.Proofs.Ytgiapfenalhleaa
open Go.RowKit Go.WalkArith

theorem above1_any (x m : Int) (b : Nat) (w : World) (hc : w.cell? ⟨b, 0, none⟩ = some (.int .u64 m)) :
    Calls Try.prog 107 #[.int .u64 x, .pointer (some ⟨b, 0, none⟩)] w fun e w' => e = .returned (.bool (decide (m < x))) ∧ w = w' := by
  go_enter Try.func107, Try.ntmps107
  go_wp2
  go_ret
  exact ⟨rfl, rfl⟩

set_option maxHeartbeats 1000000 in
theorem indexAbove_any (A : Option Addr) (n c B : Nat) (xs : List Int) (m : Int) (b : Nat) (w : World) (hr : Rd w B .u64 A n c xs) (hc : w.cell? ⟨b, 0, none⟩ = some (.int .u64 m)) :
    Calls Try.prog 109 #[.slice A n c, .func (.func 107) #[] #[.pointer (some ⟨b, 0, none⟩)]] w fun e w' => ∃ r : Int, e = .returned (.int .i64 r) ∧ decide (0 ≤ r) = !(allLe m xs) ∧ w = w' := by
  have hcap := hr.cap
  unfold maxLen at hcap
  have HL := hid hr.len
  go_enter Try.func109, Try.ntmps109
  go_wp2
  go_loop [8] (fun i => ∃ j : Nat, j ≤ n ∧ i = .int .i64 j ∧ allLe m (xs.take j) = true) (fun i => n - (intOf i).toNat)
  case atStart => exact ⟨0, Nat.zero_le _, rfl, rfl⟩
  case round =>
    obtain ⟨j, hj, rfl, hpre⟩ := hrel
    have HP := hid hpre
    clear hpre
    by_cases hlt : j < n
    · obtain ⟨b1, o1, rfl, hb1, hc1⟩ := hr.at_ (by omega)
      have q1 := hc1 j hlt
      clear hc1
      by_cases he : m < nth xs j
      · have HN := hid (allLe_bad (by rw [HL.out]; exact hlt) he)
        have hd : decide (m < nth xs j) = true := decide_eq_true he
        clear he
        generalize nth xs j = x at *
        go_wp2_with (go_at_call 107; go_must (refine (above1_any x m b _ hc).mono ?_; rintro e w' ⟨rfl, rfl⟩))
        go_ret
        exact ⟨_, rfl, by rw [HN.out]; simp, rfl⟩
      · have HN := hid (allLe_take (by rw [HL.out]; exact hlt) HP.out (by omega : nth xs j ≤ m))
        have hd : decide (m < nth xs j) = false := decide_eq_false he
        clear he
        generalize nth xs j = x at *
        go_wp2_with (go_at_call 107; go_must (refine (above1_any x m b _ hc).mono ?_; rintro e w' ⟨rfl, rfl⟩))
        go_round
        case rel => exact ⟨j + 1, by omega, by go_num, HN.out⟩
        case measure => simp [intOf]; omega
    · have HN := hid (allLe_all (by rw [HL.out]; omega) HP.out)
      go_wp2
      go_ret
      exact ⟨_, rfl, by rw [HN.out]; simp, rfl⟩

set_option maxHeartbeats 1000000 in
theorem containsAbove_any (A : Option Addr) (n c B : Nat) (xs : List Int) (m : Int) (b : Nat) (w : World) (hr : Rd w B .u64 A n c xs) (hc : w.cell? ⟨b, 0, none⟩ = some (.int .u64 m)) :
    Calls Try.prog 106 #[.slice A n c, .func (.func 107) #[] #[.pointer (some ⟨b, 0, none⟩)]] w fun e w' => e = .returned (.bool (!(allLe m xs))) ∧ w = w' := by
  go_enter Try.func106, Try.ntmps106
  go_wp2_with (go_at_call 109; go_must (refine (indexAbove_any _ _ _ _ xs m b _ hr hc).mono ?_; rintro e w' ⟨r, rfl, hk, rfl⟩))
  go_ret
  exact ⟨rfl, rfl⟩

set_option maxHeartbeats 1000000 in
theorem anyAbove_any (A : Option Addr) (n c B : Nat) (xs : List Int) (m : Int) (w : World) (hr : Rd w B .u64 A n c xs) (hB : B ≤ w.heap.size) :
    Calls Try.prog 99 #[.int .u64 m, .slice A n c] w fun e w' => e = .returned (.bool (!(allLe m xs))) ∧ Below w.heap.size w w' := by
  have hr' := hr.alloc hB (.cells #[.int .u64 m] 25)
  have hc : (w.alloc (.cells #[.int .u64 m] 25)).cell? ⟨w.heap.size, 0, none⟩ = some (.int .u64 m) := by rw [World.cell?_alloc_at] <;> rfl
  go_enter Try.func99, Try.ntmps99
  go_wp2_with (go_at_call 106; go_must (refine (containsAbove_any _ _ _ _ xs m _ _ hr' hc).mono ?_; rintro e w' ⟨rfl, rfl⟩))
  go_ret
  exact ⟨rfl, bel_alloc (Below.refl _ _) _⟩

set_option maxHeartbeats 1000000 in
theorem mCheck_any (A : Option Addr) (n c B : Nat) (xs : List Int) (w : World) (hr : Rd w B .u64 A n c xs) (hB : B ≤ w.heap.size) :
    Calls Try.prog 90 #[.slice A n c] w fun e w' => e = .returned (.int .i64 (chkM xs)) ∧ Below w.heap.size w w' := by
  by_cases h : allLe mMax xs = true
  · have H := hid (show chkM xs = 0 from if_pos h)
    have h' : (!(allLe 4611686018427387904 xs)) = false := by change (!(allLe mMax xs)) = false; rw [h]; rfl
    clear h
    go_enter Try.func90, Try.ntmps90
    go_wp2_with (go_at_call 99; go_must (refine (anyAbove_any _ _ _ _ xs _ _ hr hB).mono ?_; rw [h']; rintro e w' ⟨rfl, hb⟩))
    go_ret
    exact ⟨ret_num H.out.symm, hb⟩
  · have H := hid (show chkM xs = 1 from if_neg h)
    have h' : (!(allLe 4611686018427387904 xs)) = true := by change (!(allLe mMax xs)) = true; simpa using h
    clear h
    go_enter Try.func90, Try.ntmps90
    go_wp2_with (go_at_call 99; go_must (refine (anyAbove_any _ _ _ _ xs _ _ hr hB).mono ?_; rw [h']; rintro e w' ⟨rfl, hb⟩))
    go_ret
    exact ⟨ret_num H.out.symm, hb⟩

end Go.Proofs.Ytgiapfenalhleaa
namespace Go.Proofs.Ytgiapfenalhleaa
open Go.RowKit Go.WalkArith

theorem rd_oneC (w : World) (a : Int) (b : Nat) (hb : b = w.heap.size) (ha : (Lit.int .u64 a).wf = true) : Rd (w.alloc (.cells #[.int .u64 a] 25)) (w.alloc (.cells #[.int .u64 a] 25)).heap.size .u64 (some ⟨b, 0, none⟩) 1 1 [a] := by
  subst hb
  exact ⟨rfl, Nat.le_refl _, by simp [maxLen], by simpa using ha, by simp, fun _ => ⟨w.heap.size, 0, rfl, by simp, fun j hj => by
    match j, hj with
    | 0, _ => rw [World.cell?_alloc_at _ _ _ _ rfl]; rfl⟩⟩
/-- One amount, checked. -/
theorem mOne_any (a : Int) (b : Nat) (w : World) (hb : b = w.heap.size) (ha : (Lit.int .u64 a).wf = true) :
    Calls Try.prog 90 #[.slice (some ⟨b, 0, none⟩) 1 1] (w.alloc (.cells #[.int .u64 a] 25)) fun e w' => e = .returned (.int .i64 (if a ≤ 4611686018427387904 then 0 else 1)) ∧ Below w.heap.size w w' := by
  refine (mCheck_any _ _ _ _ [a] _ (rd_oneC w a b hb ha) (Nat.le_refl _)).mono ?_
  rintro e w1 ⟨rfl, hb1⟩
  exact ⟨by rw [chkM_one]; rfl, bel_call (bel_alloc (Below.refl _ _) _) hb1⟩

set_option maxHeartbeats 2000000 in
theorem cCheck_any (s : Array Value) (S : Nat → Prop) (c : Cav) (w : World) (h : lay_Caveat.rep w S c s.toList) :
    Calls Try.prog 71 #[.agg s] w fun e w' => e = .returned (.int .i64 (cavE c)) ∧ Below w.heap.size w w' := by
  obtain ⟨rfl, hw⟩ := agg_Caveat h
  clear h
  have bd := cav_bd hw
  have hwa := hw.a
  clear hw
  obtain ⟨k, a, b⟩ := c
  simp only at bd hwa ⊢
  have hb0 : Below w.heap.size w (w.alloc (Obj.cells #[.int .i64 k, .int .u64 a, .int .u64 b] 30)) := bel_alloc (Below.refl _ _) _
  have HGO : ∀ e : Int, ((e = 0 ∧ CavOk ⟨k, a, b⟩) ∨ (e = 1 ∧ ¬ CavOk ⟨k, a, b⟩)) → Hid (cavE ⟨k, a, b⟩ = e) := fun e h => hid (cavE_of h)
  have HM := hid (mOne_any a (w.heap.size + 1) (w.alloc (Obj.cells #[.int .i64 k, .int .u64 a, .int .u64 b] 30)) (by simp) hwa)
  rcases (show k < 1 ∨ 5 < k ∨ k = 1 ∨ k = 2 ∨ k = 3 ∨ k = 4 ∨ k = 5 by omega) with hk | hk | hk | hk | hk | hk | hk
  · have HE := HGO 1 (.inr ⟨rfl, fun q => by have : (1 : Int) ≤ k := q.1; omega⟩)
    have e1 : (k == 1) = false := by simp; omega
    have e2 : (k == 2) = false := by simp; omega
    have e3 : (k == 3) = false := by simp; omega
    have e4 : (k == 4) = false := by simp; omega
    have e5 : (k == 5) = false := by simp; omega
    have n4 : (k != 4) = true := by simp; omega
    clear hk
    by_cases hb : b = 0
    · subst hb
      clear HGO HM
      go_enter Try.func71, Try.ntmps71
      go_wp2
      go_ret
      exact ⟨ret_num HE.out.symm, hb0⟩
    · have d4 : (b != 0) = true := by simpa using hb
      clear HGO HM
      go_enter Try.func71, Try.ntmps71
      go_wp2
      go_ret
      exact ⟨ret_num HE.out.symm, hb0⟩
  · have HE := HGO 1 (.inr ⟨rfl, fun q => by have : k ≤ 5 := q.2.1; omega⟩)
    have e1 : (k == 1) = false := by simp; omega
    have e2 : (k == 2) = false := by simp; omega
    have e3 : (k == 3) = false := by simp; omega
    have e4 : (k == 4) = false := by simp; omega
    have e5 : (k == 5) = false := by simp; omega
    have n4 : (k != 4) = true := by simp; omega
    clear hk
    by_cases hb : b = 0
    · subst hb
      clear HGO HM
      go_enter Try.func71, Try.ntmps71
      go_wp2
      go_ret
      exact ⟨ret_num HE.out.symm, hb0⟩
    · have d4 : (b != 0) = true := by simpa using hb
      clear HGO HM
      go_enter Try.func71, Try.ntmps71
      go_wp2
      go_ret
      exact ⟨ret_num HE.out.symm, hb0⟩
  · subst hk
    by_cases hb : b = 0
    rotate_left
    · have HE := HGO 1 (.inr ⟨rfl, fun q => hb (q.2.2.2.2 (by show (1 : Int) ≠ 4; decide))⟩)
      have d4 : (b != 0) = true := by simpa using hb
      clear HGO HM
      go_enter Try.func71, Try.ntmps71
      go_wp2
      go_ret
      exact ⟨ret_num HE.out.symm, hb0⟩
    subst hb
    have HE := HGO 0 (.inl ⟨rfl, by refine ⟨?_, ?_, ?_, ?_, ?_⟩ <;> simp <;> omega⟩)
    clear HGO HM
    go_enter Try.func71, Try.ntmps71
    go_wp2
    go_ret
    exact ⟨ret_num HE.out.symm, hb0⟩
  · subst hk
    by_cases hb : b = 0
    rotate_left
    · have HE := HGO 1 (.inr ⟨rfl, fun q => hb (q.2.2.2.2 (by show (2 : Int) ≠ 4; decide))⟩)
      have d4 : (b != 0) = true := by simpa using hb
      clear HGO HM
      go_enter Try.func71, Try.ntmps71
      go_wp2
      go_ret
      exact ⟨ret_num HE.out.symm, hb0⟩
    subst hb
    by_cases ha : a ≤ 65535
    · have HE := HGO 0 (.inl ⟨rfl, by refine ⟨?_, ?_, ?_, ?_, ?_⟩ <;> simp <;> omega⟩)
      have d2 : a / 65536 = 0 := by omega
      clear HGO HM
      go_enter Try.func71, Try.ntmps71
      go_wp2
      go_ret
      exact ⟨ret_num HE.out.symm, hb0⟩
    · have HE := HGO 1 (.inr ⟨rfl, fun q => by have : a ≤ 65535 := q.2.2.1 rfl; omega⟩)
      have d2 : (a / 65536 == 0) = false := by simp; omega
      clear HGO HM
      go_enter Try.func71, Try.ntmps71
      go_wp2
      go_ret
      exact ⟨ret_num HE.out.symm, hb0⟩
  · subst hk
    by_cases hb : b = 0
    rotate_left
    · have HE := HGO 1 (.inr ⟨rfl, fun q => hb (q.2.2.2.2 (by show (3 : Int) ≠ 4; decide))⟩)
      have d4 : (b != 0) = true := by simpa using hb
      clear HGO HM
      go_enter Try.func71, Try.ntmps71
      go_wp2
      go_ret
      exact ⟨ret_num HE.out.symm, hb0⟩
    subst hb
    by_cases ha : a ≤ 4611686018427387904
    · have HE := HGO 0 (.inl ⟨rfl, by refine ⟨?_, ?_, ?_, ?_, ?_⟩ <;> simp <;> omega⟩)
      rw [if_pos ha] at HM
      clear HGO
      go_enter Try.func71, Try.ntmps71
      go_wp2_with fail
      refine HM.out.mono ?_
      rintro e w1 ⟨rfl, hb1⟩
      go_wp2
      go_ret
      exact ⟨ret_num HE.out.symm, bel_call hb0 hb1⟩
    · have HE := HGO 1 (.inr ⟨rfl, fun q => by have : a ≤ 4611686018427387904 := q.2.2.2.1 (.inl rfl); omega⟩)
      rw [if_neg ha] at HM
      clear HGO
      go_enter Try.func71, Try.ntmps71
      go_wp2_with fail
      refine HM.out.mono ?_
      rintro e w1 ⟨rfl, hb1⟩
      go_wp2
      go_ret
      exact ⟨ret_num HE.out.symm, bel_call hb0 hb1⟩
  · subst hk
    by_cases hb : b = 0
    · subst hb
      by_cases ha : a ≤ 4611686018427387904
      · have HE := HGO 0 (.inl ⟨rfl, by refine ⟨?_, ?_, ?_, ?_, ?_⟩ <;> simp <;> omega⟩)
        rw [if_pos ha] at HM
        clear HGO
        go_enter Try.func71, Try.ntmps71
        go_wp2_with fail
        refine HM.out.mono ?_
        rintro e w1 ⟨rfl, hb1⟩
        go_wp2
        go_ret
        exact ⟨ret_num HE.out.symm, bel_call hb0 hb1⟩
      · have HE := HGO 1 (.inr ⟨rfl, fun q => by have : a ≤ 4611686018427387904 := q.2.2.2.1 (.inr rfl); omega⟩)
        rw [if_neg ha] at HM
        clear HGO
        go_enter Try.func71, Try.ntmps71
        go_wp2_with fail
        refine HM.out.mono ?_
        rintro e w1 ⟨rfl, hb1⟩
        go_wp2
        go_ret
        exact ⟨ret_num HE.out.symm, bel_call hb0 hb1⟩
    · have d4 : (b != 0) = true := by simpa using hb
      by_cases ha : a ≤ 4611686018427387904
      · have HE := HGO 0 (.inl ⟨rfl, by refine ⟨?_, ?_, ?_, ?_, ?_⟩ <;> simp <;> omega⟩)
        rw [if_pos ha] at HM
        clear HGO
        go_enter Try.func71, Try.ntmps71
        go_wp2_with fail
        refine HM.out.mono ?_
        rintro e w1 ⟨rfl, hb1⟩
        go_wp2
        go_ret
        exact ⟨ret_num HE.out.symm, bel_call hb0 hb1⟩
      · have HE := HGO 1 (.inr ⟨rfl, fun q => by have : a ≤ 4611686018427387904 := q.2.2.2.1 (.inr rfl); omega⟩)
        rw [if_neg ha] at HM
        clear HGO
        go_enter Try.func71, Try.ntmps71
        go_wp2_with fail
        refine HM.out.mono ?_
        rintro e w1 ⟨rfl, hb1⟩
        go_wp2
        go_ret
        exact ⟨ret_num HE.out.symm, bel_call hb0 hb1⟩
  · subst hk
    by_cases hb : b = 0
    rotate_left
    · have HE := HGO 1 (.inr ⟨rfl, fun q => hb (q.2.2.2.2 (by show (5 : Int) ≠ 4; decide))⟩)
      have d4 : (b != 0) = true := by simpa using hb
      clear HGO HM
      go_enter Try.func71, Try.ntmps71
      go_wp2
      go_ret
      exact ⟨ret_num HE.out.symm, hb0⟩
    subst hb
    have HE := HGO 0 (.inl ⟨rfl, by refine ⟨?_, ?_, ?_, ?_, ?_⟩ <;> simp <;> omega⟩)
    clear HGO HM
    go_enter Try.func71, Try.ntmps71
    go_wp2
    go_ret
    exact ⟨ret_num HE.out.symm, hb0⟩

def useE (u : Usx) : Int := if UseOk u then 0 else 1

set_option maxHeartbeats 1000000 in
theorem written_any (k : Int) (w : World) :
    Calls Try.prog 72 #[.int .u64 k] w fun e w' => e = .returned (.int .i64 (if k = 4 then 3 else 2)) ∧ w = w' := by
  by_cases h : k = 4
  · subst h
    go_enter Try.func72, Try.ntmps72
    go_wp2
    go_ret
    exact ⟨rfl, rfl⟩
  · rw [if_neg h]
    have d : (k == 4) = false := by simpa using h
    go_enter Try.func72, Try.ntmps72
    go_wp2
    go_ret
    exact ⟨rfl, rfl⟩

end Go.Proofs.Ytgiapfenalhleaa
namespace Go.Proofs.Ytgiapfenalhleaa
open Go.RowKit Go.WalkArith

theorem bitN_nat (a i : Nat) : bitN (a : Int) i = a.testBit i := by
  rw [Nat.testBit_eq_decide_div_mod_eq]
  unfold bitN
  have e : ((a : Int) / 2 ^ i % 2) = ((a / 2 ^ i % 2 : Nat) : Int) := by simp
  rw [e, Bool.eq_iff_iff]
  generalize a / 2 ^ i % 2 = z
  simp only [beq_iff_eq, decide_eq_true_eq]
  omega
theorem and_one {x : Int} (h0 : 0 ≤ x) (h1 : x ≤ 18446744073709551615) : bits .and .u64 x 1 = x % 2 := by
  obtain ⟨a, rfl⟩ := Int.eq_ofNat_of_zero_le h0
  have h := u64_and_nat a 1 (by omega) (by omega)
  rw [Nat.and_one_is_mod] at h
  simpa using h
theorem shr_bd {a : Int} {m : Nat} (h0 : 0 ≤ a) (h1 : a ≤ 18446744073709551615) : 0 ≤ a / 2 ^ m ∧ a / 2 ^ m ≤ 18446744073709551615 :=
  ⟨Int.ediv_nonneg h0 (Int.pow_nonneg (by omega)), Int.le_trans (Int.ediv_le_self _ h0) h1⟩
theorem sub_bits {a b : Int} (h0 : 0 ≤ a) (h1 : a ≤ 65535) (h2 : 0 ≤ b) (h3 : b ≤ 18446744073709551615) : (bits .andNot .u64 a b == 0) = subB a b := by
  obtain ⟨x, rfl⟩ := Int.eq_ofNat_of_zero_le h0
  obtain ⟨y, rfl⟩ := Int.eq_ofNat_of_zero_le h2
  rw [u64_andNot_nat x y (by omega) (by omega), Bool.eq_iff_iff]
  have hx : x < 2 ^ 16 := by omega
  have hy : y < 2 ^ 64 := by omega
  have hn : ∀ i, i < 16 → (18446744073709551615 - y).testBit i = !y.testBit i := fun i hi => by
    have := Nat.testBit_two_pow_sub_succ hy i
    rw [show 2 ^ 64 - (y + 1) = 18446744073709551615 - y by omega] at this
    rw [this, decide_eq_true (by omega : i < 64)]
    rfl
  simp only [subB, beq_iff_eq, List.all_eq_true, List.mem_range, bitN_nat, Bool.or_eq_true, Bool.not_eq_true']
  constructor
  · intro h i hi
    have h' : x &&& (18446744073709551615 - y) = 0 := by exact_mod_cast h
    have := congrArg (fun z => Nat.testBit z i) h'
    simp only [Nat.testBit_and, hn i hi, Nat.zero_testBit] at this
    cases hxi : x.testBit i <;> cases hyi : y.testBit i <;> simp_all
  · intro h
    have : x &&& (18446744073709551615 - y) = 0 := by
      apply Nat.eq_of_testBit_eq
      intro i
      rw [Nat.testBit_and, Nat.zero_testBit]
      by_cases hi : i < 16
      · rw [hn i hi]
        rcases h i hi with h | h <;> rw [h] <;> simp
      · rw [Nat.testBit_lt_two_pow (Nat.lt_of_lt_of_le hx (Nat.pow_le_pow_right (by omega) (by omega))), Bool.false_and]
    rw [this]
    rfl

end Go.Proofs.Ytgiapfenalhleaa
namespace Go.Proofs.Ytgiapfenalhleaa
open Go.RowKit Go.WalkArith

theorem rd_row {w : World} {g : Nat} {t : TypeId} {x y z : Int} (n : Nat) (hn : n ≤ 3) (h0 : 0 < n) (V : Var3 w g t (.int .u64 x) (.int .u64 y) (.int .u64 z)) (hx : (Lit.int .u64 x).wf = true) (hy : (Lit.int .u64 y).wf = true) (hz : (Lit.int .u64 z).wf = true) : Rd w w.heap.size .u64 (some ⟨g, 0, none⟩) n 3 ([x, y, z].take n) := by
  have hm : ∀ v ∈ [x, y, z], (Lit.int .u64 v).wf = true := by simpa using ⟨hx, hy, hz⟩
  refine ⟨by simp; omega, hn, by simp [maxLen], fun v hv => hm v (List.mem_of_mem_take hv), by simp, fun _ => ⟨g, 0, rfl, V.lt, fun j hj => ?_⟩⟩
  have e : nth ([x, y, z].take n) j = nth [x, y, z] j := by simp [nth, hj]
  rw [e]
  match j, (by omega : j < 3) with
  | 0, _ => exact V.c0
  | 1, _ => exact V.c1
  | 2, _ => exact V.c2

set_option maxHeartbeats 1000000 in
theorem cPut_any (s : Array Value) (S : Nat → Prop) (c : Cav) (w : World) (h : lay_Caveat.rep w S c s.toList) :
    Calls Try.prog 37 #[.agg s] w fun e w' => ∃ v', e = .returned (.tuple #[v', .int .i64 (cavE c)]) ∧ Own w' w.heap.size 5 .u8 v' (putC c) ∧ Below w.heap.size w w' := by
  obtain ⟨rfl, hw⟩ := agg_Caveat h
  clear h
  have bd := cav_bd hw
  have hb0 : Below w.heap.size w (w.alloc (Obj.cells #[.int .i64 c.Kind, .int .u64 c.A, .int .u64 c.B] 30)) := bel_alloc (Below.refl _ _) _
  have V0 := Var3.new w 30 (.int .i64 c.Kind) (.int .u64 c.A) (.int .u64 c.B)
  have HCK := hid (fun W => cCheck_any #[.int .i64 c.Kind, .int .u64 c.A, .int .u64 c.B] (fun _ => True) c W (rep_Caveat.2 ⟨rfl, hw⟩))
  go_enter Try.func37, Try.ntmps37
  go_wp2_with fail
  refine (HCK.out _).mono ?_
  rintro e w1 ⟨rfl, hb1⟩
  have HB1 := bel_call hb0 hb1
  have V1 := V0.call hb1
  have k0 := V1.c0
  have k1 := V1.c1
  have k2 := V1.c2
  have hz1 := HB1.size
  clear hb1 hb0 V0 HCK
  rcases cavE_is (c := c) with ⟨hE, hok⟩ | ⟨hE, hok⟩
  · rw [hE]
    have HP := hid (show putC c = octs (numsC c) from if_pos hok)
    have HE := hid hE
    clear hE
    have hk := hok.1
    have hk2 := hok.2.1
    have HWK := hid (wf_u64 (by omega) : (Lit.int .u64 c.Kind).wf = true)
    by_cases h4 : c.Kind = 4
    · have HN := hid (show numsC c = [4, c.A, c.B] from if_pos h4)
      have L1 := Var3.new w1 107 (.int .u64 c.Kind) (.int .u64 c.A) (.int .u64 c.B)
      have HPU := hid (put_any _ _ _ _ _ (rd_row 3 (by decide) (by decide) L1 HWK.out hw.a hw.b) (by decide))
      have HWR := hid (written_any c.Kind (w1.alloc (Obj.cells #[.int .u64 c.Kind, .int .u64 c.A, .int .u64 c.B] 107)))
      rw [if_pos h4] at HWR
      clear hw hok hk hk2 L1
      obtain ⟨k, a, b⟩ := c
      simp only at *
      subst h4
      go_wp2_with fail
      refine HWR.out.mono ?_
      rintro e w2 ⟨rfl, rfl⟩
      go_wp2_with fail
      refine HPU.out.mono ?_
      rintro e w2 ⟨v2, rfl, ho2, hb2⟩
      go_wp2
      go_ret2
      exact ⟨_, by rw [HE.out]; rfl, by rw [HP.out, HN.out]; exact ho2.weaken (by simp; omega), bel_call (bel_alloc HB1 _) hb2⟩
    · have HN := hid (show numsC c = [c.Kind, c.A] from if_neg h4)
      have L1 := Var3.new w1 107 (.int .u64 c.Kind) (.int .u64 c.A) (.int .u64 c.B)
      have HPU := hid (put_any _ _ _ _ _ (rd_row 2 (by decide) (by decide) L1 HWK.out hw.a hw.b) (by decide))
      have HWR := hid (written_any c.Kind (w1.alloc (Obj.cells #[.int .u64 c.Kind, .int .u64 c.A, .int .u64 c.B] 107)))
      rw [if_neg h4] at HWR
      clear hw hok L1
      obtain ⟨k, a, b⟩ := c
      simp only at *
      go_wp2_with fail
      refine HWR.out.mono ?_
      rintro e w2 ⟨rfl, rfl⟩
      go_wp2_with fail
      refine HPU.out.mono ?_
      rintro e w2 ⟨v2, rfl, ho2, hb2⟩
      go_wp2
      go_ret2
      exact ⟨_, by rw [HE.out]; rfl, by rw [HP.out, HN.out]; exact ho2.weaken (by simp; omega), bel_call (bel_alloc HB1 _) hb2⟩
  · rw [hE]
    have HP := hid (show putC c = [] from if_neg hok)
    have HE := hid hE
    clear hE hok hw
    obtain ⟨k, a, b⟩ := c
    simp only at *
    go_wp2
    go_ret2
    exact ⟨_, by rw [HE.out]; rfl, by rw [HP.out]; exact Own.nil _ _ _ _, HB1⟩
end Go.Proofs.Ytgiapfenalhleaa
namespace Go.Proofs.Ytgiapfenalhleaa
open Go.RowKit Go.WalkArith

abbrev numsV (k a b : Int) : Value := .agg #[.int .u64 k, .int .u64 a, .int .u64 b]
/-- What is told of these octets: numbers, how many octets are left behind them, and an error. -/
def ReadC (xs : List Int) (k a b : Int) (n' : Nat) (er : Int) : Prop :=
  (er ≠ 0 ∧ getC xs = (zeroC, er)) ∨ (er = 0 ∧ getC xs = (if n' = 0 ∧ CavOk ⟨k, a, b⟩ then (⟨k, a, b⟩, 0) else (zeroC, 2)) ∧ (1 ≤ k ∧ k ≤ 5) ∧ (0 ≤ a ∧ a ≤ 18446744073709551615) ∧ 0 ≤ b ∧ b ≤ 18446744073709551615)
theorem finC_n {c : Cav} {r : List Int} {n : Nat} (h : r.length = n) : finC c r = if n = 0 ∧ CavOk c then (c, 0) else (zeroC, 2) := by
  unfold finC
  have : r = [] ↔ n = 0 := by rw [← h]; exact List.length_eq_zero_iff.symm
  simp only [this]
theorem Var3.set0 {w : World} {g : Nat} {t : TypeId} {x y z : Value} (h : Var3 w g t x y z) (v : Value) : Var3 (w.setCell ⟨g, 0, none⟩ v) g t v y z := heap_setCell_same w g 0 _ t v h

set_option maxRecDepth 100000 in
set_option maxHeartbeats 4000000 in
theorem cread_any (A : Option Addr) (n c : Nat) (xs : List Int) (w : World) (hr : Rd w w.heap.size .u8 A n c xs) (hn : n ≤ 1000000) :
    Calls Try.prog 97 #[.slice A n c] w fun e w' => ∃ k a b A' n' c' er, e = .returned (.tuple #[numsV k a b, .slice A' n' c', .int .i64 er]) ∧ ReadC xs k a b n' er ∧ n' ≤ 1000000 ∧ Below w.heap.size w w' := by
  have hcap := hr.cap
  unfold maxLen at hcap
  have HL := hid hr.len
  have HW := hid (rd_octs hr)
  have HB0 : Below w.heap.size w ((w.alloc (Obj.cells #[.int .u64 0, .int .u64 0, .int .u64 0] 107)).alloc (Obj.cells #[.int .u64 0, .int .u64 0, .int .u64 0] 107)) := bel_alloc (bel_alloc (Below.refl _ _) _) _
  have V0 : Var3 ((w.alloc (Obj.cells #[.int .u64 0, .int .u64 0, .int .u64 0] 107)).alloc (Obj.cells #[.int .u64 0, .int .u64 0, .int .u64 0] 107)) w.heap.size 107 (.int .u64 0) (.int .u64 0) (.int .u64 0) := heap_alloc2_old _ _ _
  have L0 : Var3 ((w.alloc (Obj.cells #[.int .u64 0, .int .u64 0, .int .u64 0] 107)).alloc (Obj.cells #[.int .u64 0, .int .u64 0, .int .u64 0] 107)) (w.heap.size + 1) 107 (.int .u64 0) (.int .u64 0) (.int .u64 0) := alloc2_new _ _ _
  have RX := hid (fun (W : World) (h : Below w.heap.size w W) => (hr.below h).more h.size)
  clear hr
  go_enter Try.func97, Try.ntmps97
  go_wp2_with fail
  refine wp_loop_rounds 4 ?_
  rw [rounds_succ]
  go_wp2_with fail
  generalize (w.alloc (Obj.cells #[.int .u64 0, .int .u64 0, .int .u64 0] 107)).alloc (Obj.cells #[.int .u64 0, .int .u64 0, .int .u64 0] 107) = W0 at *
  obtain ⟨gl, hgl⟩ : ∃ g, g = w.heap.size + 1 := ⟨_, rfl⟩
  rw [← hgl] at L0 ⊢
  have hlt : w.heap.size < gl := by omega
  clear hgl
  have HR0 := hid (written_any 0 W0)
  rw [if_neg (by decide : ¬ (0 : Int) = 4)] at HR0
  refine HR0.out.mono ?_
  rintro e w9 ⟨rfl, rfl⟩
  clear HR0
  go_wp2_with fail
  by_cases e1 : getE xs = 0
  rotate_left
  · have HP := hid (show getC xs = (zeroC, getE xs) from if_neg e1)
    refine (get_bad _ _ _ _ xs _ (RX.out _ HB0) e1).mono ?_
    rintro e w7 ⟨rfl, hb7⟩
    have HB7 := bel_call HB0 hb7
    have V7 := V0.call hb7
    have hne : (getE xs != 0) = true := by simpa using e1
    have HNE := hid e1
    clear e1 hb7 HB0 V0 L0
    generalize getE xs = ge at *
    have k0 := V7.c0
    have k1 := V7.c1
    have k2 := V7.c2
    have f0 := V7.f 0
    have f1 := V7.f 1
    have f2 := V7.f 2
    have V9 := hid (V7.set (.int .u64 0) (.int .u64 0) (.int .u64 0))
    have HB9 := hid (((HB7.setCell (p := ⟨w.heap.size, 0, none⟩) (Nat.le_refl _) (.int .u64 0)).setCell (p := ⟨w.heap.size, 1, none⟩) (Nat.le_refl _) (.int .u64 0)).setCell (p := ⟨w.heap.size, 2, none⟩) (Nat.le_refl _) (.int .u64 0))
    clear V7
    go_wp2
    refine bodyPost_ret_by (results_ctt rfl _ _ w.heap.size 0 rfl [.int .u64 0, .int .u64 0, .int .u64 0] _ (range3 V9.out.c0 V9.out.c1 V9.out.c2) Try.underlying107 rfl (by kernel_rfl)) rfl ?_
    exact ⟨0, 0, 0, none, 0, 0, ge, rfl, .inl ⟨HNE.out, HP.out⟩, by decide, HB9.out⟩
  refine (get_ok _ _ _ _ xs _ (RX.out _ HB0) e1).mono ?_
  rintro e w1 ⟨rfl, hb1⟩
  have HB1 := bel_call HB0 hb1
  have V1 := V0.call hb1
  have L1 := L0.call hb1
  have bd1 := getE_rd HW.out e1
  have hk1 := (put_get HW.out e1).2
  rw [HL.out] at hk1
  have HG1 := hid (show getC xs = if 1 ≤ rdN xs ∧ rdN xs ≤ 5 then getC1 (rdN xs) (xs.drop (oct (rdN xs)).length) else (zeroC, 2) from if_pos e1)
  have RY1 := hid (fun (W : World) (h : Below w.heap.size w W) => (RX.out W h).cut (i := (oct (rdN xs)).length) hk1)
  have HWY1 := hid (drop_bd HW.out (oct (rdN xs)).length)
  have HLY1 := hid (show (xs.drop (oct (rdN xs)).length).length = n - (oct (rdN xs)).length from by rw [List.length_drop, HL.out])
  have hcut1 := run_from (P := Try.prog) 46 5 Try.underlying46 Try.elemU8 Try.infoU8 A n c (oct (rdN xs)).length hk1
  clear hb1 HB0 V0 L0 RX e1 HW HL
  generalize xs.drop (oct (rdN xs)).length = ys at *
  generalize (oct (rdN xs)).length = l1 at *
  generalize rdN xs = kd at *
  generalize hA1 : cutA A c l1 = A1 at *
  clear hA1
  generalize hn1 : n - l1 = n1 at *
  have hm1 : n1 ≤ 1000000 := by omega
  generalize hc1 : c - l1 = c1 at *
  clear hc1 hn1 hk1
  have p1 := L1.c0
  have pf1 := L1.f 0
  have M1 := L1.set0 (.int .u64 kd)
  have U1 := V1.setOther (b := gl) (by omega) 0 (.int .u64 kd)
  have HC1 := HB1.setCell (p := ⟨gl, 0, none⟩) (by show w.heap.size ≤ gl; omega) (.int .u64 kd)
  have z1 := M1.c0
  clear L1 V1 HB1
  by_cases hkd : 1 ≤ kd ∧ kd ≤ 5
  rotate_left
  · have HP := hid (HG1.out.trans (if_neg hkd))
    clear M1
    by_cases h0 : kd < 1
    · have d1 : decide (kd < 1) = true := by simpa using h0
      have k0 := U1.c0
      have k1 := U1.c1
      have k2 := U1.c2
      have f0 := U1.f 0
      have f1 := U1.f 1
      have f2 := U1.f 2
      have V9 := hid (U1.set (.int .u64 0) (.int .u64 0) (.int .u64 0))
      have HB9 := hid (((HC1.setCell (p := ⟨w.heap.size, 0, none⟩) (Nat.le_refl _) (.int .u64 0)).setCell (p := ⟨w.heap.size, 1, none⟩) (Nat.le_refl _) (.int .u64 0)).setCell (p := ⟨w.heap.size, 2, none⟩) (Nat.le_refl _) (.int .u64 0))
      clear U1
      go_wp2
      refine bodyPost_ret_by (results_ctt rfl _ _ w.heap.size 0 rfl [.int .u64 0, .int .u64 0, .int .u64 0] _ (range3 V9.out.c0 V9.out.c1 V9.out.c2) Try.underlying107 rfl (by kernel_rfl)) rfl ?_
      exact ⟨0, 0, 0, none, 0, 0, 2, rfl, .inl ⟨by decide, HP.out⟩, by decide, HB9.out⟩
    · have d1 : decide (kd < 1) = false := by simpa using h0
      have d2 : decide (5 < kd) = true := by simp; omega
      have k0 := U1.c0
      have k1 := U1.c1
      have k2 := U1.c2
      have f0 := U1.f 0
      have f1 := U1.f 1
      have f2 := U1.f 2
      have V9 := hid (U1.set (.int .u64 0) (.int .u64 0) (.int .u64 0))
      have HB9 := hid (((HC1.setCell (p := ⟨w.heap.size, 0, none⟩) (Nat.le_refl _) (.int .u64 0)).setCell (p := ⟨w.heap.size, 1, none⟩) (Nat.le_refl _) (.int .u64 0)).setCell (p := ⟨w.heap.size, 2, none⟩) (Nat.le_refl _) (.int .u64 0))
      clear U1
      go_wp2
      refine bodyPost_ret_by (results_ctt rfl _ _ w.heap.size 0 rfl [.int .u64 0, .int .u64 0, .int .u64 0] _ (range3 V9.out.c0 V9.out.c1 V9.out.c2) Try.underlying107 rfl (by kernel_rfl)) rfl ?_
      exact ⟨0, 0, 0, none, 0, 0, 2, rfl, .inl ⟨by decide, HP.out⟩, by decide, HB9.out⟩
  have d1 : decide (kd < 1) = false := by simp; omega
  have d2 : decide (5 < kd) = false := by simp; omega
  have HG := hid (HG1.out.trans (if_pos hkd))
  clear HG1
  go_wp2_with fail
  rw [rounds_succ]
  go_wp2_with fail
  generalize w1.setCell ⟨gl, 0, none⟩ (.int .u64 kd) = W1 at *
  clear p1 pf1
  have HRW := hid (written_any kd)
  by_cases h4 : kd = 4
  · skip
    subst h4
    simp only [if_true] at HRW
    refine (HRW.out _).mono ?_
    rintro e w9 ⟨rfl, rfl⟩
    go_wp2_with fail
    by_cases e2 : getE ys = 0
    rotate_left
    · have HP := hid (HG.out.trans (show getC1 4 ys = (zeroC, getE ys) from if_neg e2))
      refine (get_bad _ _ _ _ ys _ (RY1.out _ HC1) e2).mono ?_
      rintro e w7 ⟨rfl, hb7⟩
      have HB7 := bel_call HC1 hb7
      have V7 := U1.call hb7
      have hne : (getE ys != 0) = true := by simpa using e2
      have HNE := hid e2
      clear e2 hb7 HC1 U1 M1
      generalize getE ys = ge at *
      have k0 := V7.c0
      have k1 := V7.c1
      have k2 := V7.c2
      have f0 := V7.f 0
      have f1 := V7.f 1
      have f2 := V7.f 2
      have V9 := hid (V7.set (.int .u64 0) (.int .u64 0) (.int .u64 0))
      have HB9 := hid (((HB7.setCell (p := ⟨w.heap.size, 0, none⟩) (Nat.le_refl _) (.int .u64 0)).setCell (p := ⟨w.heap.size, 1, none⟩) (Nat.le_refl _) (.int .u64 0)).setCell (p := ⟨w.heap.size, 2, none⟩) (Nat.le_refl _) (.int .u64 0))
      clear V7
      go_wp2
      refine bodyPost_ret_by (results_ctt rfl _ _ w.heap.size 0 rfl [.int .u64 0, .int .u64 0, .int .u64 0] _ (range3 V9.out.c0 V9.out.c1 V9.out.c2) Try.underlying107 rfl (by kernel_rfl)) rfl ?_
      exact ⟨0, 0, 0, none, 0, 0, ge, rfl, .inl ⟨HNE.out, HP.out⟩, by decide, HB9.out⟩
    refine (get_ok _ _ _ _ ys _ (RY1.out _ HC1) e2).mono ?_
    rintro e w2 ⟨rfl, hb2⟩
    have HB2 := bel_call HC1 hb2
    have V2 := U1.call hb2
    have L2 := M1.call hb2
    have bd2 := getE_rd HWY1.out e2
    have hk2 := (put_get HWY1.out e2).2
    rw [HLY1.out] at hk2
    have HG2 := hid (HG.out.trans (show getC1 4 ys = getC2 4 (rdN ys) (ys.drop (oct (rdN ys)).length) from if_pos e2))
    have RY2 := hid (fun (W : World) (h : Below w.heap.size w W) => (RY1.out W h).cut (i := (oct (rdN ys)).length) hk2)
    have HWY2 := hid (drop_bd HWY1.out (oct (rdN ys)).length)
    have HLY2 := hid (show (ys.drop (oct (rdN ys)).length).length = n1 - (oct (rdN ys)).length from by rw [List.length_drop, HLY1.out])
    have hcut2 := run_from (P := Try.prog) 46 5 Try.underlying46 Try.elemU8 Try.infoU8 A1 n1 c1 (oct (rdN ys)).length hk2
    clear hb2 HC1 U1 M1 RY1 e2 HWY1 HLY1
    generalize ys.drop (oct (rdN ys)).length = zs at *
    generalize (oct (rdN ys)).length = l2 at *
    generalize rdN ys = an at *
    generalize hA2 : cutA A1 c1 l2 = A2 at *
    clear hA2
    generalize hn2 : n1 - l2 = n2 at *
    have hm2 : n2 ≤ 1000000 := by omega
    generalize hc2 : c1 - l2 = c2 at *
    clear hc2 hn2 hk2
    have p2 := L2.c1
    have pf2 := L2.f 1
    have M2 := L2.set1 (.int .u64 an)
    have U2 := V2.setOther (b := gl) (by omega) 1 (.int .u64 an)
    have HC2 := HB2.setCell (p := ⟨gl, 1, none⟩) (by show w.heap.size ≤ gl; omega) (.int .u64 an)
    have z2 := M2.c0
    clear L2 V2 HB2
    clear z1 HG
    go_wp2_with fail
    rw [rounds_succ]
    go_wp2_with fail
    generalize w2.setCell ⟨gl, 1, none⟩ (.int .u64 an) = W2 at *
    clear p2 pf2
    refine (HRW.out _).mono ?_
    rintro e w9 ⟨rfl, rfl⟩
    go_wp2_with fail
    by_cases e3 : getE zs = 0
    rotate_left
    · have HP := hid (HG2.out.trans ((show getC2 4 an zs = _ from if_pos rfl).trans (if_neg e3)))
      refine (get_bad _ _ _ _ zs _ (RY2.out _ HC2) e3).mono ?_
      rintro e w7 ⟨rfl, hb7⟩
      have HB7 := bel_call HC2 hb7
      have V7 := U2.call hb7
      have hne : (getE zs != 0) = true := by simpa using e3
      have HNE := hid e3
      clear e3 hb7 HC2 U2 M2
      generalize getE zs = ge at *
      have k0 := V7.c0
      have k1 := V7.c1
      have k2 := V7.c2
      have f0 := V7.f 0
      have f1 := V7.f 1
      have f2 := V7.f 2
      have V9 := hid (V7.set (.int .u64 0) (.int .u64 0) (.int .u64 0))
      have HB9 := hid (((HB7.setCell (p := ⟨w.heap.size, 0, none⟩) (Nat.le_refl _) (.int .u64 0)).setCell (p := ⟨w.heap.size, 1, none⟩) (Nat.le_refl _) (.int .u64 0)).setCell (p := ⟨w.heap.size, 2, none⟩) (Nat.le_refl _) (.int .u64 0))
      clear V7
      go_wp2
      refine bodyPost_ret_by (results_ctt rfl _ _ w.heap.size 0 rfl [.int .u64 0, .int .u64 0, .int .u64 0] _ (range3 V9.out.c0 V9.out.c1 V9.out.c2) Try.underlying107 rfl (by kernel_rfl)) rfl ?_
      exact ⟨0, 0, 0, none, 0, 0, ge, rfl, .inl ⟨HNE.out, HP.out⟩, by decide, HB9.out⟩
    refine (get_ok _ _ _ _ zs _ (RY2.out _ HC2) e3).mono ?_
    rintro e w3 ⟨rfl, hb3⟩
    have HB3 := bel_call HC2 hb3
    have V3 := U2.call hb3
    have L3 := M2.call hb3
    have bd3 := getE_rd HWY2.out e3
    have hk3 := (put_get HWY2.out e3).2
    rw [HLY2.out] at hk3
    have HG3 := hid (HG2.out.trans ((show getC2 4 an zs = _ from if_pos rfl).trans (if_pos e3)))
    have RY3 := hid (fun (W : World) (h : Below w.heap.size w W) => (RY2.out W h).cut (i := (oct (rdN zs)).length) hk3)
    have HWY3 := hid (drop_bd HWY2.out (oct (rdN zs)).length)
    have HLY3 := hid (show (zs.drop (oct (rdN zs)).length).length = n2 - (oct (rdN zs)).length from by rw [List.length_drop, HLY2.out])
    have hcut3 := run_from (P := Try.prog) 46 5 Try.underlying46 Try.elemU8 Try.infoU8 A2 n2 c2 (oct (rdN zs)).length hk3
    clear hb3 HC2 U2 M2 RY2 e3 HWY2 HLY2
    generalize zs.drop (oct (rdN zs)).length = ts at *
    generalize (oct (rdN zs)).length = l3 at *
    generalize rdN zs = bn at *
    generalize hA3 : cutA A2 c2 l3 = A3 at *
    clear hA3
    generalize hn3 : n2 - l3 = n3 at *
    have hm3 : n3 ≤ 1000000 := by omega
    generalize hc3 : c2 - l3 = c3 at *
    clear hc3 hn3 hk3
    have p3 := L3.c2
    have pf3 := L3.f 2
    have M3 := L3.set2 (.int .u64 bn)
    have U3 := V3.setOther (b := gl) (by omega) 2 (.int .u64 bn)
    have HC3 := HB3.setCell (p := ⟨gl, 2, none⟩) (by show w.heap.size ≤ gl; omega) (.int .u64 bn)
    have z3 := M3.c0
    clear L3 V3 HB3
    clear z2 HG2
    go_wp2_with fail
    rw [rounds_succ]
    go_wp2_with fail
    generalize w3.setCell ⟨gl, 2, none⟩ (.int .u64 bn) = W3 at *
    clear p3 pf3
    refine (HRW.out _).mono ?_
    rintro e w9 ⟨rfl, rfl⟩
    have HF := hid (HG3.out.trans (finC_n HLY3.out))
    clear HG3
    have k0 := U3.c0
    have k1 := U3.c1
    have k2 := U3.c2
    have f0 := U3.f 0
    have f1 := U3.f 1
    have f2 := U3.f 2
    have m0 := M3.c0
    have m1 := M3.c1
    have m2 := M3.c2
    have V9 := hid (U3.set (.int .u64 4) (.int .u64 an) (.int .u64 bn))
    have HB9 := hid (((HC3.setCell (p := ⟨w.heap.size, 0, none⟩) (Nat.le_refl _) (.int .u64 4)).setCell (p := ⟨w.heap.size, 1, none⟩) (Nat.le_refl _) (.int .u64 an)).setCell (p := ⟨w.heap.size, 2, none⟩) (Nat.le_refl _) (.int .u64 bn))
    clear U3 M3
    go_wp2
    refine bodyPost_ret_by (results_ctt rfl _ _ w.heap.size 0 rfl [.int .u64 4, .int .u64 an, .int .u64 bn] _ (range3 V9.out.c0 V9.out.c1 V9.out.c2) Try.underlying107 rfl (by kernel_rfl)) rfl ?_
    exact ⟨4, an, bn, A3, n3, c3, 0, rfl, .inr ⟨rfl, HF.out, hkd, by omega, by omega, by omega⟩, by omega, HB9.out⟩
  · skip
    simp only [if_neg h4] at HRW
    refine (HRW.out _).mono ?_
    rintro e w9 ⟨rfl, rfl⟩
    go_wp2_with fail
    by_cases e2 : getE ys = 0
    rotate_left
    · have HP := hid (HG.out.trans (show getC1 kd ys = (zeroC, getE ys) from if_neg e2))
      refine (get_bad _ _ _ _ ys _ (RY1.out _ HC1) e2).mono ?_
      rintro e w7 ⟨rfl, hb7⟩
      have HB7 := bel_call HC1 hb7
      have V7 := U1.call hb7
      have hne : (getE ys != 0) = true := by simpa using e2
      have HNE := hid e2
      clear e2 hb7 HC1 U1 M1
      generalize getE ys = ge at *
      have k0 := V7.c0
      have k1 := V7.c1
      have k2 := V7.c2
      have f0 := V7.f 0
      have f1 := V7.f 1
      have f2 := V7.f 2
      have V9 := hid (V7.set (.int .u64 0) (.int .u64 0) (.int .u64 0))
      have HB9 := hid (((HB7.setCell (p := ⟨w.heap.size, 0, none⟩) (Nat.le_refl _) (.int .u64 0)).setCell (p := ⟨w.heap.size, 1, none⟩) (Nat.le_refl _) (.int .u64 0)).setCell (p := ⟨w.heap.size, 2, none⟩) (Nat.le_refl _) (.int .u64 0))
      clear V7
      go_wp2
      refine bodyPost_ret_by (results_ctt rfl _ _ w.heap.size 0 rfl [.int .u64 0, .int .u64 0, .int .u64 0] _ (range3 V9.out.c0 V9.out.c1 V9.out.c2) Try.underlying107 rfl (by kernel_rfl)) rfl ?_
      exact ⟨0, 0, 0, none, 0, 0, ge, rfl, .inl ⟨HNE.out, HP.out⟩, by decide, HB9.out⟩
    refine (get_ok _ _ _ _ ys _ (RY1.out _ HC1) e2).mono ?_
    rintro e w2 ⟨rfl, hb2⟩
    have HB2 := bel_call HC1 hb2
    have V2 := U1.call hb2
    have L2 := M1.call hb2
    have bd2 := getE_rd HWY1.out e2
    have hk2 := (put_get HWY1.out e2).2
    rw [HLY1.out] at hk2
    have HG2 := hid (HG.out.trans (show getC1 kd ys = getC2 kd (rdN ys) (ys.drop (oct (rdN ys)).length) from if_pos e2))
    have RY2 := hid (fun (W : World) (h : Below w.heap.size w W) => (RY1.out W h).cut (i := (oct (rdN ys)).length) hk2)
    have HWY2 := hid (drop_bd HWY1.out (oct (rdN ys)).length)
    have HLY2 := hid (show (ys.drop (oct (rdN ys)).length).length = n1 - (oct (rdN ys)).length from by rw [List.length_drop, HLY1.out])
    have hcut2 := run_from (P := Try.prog) 46 5 Try.underlying46 Try.elemU8 Try.infoU8 A1 n1 c1 (oct (rdN ys)).length hk2
    clear hb2 HC1 U1 M1 RY1 e2 HWY1 HLY1
    generalize ys.drop (oct (rdN ys)).length = zs at *
    generalize (oct (rdN ys)).length = l2 at *
    generalize rdN ys = an at *
    generalize hA2 : cutA A1 c1 l2 = A2 at *
    clear hA2
    generalize hn2 : n1 - l2 = n2 at *
    have hm2 : n2 ≤ 1000000 := by omega
    generalize hc2 : c1 - l2 = c2 at *
    clear hc2 hn2 hk2
    have p2 := L2.c1
    have pf2 := L2.f 1
    have M2 := L2.set1 (.int .u64 an)
    have U2 := V2.setOther (b := gl) (by omega) 1 (.int .u64 an)
    have HC2 := HB2.setCell (p := ⟨gl, 1, none⟩) (by show w.heap.size ≤ gl; omega) (.int .u64 an)
    have z2 := M2.c0
    clear L2 V2 HB2
    clear z1 HG
    go_wp2_with fail
    rw [rounds_succ]
    go_wp2_with fail
    generalize w2.setCell ⟨gl, 1, none⟩ (.int .u64 an) = W2 at *
    clear p2 pf2
    refine (HRW.out _).mono ?_
    rintro e w9 ⟨rfl, rfl⟩
    have HF := hid (HG2.out.trans ((show getC2 kd an zs = finC ⟨kd, an, 0⟩ zs from if_neg h4).trans (finC_n HLY2.out)))
    clear HG2
    have k0 := U2.c0
    have k1 := U2.c1
    have k2 := U2.c2
    have f0 := U2.f 0
    have f1 := U2.f 1
    have f2 := U2.f 2
    have m0 := M2.c0
    have m1 := M2.c1
    have m2 := M2.c2
    have V9 := hid (U2.set (.int .u64 kd) (.int .u64 an) (.int .u64 0))
    have HB9 := hid (((HC2.setCell (p := ⟨w.heap.size, 0, none⟩) (Nat.le_refl _) (.int .u64 kd)).setCell (p := ⟨w.heap.size, 1, none⟩) (Nat.le_refl _) (.int .u64 an)).setCell (p := ⟨w.heap.size, 2, none⟩) (Nat.le_refl _) (.int .u64 0))
    clear U2 M2
    go_wp2
    refine bodyPost_ret_by (results_ctt rfl _ _ w.heap.size 0 rfl [.int .u64 kd, .int .u64 an, .int .u64 0] _ (range3 V9.out.c0 V9.out.c1 V9.out.c2) Try.underlying107 rfl (by kernel_rfl)) rfl ?_
    exact ⟨kd, an, 0, A2, n2, c2, 0, rfl, .inr ⟨rfl, HF.out, hkd, by omega, by decide, by decide⟩, by omega, HB9.out⟩
end Go.Proofs.Ytgiapfenalhleaa
namespace Go.Proofs.Ytgiapfenalhleaa
open Go.RowKit Go.WalkArith

set_option maxRecDepth 100000 in
set_option maxHeartbeats 4000000 in
theorem cGet_any (A : Option Addr) (n c : Nat) (xs : List Int) (w : World) (hr : Rd w w.heap.size .u8 A n c xs) (hn : n ≤ 1000000) :
    Calls Try.prog 84 #[.slice A n c] w fun e w' => e = .returned (.tuple #[cavV (getC xs).1, .int .i64 (getC xs).2]) ∧ Below w.heap.size w w' := by
  have hb0 : Below w.heap.size w (w.alloc (Obj.cells #[.int .i64 0, .int .u64 0, .int .u64 0] 30)) := bel_alloc (Below.refl _ _) _
  have V0 := Var3.new w 30 (.int .i64 0) (.int .u64 0) (.int .u64 0)
  have RX := hid (fun (W : World) (h : Below w.heap.size w W) => (hr.below h).more h.size)
  clear hr
  go_enter Try.func84, Try.ntmps84
  go_wp2_with fail
  refine (cread_any A n c xs _ (RX.out _ hb0) hn).mono ?_
  rintro e w1 ⟨k, a, b, A', n', c', er, rfl, hrd, hn', hb1⟩
  have HB1 := bel_call hb0 hb1
  have V1 := V0.call hb1
  clear RX V0 hb1 hb0
  have hbL := bel_alloc (Below.refl w1.heap.size w1) (Obj.cells #[.int .u64 k, .int .u64 a, .int .u64 b] 107)
  have V2 := V1.call hbL
  have HB2 := bel_call HB1 hbL
  have L2 := Var3.new w1 107 (.int .u64 k) (.int .u64 a) (.int .u64 b)
  clear V1 HB1 hbL
  rcases hrd with ⟨hne, hg⟩ | ⟨rfl, hg, hk, ha, hb⟩
  · have HG := hid hg
    have hd : (er != 0) = true := by simpa using hne
    clear hg hne
    have k0 := V2.c0
    have k1 := V2.c1
    have k2 := V2.c2
    have f0 := V2.f 0
    have f1 := V2.f 1
    have f2 := V2.f 2
    have V9 := hid (V2.set (.int .i64 0) (.int .u64 0) (.int .u64 0))
    have HB9 := hid (((HB2.setCell (p := ⟨w.heap.size, 0, none⟩) (Nat.le_refl _) (.int .i64 0)).setCell (p := ⟨w.heap.size, 1, none⟩) (Nat.le_refl _) (.int .u64 0)).setCell (p := ⟨w.heap.size, 2, none⟩) (Nat.le_refl _) (.int .u64 0))
    clear V2
    go_wp2
    refine bodyPost_ret_by (results_ct rfl _ _ w.heap.size 0 rfl [.int .i64 0, .int .u64 0, .int .u64 0] _ (range3 V9.out.c0 V9.out.c1 V9.out.c2) Try.underlying30 rfl (by kernel_rfl)) rfl ?_
    exact ⟨by rw [HG.out]; rfl, HB9.out⟩
  · have m0 := L2.c0
    have m1 := L2.c1
    have m2 := L2.c2
    have hg2 := V2.lt
    generalize hW2 : w1.alloc (Obj.cells #[.int .u64 k, .int .u64 a, .int .u64 b] 107) = W2 at *
    have hbC := bel_alloc (Below.refl W2.heap.size W2) (Obj.cells #[.int .i64 k, .int .u64 a, .int .u64 b] 30)
    have V3 := V2.call hbC
    have HB3 := bel_call HB2 hbC
    have C3 := Var3.new W2 30 (.int .i64 k) (.int .u64 a) (.int .u64 b)
    have HCK := hid (fun W => cCheck_any #[.int .i64 k, .int .u64 a, .int .u64 b] (fun _ => True) ⟨k, a, b⟩ W (rep_Caveat.2 ⟨rfl, cavWf_mk (by omega) ha hb⟩))
    have HCE := hid (cavE_is (c := ⟨k, a, b⟩))
    have q0 := C3.c0
    have q1 := C3.c1
    have q2 := C3.c2
    have wk : IntKind.i64.wrap k = k := IntWalk.i64_in _ (by omega)
    clear V2 HB2 hbC L2
    by_cases hz : n' = 0
    rotate_left
    · have HG := hid (hg.trans (if_neg fun q => hz q.1))
      have dn : decide ((0 : Int) < (n' : Int)) = true := by simp; omega
      clear hg HCK HCE C3
      subst hW2
      have k0 := V3.c0
      have k1 := V3.c1
      have k2 := V3.c2
      have f0 := V3.f 0
      have f1 := V3.f 1
      have f2 := V3.f 2
      have V9 := hid (V3.set (.int .i64 0) (.int .u64 0) (.int .u64 0))
      have HB9 := hid (((HB3.setCell (p := ⟨w.heap.size, 0, none⟩) (Nat.le_refl _) (.int .i64 0)).setCell (p := ⟨w.heap.size, 1, none⟩) (Nat.le_refl _) (.int .u64 0)).setCell (p := ⟨w.heap.size, 2, none⟩) (Nat.le_refl _) (.int .u64 0))
      clear V3
      go_wp2
      refine bodyPost_ret_by (results_ct rfl _ _ w.heap.size 0 rfl [.int .i64 0, .int .u64 0, .int .u64 0] _ (range3 V9.out.c0 V9.out.c1 V9.out.c2) Try.underlying30 rfl (by kernel_rfl)) rfl ?_
      exact ⟨by rw [HG.out]; rfl, HB9.out⟩
    subst hz
    have HGY := hid (show CavOk ⟨k, a, b⟩ → getC xs = (⟨k, a, b⟩, 0) from fun h => hg.trans (if_pos ⟨rfl, h⟩))
    have HGN := hid (show ¬ CavOk ⟨k, a, b⟩ → getC xs = (zeroC, 2) from fun h => hg.trans (if_neg fun q => h q.2))
    clear hg
    subst hW2
    rw [show (w1.alloc (Obj.cells #[.int .u64 k, .int .u64 a, .int .u64 b] 107)).heap.size = w1.heap.size + 1 from by simp] at C3
    go_wp2_with fail
    refine (HCK.out _).mono ?_
    rintro e w5 ⟨rfl, hb5⟩
    have C5 := C3.call hb5
    have V5 := V3.call hb5
    have HB5 := bel_call HB3 hb5
    have r0 := C5.c0
    have r1 := C5.c1
    have r2 := C5.c2
    clear hb5 q0 q1 q2 C3 V3 HB3 HCK
    rcases HCE.out with ⟨hE, hok⟩ | ⟨hE, hok⟩
    · rw [hE]
      have HG := hid (HGY.out hok)
      clear hE hok HCE C5
      have k0 := V5.c0
      have k1 := V5.c1
      have k2 := V5.c2
      have f0 := V5.f 0
      have f1 := V5.f 1
      have f2 := V5.f 2
      have V9 := hid (V5.set (.int .i64 k) (.int .u64 a) (.int .u64 b))
      have HB9 := hid (((HB5.setCell (p := ⟨w.heap.size, 0, none⟩) (Nat.le_refl _) (.int .i64 k)).setCell (p := ⟨w.heap.size, 1, none⟩) (Nat.le_refl _) (.int .u64 a)).setCell (p := ⟨w.heap.size, 2, none⟩) (Nat.le_refl _) (.int .u64 b))
      clear V5
      go_wp2
      refine bodyPost_ret_by (results_ct rfl _ _ w.heap.size 0 rfl [.int .i64 k, .int .u64 a, .int .u64 b] _ (range3 V9.out.c0 V9.out.c1 V9.out.c2) Try.underlying30 rfl (by kernel_rfl)) rfl ?_
      exact ⟨by rw [HG.out]; rfl, HB9.out⟩
    · rw [hE]
      have HG := hid (HGN.out hok)
      clear hE hok HCE C5
      have k0 := V5.c0
      have k1 := V5.c1
      have k2 := V5.c2
      have f0 := V5.f 0
      have f1 := V5.f 1
      have f2 := V5.f 2
      have V9 := hid (V5.set (.int .i64 0) (.int .u64 0) (.int .u64 0))
      have HB9 := hid (((HB5.setCell (p := ⟨w.heap.size, 0, none⟩) (Nat.le_refl _) (.int .i64 0)).setCell (p := ⟨w.heap.size, 1, none⟩) (Nat.le_refl _) (.int .u64 0)).setCell (p := ⟨w.heap.size, 2, none⟩) (Nat.le_refl _) (.int .u64 0))
      clear V5
      go_wp2
      refine bodyPost_ret_by (results_ct rfl _ _ w.heap.size 0 rfl [.int .i64 0, .int .u64 0, .int .u64 0] _ (range3 V9.out.c0 V9.out.c1 V9.out.c2) Try.underlying30 rfl (by kernel_rfl)) rfl ?_
      exact ⟨by rw [HG.out]; rfl, HB9.out⟩
end Go.Proofs.Ytgiapfenalhleaa
