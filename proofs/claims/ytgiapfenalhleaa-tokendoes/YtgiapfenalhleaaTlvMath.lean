/-
  Records as octets: the plain functions.
-/
import Derived.Test.YtgiapfenalhleaaTypes
import Derived.Test.YtgiapfenalhleaaBigsizeLaws
namespace Go.Proofs.Ytgiapfenalhleaa
open Go.RowKit Go.WalkArith

/-- The first k records may be. -/
def ChkTo (l : List Rec) (k : Nat) : Prop := ∀ (j : Nat) (h : j < l.length), j < k → l[j].V.length ≤ 4096 ∧ ∀ _ : 0 < j, l[j - 1].T < l[j].T
def MayBe (l : List Rec) : Prop := l.length ≤ 64 ∧ ChkTo l l.length
open Classical in
noncomputable def chk (l : List Rec) : Int := if MayBe l then 0 else 1
theorem chk_ok {l : List Rec} (h : MayBe l) : chk l = 0 := if_pos h
theorem chk_no {l : List Rec} (h : ¬ MayBe l) : chk l = 1 := if_neg h

/-- A record's octets. -/
def octR (r : Rec) : List Int := oct r.T ++ oct r.V.length ++ r.V
def octsR (l : List Rec) : List Int := l.flatMap octR
theorem octsR_append (a b : List Rec) : octsR (a ++ b) = octsR a ++ octsR b := by simp [octsR]
theorem octsR_take {l : List Rec} {j : Nat} (h : j < l.length) : octsR (l.take (j + 1)) = octsR (l.take j) ++ octR l[j] := by
  rw [List.take_succ_eq_append_getElem h, octsR_append]
  congr 1
  simp [octsR]
theorem octsR_cons (r : Rec) (l : List Rec) : octsR (r :: l) = octR r ++ octsR l := by simp [octsR]
theorem octR_len (r : Rec) : (octR r).length ≤ 18 + r.V.length := by
  have h1 := oct_len r.T
  have h2 := oct_len r.V.length
  have h3 := bhd_le (fst r.T)
  have h4 := bhd_le (fst r.V.length)
  simp only [octR, List.length_append]
  omega
theorem octsR_len {l : List Rec} (h : ∀ r ∈ l, r.V.length ≤ 4096) : (octsR l).length ≤ l.length * 4114 := by
  induction l with
  | nil => simp [octsR]
  | cons r l ih =>
    have h1 := ih fun x hx => h x (by simp [hx])
    have h2 := octR_len r
    have h3 := h r (by simp)
    rw [octsR_cons, List.length_append, List.length_cons, Nat.add_mul]
    omega
theorem MayBe.small {l : List Rec} (h : MayBe l) : ∀ r ∈ l, r.V.length ≤ 4096 := fun r hr => by
  obtain ⟨j, hj, rfl⟩ := List.getElem_of_mem hr
  exact (h.2 j hj hj).1

/-- What Put tells. -/
def putO (l : List Rec) : List Int := if (octsR l).length ≤ 65535 then octsR l else []
def putE (l : List Rec) : Int := if (octsR l).length ≤ 65535 then 0 else 4

/-- What is left behind a record's type, and behind how many octets it has. -/
def rest1 (xs : List Int) : List Int := xs.drop (oct (rdN xs)).length
def rest2 (xs : List Int) : List Int := (rest1 xs).drop (oct (rdN (rest1 xs))).length
def recN (xs : List Int) : Nat := (rdN (rest1 xs)).toNat
def lastT (acc : List Rec) : Int := (acc.getLast?.map (·.T)).getD (-1)
/-- The error of reading one record behind acc. -/
def stepE (xs : List Int) (acc : List Rec) : Int :=
  if acc.length = 64 then 4 else if getE xs ≠ 0 then getE xs else if rdN xs ≤ lastT acc then 2 else if getE (rest1 xs) ≠ 0 then getE (rest1 xs)
  else if 4096 < rdN (rest1 xs) then 4 else if (rest2 xs).length < recN xs then 3 else 0
def stepRec (xs : List Int) : Rec := ⟨rdN xs, (rest2 xs).take (recN xs)⟩
def stepRest (xs : List Int) : List Int := (rest2 xs).drop (recN xs)
def getRA : Nat → List Int → List Rec → List Rec × Int
  | 0, _, acc => (acc, 0)
  | f + 1, xs, acc => if xs = [] then (acc, 0) else if stepE xs acc = 0 then getRA f (stepRest xs) (acc ++ [stepRec xs]) else ([], stepE xs acc)
def getR (xs : List Int) : List Rec × Int := if xs.length ≤ 65535 then getRA xs.length xs [] else ([], 4)
theorem rest1_len (xs : List Int) : (rest1 xs).length = xs.length - (oct (rdN xs)).length := by simp [rest1]
theorem rest2_len (xs : List Int) : (rest2 xs).length = (rest1 xs).length - (oct (rdN (rest1 xs))).length := by simp [rest2]
theorem getRA_nil (f : Nat) (acc : List Rec) : getRA f [] acc = (acc, 0) := by cases f <;> simp [getRA]
theorem getRA_bad (f : Nat) (xs : List Int) (acc : List Rec) (hf : xs.length ≤ f) (hx : xs ≠ []) (he : stepE xs acc ≠ 0) : getRA f xs acc = ([], stepE xs acc) := by
  cases f with
  | zero => exact absurd (List.eq_nil_of_length_eq_zero (by omega)) hx
  | succ f => simp [getRA, hx, he]
theorem getRA_step (f : Nat) (xs : List Int) (acc : List Rec) (hf : xs.length ≤ f) (hx : xs ≠ []) (he : stepE xs acc = 0) : ∃ f', getRA f xs acc = getRA f' (stepRest xs) (acc ++ [stepRec xs]) ∧ (stepRest xs).length ≤ f' := by
  cases f with
  | zero => exact absurd (List.eq_nil_of_length_eq_zero (by omega)) hx
  | succ f =>
    refine ⟨f, by simp [getRA, hx, he], ?_⟩
    have h1 := oct_len (rdN xs)
    have h0 : 0 < xs.length := by rcases Nat.eq_zero_or_pos xs.length with h | h; exact absurd (List.eq_nil_of_length_eq_zero h) hx; exact h
    simp only [stepRest, List.length_drop, rest2_len, rest1_len]
    omega
theorem stepE_ok {xs : List Int} {acc : List Rec} (h : stepE xs acc = 0) : acc.length ≠ 64 ∧ getE xs = 0 ∧ lastT acc < rdN xs ∧ getE (rest1 xs) = 0 ∧ rdN (rest1 xs) ≤ 4096 ∧ recN xs ≤ (rest2 xs).length := by
  unfold stepE at h
  repeat' split at h
  all_goals first | omega | (refine ⟨by assumption, ?_, by omega, ?_, by omega, by omega⟩ <;> (rename_i h1 h2 h3 h4 h5 h6; simp_all))
theorem mem_drop_bd {xs : List Int} {n : Nat} (h : ∀ x ∈ xs, 0 ≤ x ∧ x ≤ 255) : ∀ x ∈ xs.drop n, 0 ≤ x ∧ x ≤ 255 := fun x hx => h x (List.mem_of_mem_drop hx)

open Classical in
/-- What Put tells of whatever records. -/
noncomputable def pO (l : List Rec) : List Int := if MayBe l then putO l else []
open Classical in
noncomputable def pE (l : List Rec) : Int := if MayBe l then putE l else 1
theorem pO_ok {l : List Rec} (h : MayBe l) : pO l = putO l := if_pos h
theorem pE_ok {l : List Rec} (h : MayBe l) : pE l = putE l := if_pos h
theorem pO_no {l : List Rec} (h : ¬ MayBe l) : pO l = [] := if_neg h
theorem pE_no {l : List Rec} (h : ¬ MayBe l) : pE l = 1 := if_neg h
theorem pE_zero {l : List Rec} (h : pE l = 0) : MayBe l ∧ (octsR l).length ≤ 65535 ∧ pO l = octsR l := by
  by_cases hm : MayBe l
  · rw [pE_ok hm] at h
    unfold putE at h
    split at h
    · rename_i hl
      exact ⟨hm, hl, by rw [pO_ok hm]; exact if_pos hl⟩
    · omega
  · rw [pE_no hm] at h; omega
theorem pO_err {l : List Rec} (h : pE l ≠ 0) : pO l = [] := by
  by_cases hm : MayBe l
  · rw [pE_ok hm] at h
    rw [pO_ok hm]
    unfold putE at h
    split at h
    · exact absurd rfl h
    · rename_i hl; exact if_neg hl
  · exact pO_no hm
theorem getR_err {xs : List Int} (h : (getR xs).2 ≠ 0) : (getR xs).1 = [] := by
  unfold getR at h ⊢
  split
  · rename_i hl
    rw [if_pos hl] at h
    have key : ∀ (f : Nat) (ys : List Int) (acc : List Rec), (getRA f ys acc).2 ≠ 0 → (getRA f ys acc).1 = [] := by
      intro f
      induction f with
      | zero => intro ys acc h; simp [getRA] at h
      | succ f ih =>
        intro ys acc h
        simp only [getRA] at h ⊢
        split
        · rename_i he; simp [he] at h
        · rename_i he
          rw [if_neg he] at h
          split
          · rename_i hs; rw [if_pos hs] at h; exact ih _ _ h
          · rfl
    exact key _ _ _ h
  · rfl

/-- The record of a type. -/
def findR (l : List Rec) (t : Int) : Option Rec := l.find? fun r => decide (r.T = t)
def NoT (l : List Rec) (t : Int) (j : Nat) : Prop := ∀ (i : Nat) (h : i < l.length), i < j → l[i].T ≠ t
theorem NoT.zero (l : List Rec) (t : Int) : NoT l t 0 := fun _ _ h => absurd h (by omega)
theorem NoT.succ {l : List Rec} {t : Int} {j : Nat} (h : NoT l t j) (hj : j < l.length) (hne : l[j].T ≠ t) : NoT l t (j + 1) := fun i hi hij => by
  rcases Nat.lt_or_ge i j with h1 | h1
  · exact h i hi h1
  · obtain rfl : i = j := by omega
    exact hne
theorem NoT.none {l : List Rec} {t : Int} (h : NoT l t l.length) : findR l t = Option.none := by
  unfold findR
  rw [List.find?_eq_none]
  intro r hr
  obtain ⟨j, hj, rfl⟩ := List.getElem_of_mem hr
  simpa using h j hj hj
theorem NoT.hit {l : List Rec} {t : Int} {j : Nat} (h : NoT l t j) (hj : j < l.length) (he : l[j].T = t) : findR l t = some l[j] := by
  unfold findR
  rw [List.find?_eq_some_iff_append]
  refine ⟨by simpa using he, l.take j, l.drop (j + 1), ?_, ?_⟩
  · rw [← List.drop_eq_getElem_cons hj, List.take_append_drop]
  · intro r hr
    obtain ⟨i, hi, rfl⟩ := List.getElem_of_mem hr
    rw [List.length_take] at hi
    rw [List.getElem_take]
    simpa using h i (by omega) (by omega)
def foV (l : List Rec) (t : Int) : List Int := ((findR l t).map (·.V)).getD []
def foE (l : List Rec) (t : Int) : Int := if (findR l t).isSome then 0 else 5
open Classical in
/-- What Find tells. -/
noncomputable def fV (l : List Rec) (t : Int) : List Int := if MayBe l then foV l t else []
open Classical in
noncomputable def fE (l : List Rec) (t : Int) : Int := if MayBe l then foE l t else 1
theorem fV_ok {l : List Rec} {t : Int} (h : MayBe l) : fV l t = foV l t := if_pos h
theorem fE_ok {l : List Rec} {t : Int} (h : MayBe l) : fE l t = foE l t := if_pos h
theorem fV_no {l : List Rec} {t : Int} (h : ¬ MayBe l) : fV l t = [] := if_neg h
theorem fE_no {l : List Rec} {t : Int} (h : ¬ MayBe l) : fE l t = 1 := if_neg h

/-- What a number that octets are is. -/
def numE (xs : List Int) : Int := if getE xs ≠ 0 then getE xs else if (oct (rdN xs)).length = xs.length then 0 else 2
def numV (xs : List Int) : Int := if getE xs ≠ 0 then 0 else if (oct (rdN xs)).length = xs.length then rdN xs else 0
/-- What Number tells. -/
noncomputable def nE (l : List Rec) (t : Int) : Int := if fE l t ≠ 0 then fE l t else numE (fV l t)
noncomputable def nV (l : List Rec) (t : Int) : Int := if fE l t ≠ 0 then 0 else numV (fV l t)

/-- The records of lesser, and of greater types. -/
def ltT (l : List Rec) (t : Int) : List Rec := l.filter fun x => decide (x.T < t)
def gtT (l : List Rec) (t : Int) : List Rec := l.filter fun x => decide (t < x.T)
theorem ltT_len (l : List Rec) (t : Int) : (ltT l t).length ≤ l.length := List.length_filter_le _ _
theorem gtT_len (l : List Rec) (t : Int) : (gtT l t).length ≤ l.length := List.length_filter_le _ _
theorem ltT_yes {l : List Rec} {t : Int} {j : Nat} (hj : j < l.length) (h : l[j].T < t) : ltT (l.take (j + 1)) t = ltT (l.take j) t ++ [l[j]] := by
  unfold ltT
  rw [List.take_succ_eq_append_getElem hj, List.filter_append]
  simp [h]
theorem ltT_no {l : List Rec} {t : Int} {j : Nat} (hj : j < l.length) (h : ¬ l[j].T < t) : ltT (l.take (j + 1)) t = ltT (l.take j) t := by
  unfold ltT
  rw [List.take_succ_eq_append_getElem hj, List.filter_append]
  simp [h]
theorem gtT_yes {l : List Rec} {t : Int} {j : Nat} (hj : j < l.length) (h : t < l[j].T) : gtT (l.take (j + 1)) t = gtT (l.take j) t ++ [l[j]] := by
  unfold gtT
  rw [List.take_succ_eq_append_getElem hj, List.filter_append]
  simp [h]
theorem gtT_no {l : List Rec} {t : Int} {j : Nat} (hj : j < l.length) (h : ¬ t < l[j].T) : gtT (l.take (j + 1)) t = gtT (l.take j) t := by
  unfold gtT
  rw [List.take_succ_eq_append_getElem hj, List.filter_append]
  simp [h]
/-- r put among l. -/
def putIn (l : List Rec) (r : Rec) : List Rec := ltT l r.T ++ [r] ++ gtT l r.T
def woL (l : List Rec) (r : Rec) : List Rec := if (putIn l r).length ≤ 64 then putIn l r else []
def woE (l : List Rec) (r : Rec) : Int := if (putIn l r).length ≤ 64 then 0 else 7
open Classical in
/-- What With tells. -/
noncomputable def wL (l : List Rec) (r : Rec) : List Rec := if MayBe l ∧ r.V.length ≤ 4096 then woL l r else []
open Classical in
noncomputable def wE (l : List Rec) (r : Rec) : Int := if MayBe l ∧ r.V.length ≤ 4096 then woE l r else 1

end Go.Proofs.Ytgiapfenalhleaa
