/-
  Tokens, plain: the errors of reading one, way by way.
-/
import Derived.Test.YtgiapfenalhleaaTokenMath2
namespace Go.Proofs.Ytgiapfenalhleaa
open Go.RowKit Go.WalkArith

theorem tgt_err {xs : List Int} (h : tgtE xs ≠ 0) : tgtT xs = zeroT := by
  unfold tgtE at h
  unfold tgtT
  split at h
  · rename_i h1; rw [if_pos h1]
  · rename_i h1; rw [if_neg h1]; unfold rtT; exact if_neg h
section
variable {l : List Rec}
theorem rt0 (h : fE l 1 ≠ 0 ∨ fE l 2 ≠ 0) : rtE l = 5 := if_pos h
theorem rt1 (h1 : fE l 1 = 0) (h2 : fE l 2 = 0) (h : nE l 1 ≠ 0) : rtE l = nE l 1 := by
  unfold rtE; rw [if_neg (by simp [h1, h2]), if_pos h]
theorem rt2 (h1 : fE l 1 = 0) (h2 : fE l 2 = 0) (h3 : nE l 1 = 0) (h : nE l 2 ≠ 0) : rtE l = nE l 2 := by
  unfold rtE; rw [if_neg (by simp [h1, h2]), if_neg (by simp [h3]), if_pos h]
theorem rt3 (h1 : fE l 1 = 0) (h2 : fE l 2 = 0) (h3 : nE l 1 = 0) (h4 : nE l 2 = 0) (h : 1048576 < nV l 2 ∨ 18 < l.length) : rtE l = 2 := by
  unfold rtE; rw [if_neg (by simp [h1, h2]), if_neg (by simp [h3]), if_neg (by simp [h4]), if_pos h]
theorem rt4 (h1 : fE l 1 = 0) (h2 : fE l 2 = 0) (h3 : nE l 1 = 0) (h4 : nE l 2 = 0) (h5 : ¬ (1048576 < nV l 2 ∨ 18 < l.length)) (h : ¬ NumOk (l.drop 2)) : rtE l = 2 := by
  unfold rtE; rw [if_neg (by simp [h1, h2]), if_neg (by simp [h3]), if_neg (by simp [h4]), if_neg h5, if_pos h]
theorem rt5 (h1 : fE l 1 = 0) (h2 : fE l 2 = 0) (h3 : nE l 1 = 0) (h4 : nE l 2 = 0) (h5 : ¬ (1048576 < nV l 2 ∨ 18 < l.length)) (h6 : NumOk (l.drop 2)) (h : (l[0]?.map (·.T)) ≠ some 1) : rtE l = 2 := by
  unfold rtE; rw [if_neg (by simp [h1, h2]), if_neg (by simp [h3]), if_neg (by simp [h4]), if_neg h5, if_neg (by simpa using h6), if_pos h]
theorem rt6 (h1 : fE l 1 = 0) (h2 : fE l 2 = 0) (h3 : nE l 1 = 0) (h4 : nE l 2 = 0) (h5 : ¬ (1048576 < nV l 2 ∨ 18 < l.length)) (h6 : NumOk (l.drop 2)) (h : (l[0]?.map (·.T)) = some 1) : rtE l = csE (l.drop 2) := by
  unfold rtE; rw [if_neg (by simp [h1, h2]), if_neg (by simp [h3]), if_neg (by simp [h4]), if_neg h5, if_neg (by simpa using h6), if_neg (by simpa using h)]
theorem rt_two (hm : MayBe l) (h1 : fE l 1 = 0) (h2 : fE l 2 = 0) : 2 ≤ l.length := by
  rw [fE_ok hm] at h1 h2
  match l, h1, h2 with
  | [], h1, _ => simp [foE, findR] at h1
  | [a], h1, h2 =>
    unfold foE findR at h1 h2
    by_cases k : a.T = 1
    · simp [k] at h2
    · simp [k] at h1
  | _ :: _ :: _, _, _ => simp
theorem rt_ok (h : rtE l = 0) : rtT l = ⟨nV l 1, csL (l.drop 2), nV l 2⟩ := if_pos h
end
theorem csE_step {l : List Rec} {j : Nat} (hj : j < l.length) : csE (l.drop j) = if (getC l[j].V).2 ≠ 0 then (getC l[j].V).2 else csE (l.drop (j + 1)) := by
  rw [List.drop_eq_getElem_cons hj]; rfl
theorem csL_take {l : List Rec} {j : Nat} (hj : j < l.length) : csL (l.take (j + 1)) = csL (l.take j) ++ [(getC l[j].V).1] := by
  unfold csL
  rw [List.take_succ_eq_append_getElem hj, List.map_append]; rfl
end Go.Proofs.Ytgiapfenalhleaa
