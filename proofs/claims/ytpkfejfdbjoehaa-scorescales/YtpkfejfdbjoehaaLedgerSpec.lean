/-
  The words of what package ledger answers; the laws' own 'live' of layer 10 over them.
-/
import Derived.Test.YtpkfejfdbjoehaaLedgerLaws
import Derived.Test.YtpkfejfdbjoehaaChannelSpec
namespace Go.Proofs.Ytpkfejfdbjoehaa
open Go.RowKit Go.WalkArith

theorem size_lay_Channel : lay_Channel.size = 7 := rfl
/-- The j-th channel's cells. -/
theorem chn_at {w : World} {S : Nat → Prop} {A : Option Addr} {n c : Nat} {l : List Chn} (h : Sl lay_Channel w S A n c l) {j : Nat} (hj : j < n) :
    ∃ b off A' n' c', ∃ hx : j < l.length, A = some ⟨b, off, none⟩ ∧ S b ∧ w.cell? ⟨b, off + j * 7, none⟩ = some (.int .u64 l[j].Id) ∧ w.cell? ⟨b, off + j * 7 + 1, none⟩ = some (.int .u64 l[j].Local) ∧ w.cell? ⟨b, off + j * 7 + 2, none⟩ = some (.int .u64 l[j].Remote) ∧ w.cell? ⟨b, off + j * 7 + 3, none⟩ = some (.int .u64 l[j].Reserve) ∧ w.cell? ⟨b, off + j * 7 + 4, none⟩ = some (.int .u64 l[j].Most) ∧ w.cell? ⟨b, off + j * 7 + 5, none⟩ = some (.slice A' n' c') ∧ w.cell? ⟨b, off + j * 7 + 6, none⟩ = some (.bool l[j].Open) ∧ ChnWf l[j] ∧ Sl lay_Hold w S A' n' c' l[j].Holds := by
  obtain ⟨b, off, cs, hx, rfl, hb, hr, hc⟩ := h.at_ hj
  obtain ⟨A', n', c', rfl, hw, hs⟩ := rep_Channel.1 hr
  exact ⟨b, off, A', n', c', hx, rfl, hb, hc 0 _ rfl, hc 1 _ rfl, hc 2 _ rfl, hc 3 _ rfl, hc 4 _ rfl, hc 5 _ rfl, hc 6 _ rfl, hw, hs⟩
theorem sl_chns {w : World} {S : Nat → Prop} {A : Option Addr} {n c : Nat} {l : List Chn} (h : Sl lay_Channel w S A n c l) : ChnsWf l := fun x hx => by
  obtain ⟨j, hj, rfl⟩ := List.getElem_of_mem hx
  have hl := h.len
  obtain ⟨b, off, A', n', c', hx1, -, -, -, -, -, -, -, -, -, hw, hs⟩ := chn_at h (j := j) (by omega)
  exact ⟨hw, sl_hlds hs⟩

/-! ### The chapter's example -/
def egL (i : Int) : Chn := ⟨i, 10, 0, 0, 10, [], true⟩
theorem egL_ok (i : Int) : ChOk (egL i) := ⟨by show (0 : Int) ≤ mMax; decide, by show (10 : Int) ≤ mMax; decide, by simp [egL], by simp [egL], by simp [egL], List.Pairwise.nil, by simp [egL, numsH, allLe], by simp [egL, heldN, numsH, sumM], by show (10 : Int) ≤ mMax; decide, by show (0 : Int) ≤ mMax; decide, by simp [egL, heldN, numsH, sumM, mMax]⟩
theorem egL_all (i : Int) : aaV (egL i) = 10 := by
  unfold aaV
  rw [if_pos (egL_ok i)]
  simp [egL, heldN, numsH, sumM]
theorem eg_none : LgOk [] := ⟨by simp, by simp, List.Pairwise.nil, List.Pairwise.nil, by simp [sumC, sumM, mMax]⟩
theorem eg_one : opE [] (egL 1) = 0 ∧ opL [] (egL 1) = [egL 1] := by
  have hw : withC [] (egL 1) = [egL 1] := rfl
  have e : opE [] (egL 1) = 0 := by
    unfold opE
    rw [if_pos ⟨eg_none, egL_ok 1, rfl, rfl⟩, if_neg (by decide), if_neg (by simp), if_neg (by rw [hw]; simp [sumC, sumM, egL_all, mMax])]
  exact ⟨e, by unfold opL; rw [if_pos e, hw]⟩
theorem eg_two : opE [egL 1] (egL 2) = 0 ∧ opL [egL 1] (egL 2) = [egL 1, egL 2] := by
  have hw : withC [egL 1] (egL 2) = [egL 1, egL 2] := by decide
  have g : LgOk [egL 1] := by
    have := (op_is eg_one.1).2.2.2.2.2.2.2.2
    rwa [show withC [] (egL 1) = [egL 1] from rfl] at this
  have e : opE [egL 1] (egL 2) = 0 := by
    unfold opE
    rw [if_pos ⟨g, egL_ok 2, rfl, rfl⟩, if_neg (by decide), if_neg (by simp), if_neg (by rw [hw]; simp [sumC, sumM, egL_all, mMax])]
  exact ⟨e, by unfold opL; rw [if_pos e, hw]⟩
theorem eg_wf : ChnsWf [egL 1, egL 2] := fun c hc => by
  have h1 : ChnWf (egL 1) := ⟨by decide, by decide, by decide, by decide, by decide⟩
  have h2 : ChnWf (egL 2) := ⟨by decide, by decide, by decide, by decide, by decide⟩
  simp only [List.mem_cons, List.not_mem_nil, or_false] at hc
  rcases hc with rfl | rfl
  · exact ⟨h1, fun x hx => by simp [egL] at hx⟩
  · exact ⟨h2, fun x hx => by simp [egL] at hx⟩
theorem eg_hold : lhoE [egL 1, egL 2] 1 7 3 = 0 ∧ lhoE (lhoL [egL 1, egL 2] 1 7 3) 2 7 3 = 6 := by
  have g : LgOk [egL 1, egL 2] := by
    have := (op_is eg_two.1).2.2.2.2.2.2.2.2
    rwa [show withC [egL 1] (egL 2) = [egL 1, egL 2] from by decide] at this
  have g1 := gt_of g (c := egL 1) (by simp)
  have g2 := gt_of g (c := egL 2) (by simp)
  have i1 : (egL 1).Id = 1 := rfl
  have i2 : (egL 2).Id = 2 := rfl
  rw [i1] at g1
  rw [i2] at g2
  have hh : hoE (egL 1) 7 3 = 0 := by
    unfold hoE
    rw [if_pos ⟨egL_ok 1, by decide, by decide⟩, if_neg (by decide), if_neg (by decide), if_neg (by decide), if_neg (by decide), if_neg (by decide)]
  have e : lhoE [egL 1, egL 2] 1 7 3 = 0 := by
    unfold lhoE oneE
    rw [if_neg (fun k => k g1.1), g1.2]
    unfold lhE
    rw [if_neg (by decide)]
    exact hh
  refine ⟨e, ?_⟩
  obtain ⟨-, -, -, -, -, -, q⟩ := one_law eg_wf (by decide) (by decide) e
  rcases q 2 with q | ⟨q, -⟩
  · exact q
  · rw [g2.1] at q; cases q

end Go.Proofs.Ytpkfejfdbjoehaa
