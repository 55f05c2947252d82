/-
  The contract of the laws' own 'all' of layer 10, and the walk of LedgerKeeps.
-/
import Derived.Test.YtpkfejfdbjoehaaLedgerOursWalk
import Derived.Deep.RegionHeld3
import Derived.Deep.CutBlock
namespace Go.Proofs.Ytpkfejfdbjoehaa
open Go.RowKit Go.WalkArith

theorem aa_nonneg {c : Chn} (hw : ChnWf c) (hh : HldsWf c.Holds) : 0 ≤ aaV c := by
  unfold aaV
  have h1 := (bounds_u64 hw.loc).1
  have h2 := (bounds_u64 hw.rem).1
  have h3 := held_nonneg hh
  split <;> omega
theorem sum_takeC {l : List Chn} {j : Nat} (hj : j < l.length) : sumM ((l.take (j + 1)).map aaV) = sumM ((l.take j).map aaV) + aaV l[j] := by
  rw [List.take_succ_eq_append_getElem hj, List.map_append, sumM_append]
  simp [sumM]
theorem sum_take_bd {l : List Chn} (hw : ChnsWf l) (j : Nat) : 0 ≤ sumM ((l.take j).map aaV) ∧ sumM ((l.take j).map aaV) ≤ sumC l := by
  have hp : ∀ o : List Chn, (∀ c ∈ o, c ∈ l) → 0 ≤ sumM (o.map aaV) := fun o ho => sumM_nonneg fun x hx => by
    obtain ⟨c, hc, rfl⟩ := List.mem_map.1 hx
    exact aa_nonneg (hw c (ho c hc)).1 (hw c (ho c hc)).2
  have h1 := hp (l.take j) fun c hc => List.mem_of_mem_take hc
  have h2 := hp (l.drop j) fun c hc => List.mem_of_mem_drop hc
  refine ⟨h1, ?_⟩
  have : sumC l = sumM ((l.take j).map aaV) + sumM ((l.drop j).map aaV) := by
    unfold sumC
    rw [← sumM_append, ← List.map_append, List.take_append_drop]
  omega

/-- What became of channels: they may be, and all of all is as much as it was; or it was refused. -/
def KeepL (x m : List Chn) (fe : Int) : Prop := (fe = 0 ∧ LgOk m ∧ sumC m = sumC x ∧ m.length = x.length) ∨ (fe ≠ 0 ∧ m = [])

end Go.Proofs.Ytpkfejfdbjoehaa
