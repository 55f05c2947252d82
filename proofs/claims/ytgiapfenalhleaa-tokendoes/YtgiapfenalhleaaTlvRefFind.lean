/-
  The contract of the document's own Find of layer 2.
-/
import Derived.Test.YtgiapfenalhleaaTlvRefPut
namespace Go.Proofs.Ytgiapfenalhleaa
open Go.RowKit Go.WalkArith

set_option maxRecDepth 100000 in
set_option maxHeartbeats 1000000 in
theorem refFind_any (A : Option Addr) (n c : Nat) (l : List Rec) (t : Int) (w : World) (hr : Sl lay_Record w (· < w.heap.size) A n c l) :
    Calls Try.prog 58 #[.slice A n c, .int .u64 t] w fun e w' => ∃ v', e = .returned (.tuple #[v', .int .i64 (fE l t)]) ∧ Own w' w.heap.size 5 .u8 v' (fV l t) ∧ Below w.heap.size w w' := by
  have hcap := hr.cap
  unfold maxLen at hcap
  have HL := hid hr.len
  by_cases hm : MayBe l
  case neg =>
    have HC := hid (chk_no hm)
    rw [fE_no hm, fV_no hm]
    go_enter Try.func58, Try.ntmps58
    go_wp2_with (go_at_call 80; go_must (refine (check_any _ _ _ _ _ hr).mono ?_; rw [HC.out]; rintro e w1 ⟨rfl, hb1⟩))
    go_ret2
    exact ⟨_, rfl, Own.nil _ _ _ _, hb1⟩
  have HC := hid (chk_ok hm)
  have HM := hid hm
  rw [fE_ok hm, fV_ok hm]
  clear hm
  go_enter Try.func58, Try.ntmps58
  go_wp2_with (go_at_call 80; go_must (refine (check_any _ _ _ _ _ hr).mono ?_; rw [HC.out]; rintro e w1 ⟨rfl, hb1⟩))
  go_loopw [13] (fun i wr => ∃ j : Nat, j ≤ n ∧ i = .int .i64 j ∧ NoT l t j ∧ Below w.heap.size w wr) (fun i _ => n - (intOf i).toNat)
  case atStart => exact ⟨0, Nat.zero_le _, rfl, NoT.zero _ _, hb1⟩
  case round =>
    obtain ⟨j, hj, rfl, hno, hbel⟩ := hrel
    have HN := hid hno
    have hsz := hbel.size
    clear hno
    by_cases hlt : j < n
    · obtain ⟨b, off, A', n', c', hx, rfl, hb, h1, h2, hTb, hV⟩ := rec_at hr hlt
      have q1 := (hbel.cell (p := ⟨b, off + j * 2, none⟩) hb).trans h1
      have q2 := (hbel.cell (p := ⟨b, off + j * 2 + 1, none⟩) hb).trans h2
      have R := (hV.rd (B := w.heap.size) fun _ h => h).below hbel
      have hn' : n' ≤ 4096 := by rw [← hV.len]; exact HM.out.small _ (List.getElem_mem hx)
      clear h1 h2 hV
      by_cases he : l[j].T = t
      · have HH := hid (HN.out.hit hx he)
        have hbe : (l[j].T == t) = true := by simpa using he
        have HV := hid (show foV l t = l[j].V from by unfold foV; rw [HH.out]; rfl)
        have HE := hid (show foE l t = 0 from by unfold foE; rw [HH.out]; rfl)
        clear he
        go_wp2_with (at_builtin; go_must (refine wpList_cat rfl _ _ 46 rfl w.heap.size 5 .u8 1 Try.underlying46 Try.infoU8 (.slice none 0 0) [] _ A' n' c' l[j].V rfl rfl (Own.nil _ _ _ _) (R.alloc hsz _) ?_ ?_ ?_ ?_))
        · simp; omega
        · simp; omega
        · simp; omega
        intro v3 w3 hown3 hext3
        try simp only [List.nil_append] at hown3
        have hb3 : Below w.heap.size w w3 := (hbel.alloc hsz _).trans (hext3.of_nilB (by simp; omega))
        go_wp2
        go_ret2
        exact ⟨_, by rw [HE.out]; rfl, by rw [HV.out]; exact hown3, hb3⟩
      · have hbe : (l[j].T == t) = false := by simpa using he
        have HS := hid (HN.out.succ hx he)
        clear he
        go_wp2
        go_roundw
        case rel => exact ⟨j + 1, by omega, by go_num, HS.out, by (repeat (first | exact Below.refl _ _ | refine Below.drew ?_ | refine bel_drewN ?_ _ | refine bel_alloc ?_ _ | refine bel_call ?_ (by assumption)))⟩
        case measure => simp [intOf]; omega
    · have HF := hid (show findR l t = none from NoT.none (fun i hi _ => HN.out i hi (by rw [HL.out] at hi; omega)))
      have HV := hid (show foV l t = [] from by unfold foV; rw [HF.out]; rfl)
      have HE := hid (show foE l t = 5 from by unfold foE; rw [HF.out]; rfl)
      go_wp2
      go_ret2
      exact ⟨_, by rw [HE.out]; rfl, by rw [HV.out]; exact Own.nil _ _ _ _, hbel⟩
end Go.Proofs.Ytgiapfenalhleaa
