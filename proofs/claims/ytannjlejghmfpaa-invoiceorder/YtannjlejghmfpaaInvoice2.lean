/-
  Package invoice: which amounts and states may be; Check; what an invoice is at a tick.
-/
import Derived.Test.YtannjlejghmfpaaInvoice1
import Derived.Test.YtannjlejghmfpaaMoneyOne
import Derived.Test.YtannjlejghmfpaaAnyH
import Derived.Deep.QuietTactic
import Derived.Deep.CutRange
namespace Go.Proofs.Ytannjlejghmfpaa
open Go.RowKit Go.WalkArith

set_option maxHeartbeats 1000000 in
theorem kept_any (s : Int) (w : World) :
    Calls Try.prog 40 #[.int .i64 s] w fun e w' => e = .returned (.bool (decide (1 ≤ s ∧ s ≤ 3))) ∧ w' = w := by
  by_cases h1 : s = 1
  · have e1 : (s == 1) = true := by simpa using h1
    have HE := hid (show decide (1 ≤ s ∧ s ≤ 3) = true from decide_eq_true (by omega))
    go_enter Try.func40, Try.ntmps40
    go_wp2
    go_ret
    exact ⟨ret_bool HE.out.symm, rfl⟩
  have e1 : (s == 1) = false := by simpa using h1
  by_cases h2 : s = 2
  · have e2 : (s == 2) = true := by simpa using h2
    have HE := hid (show decide (1 ≤ s ∧ s ≤ 3) = true from decide_eq_true (by omega))
    clear h1
    go_enter Try.func40, Try.ntmps40
    go_wp2
    go_ret
    exact ⟨ret_bool HE.out.symm, rfl⟩
  have e2 : (s == 2) = false := by simpa using h2
  by_cases h3 : s = 3
  · have e3 : (s == 3) = true := by simpa using h3
    have HE := hid (show decide (1 ≤ s ∧ s ≤ 3) = true from decide_eq_true (by omega))
    clear h1 h2
    go_enter Try.func40, Try.ntmps40
    go_wp2
    go_ret
    exact ⟨ret_bool HE.out.symm, rfl⟩
  · have e3 : (s == 3) = false := by simpa using h3
    have HE := hid (show decide (1 ≤ s ∧ s ≤ 3) = false from decide_eq_false (by omega))
    clear h1 h2
    go_enter Try.func40, Try.ntmps40
    go_wp2
    go_ret
    exact ⟨ret_bool HE.out.symm, rfl⟩

set_option maxHeartbeats 1000000 in
theorem payable_any (n : Int) (w : World) (hn : (Lit.int .u64 n).wf = true) :
    Calls Try.prog 25 #[.int .u64 n] w fun e w' => e = .returned (.bool (decide (n ≠ 0 ∧ n ≤ mMax))) ∧ Below w.heap.size w w' := by
  have bn := bounds_u64 hn
  by_cases h1 : n = 0
  · have e1 : decide ((0 : Int) < n) = false := by simp; omega
    have HE := hid (show decide (n ≠ 0 ∧ n ≤ mMax) = false from decide_eq_false (by omega))
    clear h1
    go_enter Try.func25, Try.ntmps25
    go_wp2
    go_ret
    exact ⟨ret_bool HE.out.symm, Below.refl _ _⟩
  have e1 : decide ((0 : Int) < n) = true := by simp; omega
  have HC := hid (mOne_any n _ w rfl hn)
  by_cases h2 : n ≤ 4611686018427387904
  · have HE := hid (show decide (n ≠ 0 ∧ n ≤ mMax) = true from decide_eq_true ⟨h1, h2⟩)
    rw [if_pos h2] at HC
    clear h1 h2
    go_enter Try.func25, Try.ntmps25
    go_wp2_with (go_at_call 43; go_must (refine HC.out.mono ?_; rintro e w1 ⟨rfl, hb1⟩))
    go_ret
    exact ⟨ret_bool HE.out.symm, hb1⟩
  · have HE := hid (show decide (n ≠ 0 ∧ n ≤ mMax) = false from decide_eq_false fun q => h2 q.2)
    rw [if_neg h2] at HC
    clear h1 h2
    go_enter Try.func25, Try.ntmps25
    go_wp2_with (go_at_call 43; go_must (refine HC.out.mono ?_; rintro e w1 ⟨rfl, hb1⟩))
    go_ret
    exact ⟨ret_bool HE.out.symm, hb1⟩

set_option maxHeartbeats 1000000 in
theorem stateOf_any (x : Inv) (t : Int) (w : World) :
    Calls Try.prog 36 #[.agg #[.int .u64 x.Hash, .int .u64 x.N, .int .u64 x.Till, .int .i64 x.State], .int .u64 t] w fun e w' => e = .returned (.int .i64 (stateI x t)) ∧ Below w.heap.size w w' := by
  have hb0 : Below w.heap.size w (w.alloc (Obj.cells #[.int .u64 x.Hash, .int .u64 x.N, .int .u64 x.Till, .int .i64 x.State] 37)) := bel_alloc (Below.refl _ _) _
  have V : Box (w.alloc (Obj.cells #[.int .u64 x.Hash, .int .u64 x.N, .int .u64 x.Till, .int .i64 x.State] 37)) w.heap.size 37 [.int .u64 x.Hash, .int .u64 x.N, .int .u64 x.Till, .int .i64 x.State] := Box.new w _ _
  by_cases h1 : x.State = 1
  · have e1 : (x.State == 1) = true := by simpa using h1
    by_cases h2 : x.Till < t
    · have e2 : decide (x.Till < t) = true := decide_eq_true h2
      have HE := hid (show stateI x t = 4 from by unfold stateI; rw [if_pos (late_iff.2 ⟨h1, h2⟩)])
      clear h1 h2
      go_enter Try.func36, Try.ntmps36
      go_upto_region 1 with (fail)
      generalize w.alloc (Obj.cells #[.int .u64 x.Hash, .int .u64 x.N, .int .u64 x.Till, .int .i64 x.State] 37) = W0 at *
      have q2 := V.at_ 2 rfl
      have q3 := V.at_ 3 rfl
      clear V
      go_wp2
      go_ret
      exact ⟨ret_num HE.out.symm, hb0⟩
    · have e2 : decide (x.Till < t) = false := decide_eq_false h2
      have HE := hid (show stateI x t = x.State from by unfold stateI; rw [if_neg (fun q => h2 (late_iff.1 q).2)])
      clear h1 h2
      go_enter Try.func36, Try.ntmps36
      go_upto_region 1 with (fail)
      generalize w.alloc (Obj.cells #[.int .u64 x.Hash, .int .u64 x.N, .int .u64 x.Till, .int .i64 x.State] 37) = W0 at *
      have q2 := V.at_ 2 rfl
      have q3 := V.at_ 3 rfl
      clear V
      go_wp2
      go_ret
      exact ⟨ret_num HE.out.symm, hb0⟩
  · have e1 : (x.State == 1) = false := by simpa using h1
    have HE := hid (show stateI x t = x.State from by unfold stateI; rw [if_neg (fun q => h1 (late_iff.1 q).1)])
    clear h1
    go_enter Try.func36, Try.ntmps36
    go_upto_region 1 with (fail)
    generalize w.alloc (Obj.cells #[.int .u64 x.Hash, .int .u64 x.N, .int .u64 x.Till, .int .i64 x.State] 37) = W0 at *
    have q2 := V.at_ 2 rfl
    have q3 := V.at_ 3 rfl
    clear V
    go_wp2
    go_ret
    exact ⟨ret_num HE.out.symm, hb0⟩

set_option maxRecDepth 100000 in
set_option maxHeartbeats 8000000 in
theorem iCheck_any (A : Option Addr) (n c : Nat) (l : List Inv) (w : World) (h : Sl lay_Invoice w (· < w.heap.size) A n c l) :
    Calls Try.prog 22 #[.slice A n c] w fun e w' => e = .returned (.int .i64 (inE l)) ∧ Below w.heap.size w w' := by
  have HL := hid h.len
  have hcap := h.cap
  unfold maxLen at hcap
  by_cases hbig : 256 < n
  · have HN := hid (show inE l = 1 from if_neg fun k => by have := k.1; rw [HL.out] at this; omega)
    have d1 : decide ((256 : Int) < (n : Int)) = true := by simp; omega
    go_enter Try.func22, Try.ntmps22
    go_wp2
    go_ret
    exact ⟨ret_num HN.out.symm, Below.refl _ _⟩
  have d1 : decide ((256 : Int) < (n : Int)) = false := by simp; omega
  go_enter Try.func22, Try.ntmps22
  go_wp2
  go_loopw [10] (fun i wr => ∃ j : Nat, j ≤ n ∧ i = .int .i64 j ∧ PreI l j ∧ Below w.heap.size w wr) (fun i _ => n - (intOf i).toNat)
  case atStart => exact ⟨0, Nat.zero_le _, rfl, ⟨by simp [UpF], by simp⟩, Below.refl _ _⟩
  case round =>
    obtain ⟨j, hj, rfl, hpre, hbel⟩ := hrel
    have HP := hid hpre
    clear hpre
    by_cases hlt : j < n
    rotate_left
    · have HN := hid (show inE l = 0 from if_pos (by have h1 := HP.out.1; have h2 := HP.out.2; rw [List.take_of_length_le (by rw [HL.out]; omega)] at h1 h2; exact ⟨by rw [HL.out]; omega, h1, h2⟩))
      go_wp2
      go_ret
      exact ⟨ret_num HN.out.symm, hbel⟩
    obtain ⟨b1, o1, hx1, hA, hb1, t1, t2, t3, t4, hw⟩ := at_Invoice h hlt
    have q1 := (hbel.cell (p := ⟨b1, o1 + j * 4, none⟩) hb1).trans t1
    have q2 := (hbel.cell (p := ⟨b1, o1 + j * 4 + 1, none⟩) hb1).trans t2
    have q3 := (hbel.cell (p := ⟨b1, o1 + j * 4 + 2, none⟩) hb1).trans t3
    have q4 := (hbel.cell (p := ⟨b1, o1 + j * 4 + 3, none⟩) hb1).trans t4
    have HWN := hid hw.w1
    have HNEXT := hid (fun hu hm => preI_next hx1 HP.out hu hm)
    have hbw := bel_alloc (Below.refl wr.heap.size wr) (Obj.cells #[.int .u64 l[j].Hash, .int .u64 l[j].N, .int .u64 l[j].Till, .int .i64 l[j].State] 37)
    have hba := bel_call hbel hbw
    have V : Box (wr.alloc (Obj.cells #[.int .u64 l[j].Hash, .int .u64 l[j].N, .int .u64 l[j].Till, .int .i64 l[j].State] 37)) wr.heap.size 37 [.int .u64 l[j].Hash, .int .u64 l[j].N, .int .u64 l[j].Till, .int .i64 l[j].State] := Box.new wr _ _
    by_cases hz : j = 0
    · have HUP : ∀ k (hk : k < l.length), k + 1 = j → l[k].Hash < l[j].Hash := fun k hk e => by omega
      have d2 : decide ((0 : Int) < (j : Int)) = false := by simp; omega
      have d2' : decide (0 < j) = false := by simp; omega
      subst hA
      clear t1 t2 t3 t4 hw hz
      go_upto_region 6 with (fail)
      generalize wr.alloc (Obj.cells #[.int .u64 l[j].Hash, .int .u64 l[j].N, .int .u64 l[j].Till, .int .i64 l[j].State] 37) = W1 at *
      generalize wr.heap.size = gr at *
      have KS := hid (fun (w' : World) (h : Below W1.heap.size W1 w') => (show w'.cell? ⟨gr, 0, none⟩ = some (.int .u64 l[j].Hash) ∧ w'.cell? ⟨gr, 1, none⟩ = some (.int .u64 l[j].N) ∧ w'.cell? ⟨gr, 3, none⟩ = some (.int .i64 l[j].State) ∧ w'.cell? ⟨gr, 2, none⟩ = some (.int .u64 l[j].Till) from ⟨(V.call h).at_ 0 rfl, (V.call h).at_ 1 rfl, (V.call h).at_ 3 rfl, (V.call h).at_ 2 rfl⟩))
      have HH1 := bel_drewN (Below.refl W1.heap.size W1) 1
      have HB1 := bel_drewN hba 1
      refine wp_region_held (S := fun w' : World => w'.cell? ⟨gr, 0, none⟩ = some (.int .u64 l[j].Hash) ∧ w'.cell? ⟨gr, 1, none⟩ = some (.int .u64 l[j].N) ∧ w'.cell? ⟨gr, 3, none⟩ = some (.int .i64 l[j].State) ∧ w'.cell? ⟨gr, 2, none⟩ = some (.int .u64 l[j].Till)) (by kernel_rfl) ?_
      have hS0 : (fun w' : World => w'.cell? ⟨gr, 0, none⟩ = some (.int .u64 l[j].Hash) ∧ w'.cell? ⟨gr, 1, none⟩ = some (.int .u64 l[j].N) ∧ w'.cell? ⟨gr, 3, none⟩ = some (.int .i64 l[j].State) ∧ w'.cell? ⟨gr, 2, none⟩ = some (.int .u64 l[j].Till)) (W1.drewN 1) := KS.out _ HH1
      change wpAnyH _ _ _ _ _ 25 (Array.replicate 25 false) _ (W1.drewN 1)
      rw [show Array.replicate 25 false = #[false, false, false, false, false, false, false, false, false, false, false, false, false, false, false, false, false, false, false, false, false, false, false, false, false] from rfl]
      refine wpAnyH_yes 0 (some 15) (.int .i64 j) rfl rfl (by kernel_rfl) (by kernel_rfl) (by kernel_rfl) (fun _ _ _ h => h) (by rfl) (fun w' hS => by go_simp) hS0 ?_
      simp only [Act.put, List.setIfInBounds_toArray, List.set_cons_zero, List.set_cons_succ]
      refine wpAnyH_yes 1 (some 16) (.bool false) rfl rfl (by kernel_rfl) (by kernel_rfl) (by kernel_rfl) (fun _ _ _ h => h) (by rfl) (fun w' hS => by go_simp) hS0 ?_
      simp only [Act.put, List.setIfInBounds_toArray, List.set_cons_zero, List.set_cons_succ]
      refine wpAnyH_yes 2 (some 17) (.bool false) rfl rfl (by kernel_rfl) (by kernel_rfl) (by kernel_rfl) (fun _ _ _ h => h) (by rfl) (fun w' hS => by go_simp) hS0 ?_
      simp only [Act.put, List.setIfInBounds_toArray, List.set_cons_zero, List.set_cons_succ]
      refine wpAnyH_no 3 (some 18) rfl rfl (by kernel_rfl) (by kernel_rfl) (by kernel_rfl) (fun _ _ _ h => h) (by rfl) hS0 ?_
      simp only [Act.put, List.setIfInBounds_toArray, List.set_cons_zero, List.set_cons_succ]
      refine wpAnyH_no 4 (some 19) rfl rfl (by kernel_rfl) (by kernel_rfl) (by kernel_rfl) (fun _ _ _ h => h) (by rfl) hS0 ?_
      simp only [Act.put, List.setIfInBounds_toArray, List.set_cons_zero, List.set_cons_succ]
      refine wpAnyH_no 5 (some 20) rfl rfl (by kernel_rfl) (by kernel_rfl) (by kernel_rfl) (fun _ _ _ h => h) (by rfl) hS0 ?_
      simp only [Act.put, List.setIfInBounds_toArray, List.set_cons_zero, List.set_cons_succ]
      refine wpAnyH_no 6 (some 21) rfl rfl (by kernel_rfl) (by kernel_rfl) (by kernel_rfl) (fun _ _ _ h => h) (by rfl) hS0 ?_
      simp only [Act.put, List.setIfInBounds_toArray, List.set_cons_zero, List.set_cons_succ]
      refine wpAnyH_no 7 (some 22) rfl rfl (by kernel_rfl) (by kernel_rfl) (by kernel_rfl) (fun _ _ _ h => h) (by rfl) hS0 ?_
      simp only [Act.put, List.setIfInBounds_toArray, List.set_cons_zero, List.set_cons_succ]
      refine wpAnyH_no 8 (some 23) rfl rfl (by kernel_rfl) (by kernel_rfl) (by kernel_rfl) (fun _ _ _ h => h) (by rfl) hS0 ?_
      simp only [Act.put, List.setIfInBounds_toArray, List.set_cons_zero, List.set_cons_succ]
      refine wpAnyH_no 9 (some 24) rfl rfl (by kernel_rfl) (by kernel_rfl) (by kernel_rfl) (fun _ _ _ h => h) (by rfl) hS0 ?_
      simp only [Act.put, List.setIfInBounds_toArray, List.set_cons_zero, List.set_cons_succ]
      refine wpAnyH_no 10 (some 25) rfl rfl (by kernel_rfl) (by kernel_rfl) (by kernel_rfl) (fun _ _ _ h => h) (by rfl) hS0 ?_
      simp only [Act.put, List.setIfInBounds_toArray, List.set_cons_zero, List.set_cons_succ]
      refine wpAnyH_no 11 (some 26) rfl rfl (by kernel_rfl) (by kernel_rfl) (by kernel_rfl) (fun _ _ _ h => h) (by rfl) hS0 ?_
      simp only [Act.put, List.setIfInBounds_toArray, List.set_cons_zero, List.set_cons_succ]
      refine wpAnyH_yes 12 (some 27) (.bool false) rfl rfl (by kernel_rfl) (by kernel_rfl) (by kernel_rfl) (fun _ _ _ h => h) (by rfl) (fun w' hS => by go_simp) hS0 ?_
      simp only [Act.put, List.setIfInBounds_toArray, List.set_cons_zero, List.set_cons_succ]
      refine wpAnyH_yes 13 (some 28) (.bool false) rfl rfl (by kernel_rfl) (by kernel_rfl) (by kernel_rfl) (fun _ _ _ h => h) (by rfl) (fun w' hS => by go_simp) hS0 ?_
      simp only [Act.put, List.setIfInBounds_toArray, List.set_cons_zero, List.set_cons_succ]
      refine wpAnyH_yes 14 (some 29) (.pointer (some ⟨gr, 1, none⟩)) rfl rfl (by kernel_rfl) (by kernel_rfl) (by kernel_rfl) (fun _ _ _ h => h) (by rfl) (fun w' hS => by go_simp) hS0 ?_
      simp only [Act.put, List.setIfInBounds_toArray, List.set_cons_zero, List.set_cons_succ]
      refine wpAnyH_yes 15 (some 30) (.int .u64 l[j].N) rfl rfl (by kernel_rfl) (by kernel_rfl) (by kernel_rfl) (fun _ _ _ h => h) (by rfl) (fun w' hS => by have s0 := hS; obtain ⟨s0, s1, s2, s3⟩ := s0; go_simp) hS0 ?_
      simp only [Act.put, List.setIfInBounds_toArray, List.set_cons_zero, List.set_cons_succ]
      by_cases g1 : l[j].N ≠ 0 ∧ l[j].N ≤ mMax
      rotate_left
      · have HC := hid (decide_eq_false g1)
        have HE := hid (show inE l = 1 from if_neg fun q => g1 ⟨(q.2.2 _ (List.getElem_mem hx1)).1, (q.2.2 _ (List.getElem_mem hx1)).2.1⟩)
        clear g1
        refine wpAnyH_step 16 _ (by kernel_rfl) rfl (by rfl) ?_
        go_simp
        with_reducible refine (payable_any l[j].N _ HWN.out).mono ?_
        rw [HC.out]
        rintro e w6 ⟨rfl, hb6⟩
        have HS6 := hid (KS.out _ (bel_call HH1 hb6))
        refine ⟨HS6.out, ?_⟩
        try simp only [Act.put, List.setIfInBounds_toArray, List.set_cons_zero, List.set_cons_succ]
        refine wpAnyH_yes 17 (some 32) (.bool true) rfl rfl (by kernel_rfl) (by kernel_rfl) (by kernel_rfl) (fun _ _ _ h => h) (by rfl) (fun w' hS => by go_simp) HS6.out ?_
        simp only [Act.put, List.setIfInBounds_toArray, List.set_cons_zero, List.set_cons_succ]
        refine wpAnyH_yes 18 (some 33) (.bool true) rfl rfl (by kernel_rfl) (by kernel_rfl) (by kernel_rfl) (fun _ _ _ h => h) (by rfl) (fun w' hS => by go_simp) HS6.out ?_
        simp only [Act.put, List.setIfInBounds_toArray, List.set_cons_zero, List.set_cons_succ]
        refine wpAnyH_yes 19 (some 34) (.bool true) rfl rfl (by kernel_rfl) (by kernel_rfl) (by kernel_rfl) (fun _ _ _ h => h) (by rfl) (fun w' hS => by go_simp) HS6.out ?_
        simp only [Act.put, List.setIfInBounds_toArray, List.set_cons_zero, List.set_cons_succ]
        refine wpAnyH_no 20 (some 35) rfl rfl (by kernel_rfl) (by kernel_rfl) (by kernel_rfl) (fun _ _ _ h => h) (by rfl) HS6.out ?_
        simp only [Act.put, List.setIfInBounds_toArray, List.set_cons_zero, List.set_cons_succ]
        refine wpAnyH_no 21 (some 36) rfl rfl (by kernel_rfl) (by kernel_rfl) (by kernel_rfl) (fun _ _ _ h => h) (by rfl) HS6.out ?_
        simp only [Act.put, List.setIfInBounds_toArray, List.set_cons_zero, List.set_cons_succ]
        refine wpAnyH_no 22 (some 37) rfl rfl (by kernel_rfl) (by kernel_rfl) (by kernel_rfl) (fun _ _ _ h => h) (by rfl) HS6.out ?_
        simp only [Act.put, List.setIfInBounds_toArray, List.set_cons_zero, List.set_cons_succ]
        refine wpAnyH_no 23 (some 38) rfl rfl (by kernel_rfl) (by kernel_rfl) (by kernel_rfl) (fun _ _ _ h => h) (by rfl) HS6.out ?_
        simp only [Act.put, List.setIfInBounds_toArray, List.set_cons_zero, List.set_cons_succ]
        refine wpAnyH_yes 24 (some 39) (.bool true) rfl rfl (by kernel_rfl) (by kernel_rfl) (by kernel_rfl) (fun _ _ _ h => h) (by rfl) (fun w' hS => by go_simp) HS6.out ?_
        simp only [Act.put, List.setIfInBounds_toArray, List.set_cons_zero, List.set_cons_succ]
        refine wpAnyH_done (by kernel_rfl) ?_ _
        go_wp2
        go_ret
        exact ⟨ret_num HE.out.symm, bel_call HB1 hb6⟩
      have HC := hid (decide_eq_true g1)
      refine wpAnyH_step 16 _ (by kernel_rfl) rfl (by rfl) ?_
      go_simp
      with_reducible refine (payable_any l[j].N _ HWN.out).mono ?_
      rw [HC.out]
      rintro e w6 ⟨rfl, hb6⟩
      have HH6 := bel_call HH1 hb6
      have HB6 := bel_call HB1 hb6
      have HS6 := hid (KS.out _ HH6)
      refine ⟨HS6.out, ?_⟩
      try simp only [Act.put, List.setIfInBounds_toArray, List.set_cons_zero, List.set_cons_succ]
      refine wpAnyH_yes 17 (some 32) (.bool false) rfl rfl (by kernel_rfl) (by kernel_rfl) (by kernel_rfl) (fun _ _ _ h => h) (by rfl) (fun w' hS => by go_simp) HS6.out ?_
      simp only [Act.put, List.setIfInBounds_toArray, List.set_cons_zero, List.set_cons_succ]
      refine wpAnyH_yes 18 (some 33) (.bool false) rfl rfl (by kernel_rfl) (by kernel_rfl) (by kernel_rfl) (fun _ _ _ h => h) (by rfl) (fun w' hS => by go_simp) HS6.out ?_
      simp only [Act.put, List.setIfInBounds_toArray, List.set_cons_zero, List.set_cons_succ]
      refine wpAnyH_yes 19 (some 34) (.bool false) rfl rfl (by kernel_rfl) (by kernel_rfl) (by kernel_rfl) (fun _ _ _ h => h) (by rfl) (fun w' hS => by go_simp) HS6.out ?_
      simp only [Act.put, List.setIfInBounds_toArray, List.set_cons_zero, List.set_cons_succ]
      refine wpAnyH_yes 20 (some 35) (.pointer (some ⟨gr, 3, none⟩)) rfl rfl (by kernel_rfl) (by kernel_rfl) (by kernel_rfl) (fun _ _ _ h => h) (by rfl) (fun w' hS => by go_simp) HS6.out ?_
      simp only [Act.put, List.setIfInBounds_toArray, List.set_cons_zero, List.set_cons_succ]
      refine wpAnyH_yes 21 (some 36) (.int .i64 l[j].State) rfl rfl (by kernel_rfl) (by kernel_rfl) (by kernel_rfl) (fun _ _ _ h => h) (by rfl) (fun w' hS => by have s0 := hS; obtain ⟨s0, s1, s2, s3⟩ := s0; go_simp) HS6.out ?_
      simp only [Act.put, List.setIfInBounds_toArray, List.set_cons_zero, List.set_cons_succ]
      by_cases g3 : 1 ≤ l[j].State ∧ l[j].State ≤ 3
      rotate_left
      · have HD := hid (decide_eq_false g3)
        have HE := hid (show inE l = 1 from if_neg fun q => g3 (q.2.2 _ (List.getElem_mem hx1)).2.2)
        clear g1 g3
        refine wpAnyH_step 22 _ (by kernel_rfl) rfl (by rfl) ?_
        go_simp
        with_reducible refine (kept_any l[j].State _).mono ?_
        rw [HD.out]
        rintro e w7 ⟨rfl, rfl⟩
        refine ⟨HS6.out, ?_⟩
        try simp only [Act.put, List.setIfInBounds_toArray, List.set_cons_zero, List.set_cons_succ]
        refine wpAnyH_yes 23 (some 38) (.bool true) rfl rfl (by kernel_rfl) (by kernel_rfl) (by kernel_rfl) (fun _ _ _ h => h) (by rfl) (fun w' hS => by go_simp) HS6.out ?_
        simp only [Act.put, List.setIfInBounds_toArray, List.set_cons_zero, List.set_cons_succ]
        refine wpAnyH_yes 24 (some 39) (.bool true) rfl rfl (by kernel_rfl) (by kernel_rfl) (by kernel_rfl) (fun _ _ _ h => h) (by rfl) (fun w' hS => by go_simp) HS6.out ?_
        simp only [Act.put, List.setIfInBounds_toArray, List.set_cons_zero, List.set_cons_succ]
        refine wpAnyH_done (by kernel_rfl) ?_ _
        go_wp2
        go_ret
        exact ⟨ret_num HE.out.symm, HB6⟩
      have HD := hid (decide_eq_true g3)
      have HN := hid (HNEXT.out HUP ⟨g1.1, g1.2, g3.1, g3.2⟩)
      clear g1 g3
      refine wpAnyH_step 22 _ (by kernel_rfl) rfl (by rfl) ?_
      go_simp
      with_reducible refine (kept_any l[j].State _).mono ?_
      rw [HD.out]
      rintro e w7 ⟨rfl, rfl⟩
      refine ⟨HS6.out, ?_⟩
      try simp only [Act.put, List.setIfInBounds_toArray, List.set_cons_zero, List.set_cons_succ]
      refine wpAnyH_yes 23 (some 38) (.bool false) rfl rfl (by kernel_rfl) (by kernel_rfl) (by kernel_rfl) (fun _ _ _ h => h) (by rfl) (fun w' hS => by go_simp) HS6.out ?_
      simp only [Act.put, List.setIfInBounds_toArray, List.set_cons_zero, List.set_cons_succ]
      refine wpAnyH_yes 24 (some 39) (.bool false) rfl rfl (by kernel_rfl) (by kernel_rfl) (by kernel_rfl) (fun _ _ _ h => h) (by rfl) (fun w' hS => by go_simp) HS6.out ?_
      simp only [Act.put, List.setIfInBounds_toArray, List.set_cons_zero, List.set_cons_succ]
      refine wpAnyH_done (by kernel_rfl) ?_ _
      go_wp2
      go_roundw
      case rel => exact ⟨j + 1, by omega, by go_num, HN.out, HB6⟩
      case measure => simp [intOf]; omega
    obtain ⟨k, hk⟩ : ∃ k : Nat, k + 1 = j := ⟨j - 1, by omega⟩
    have hkn : (j : Int) - 1 = (k : Int) := by omega
    have hwk : IntKind.i64.wrap (k : Int) = (k : Int) := IntWalk.i64_in _ (by omega)
    have d2 : decide ((0 : Int) < (j : Int)) = true := by simp; omega
    have d2' : decide (0 < j) = true := by simp; omega
    obtain ⟨b2, o2, hx2, hA2, hb2, u1, -⟩ := at_Invoice h (show k < n by omega)
    rw [hA] at hA2
    injection hA2 with hA2
    injection hA2 with e1 e2
    subst e1 e2
    have p1 := (hbel.cell (p := ⟨b1, o1 + k * 4, none⟩) hb2).trans u1
    have p1' := (hbw.cell (p := ⟨b1, o1 + k * 4, none⟩) (Nat.lt_of_lt_of_le hb2 hbel.size)).trans p1
    have hkl : k < j := by omega
    have ik : (0 : Int) ≤ (k : Int) ∧ (k : Int) < (n : Int) := by omega
    have ik2 : k < n := by omega
    have hb1w : b1 < (wr.alloc (Obj.cells #[.int .u64 l[j].Hash, .int .u64 l[j].N, .int .u64 l[j].Till, .int .i64 l[j].State] 37)).heap.size := Nat.lt_of_lt_of_le (Nat.lt_of_lt_of_le hb1 hbel.size) hbw.size
    subst hA
    clear hz t1 t2 t3 t4 hw u1
    go_upto_region 6 with (fail)
    generalize wr.alloc (Obj.cells #[.int .u64 l[j].Hash, .int .u64 l[j].N, .int .u64 l[j].Till, .int .i64 l[j].State] 37) = W1 at *
    generalize wr.heap.size = gr at *
    have KS := hid (fun (w' : World) (h : Below W1.heap.size W1 w') => (show w'.cell? ⟨gr, 0, none⟩ = some (.int .u64 l[j].Hash) ∧ w'.cell? ⟨gr, 1, none⟩ = some (.int .u64 l[j].N) ∧ w'.cell? ⟨gr, 3, none⟩ = some (.int .i64 l[j].State) ∧ w'.cell? ⟨b1, o1 + k * 4, none⟩ = some (.int .u64 l[k].Hash) from ⟨(V.call h).at_ 0 rfl, (V.call h).at_ 1 rfl, (V.call h).at_ 3 rfl, (h.cell (p := ⟨b1, o1 + k * 4, none⟩) hb1w).trans p1'⟩))
    have HH1 := bel_drewN (Below.refl W1.heap.size W1) 1
    have HB1 := bel_drewN hba 1
    refine wp_region_held (S := fun w' : World => w'.cell? ⟨gr, 0, none⟩ = some (.int .u64 l[j].Hash) ∧ w'.cell? ⟨gr, 1, none⟩ = some (.int .u64 l[j].N) ∧ w'.cell? ⟨gr, 3, none⟩ = some (.int .i64 l[j].State) ∧ w'.cell? ⟨b1, o1 + k * 4, none⟩ = some (.int .u64 l[k].Hash)) (by kernel_rfl) ?_
    have hS0 : (fun w' : World => w'.cell? ⟨gr, 0, none⟩ = some (.int .u64 l[j].Hash) ∧ w'.cell? ⟨gr, 1, none⟩ = some (.int .u64 l[j].N) ∧ w'.cell? ⟨gr, 3, none⟩ = some (.int .i64 l[j].State) ∧ w'.cell? ⟨b1, o1 + k * 4, none⟩ = some (.int .u64 l[k].Hash)) (W1.drewN 1) := KS.out _ HH1
    change wpAnyH _ _ _ _ _ 25 (Array.replicate 25 false) _ (W1.drewN 1)
    rw [show Array.replicate 25 false = #[false, false, false, false, false, false, false, false, false, false, false, false, false, false, false, false, false, false, false, false, false, false, false, false, false] from rfl]
    refine wpAnyH_yes 0 (some 15) (.int .i64 j) rfl rfl (by kernel_rfl) (by kernel_rfl) (by kernel_rfl) (fun _ _ _ h => h) (by rfl) (fun w' hS => by go_simp) hS0 ?_
    simp only [Act.put, List.setIfInBounds_toArray, List.set_cons_zero, List.set_cons_succ]
    refine wpAnyH_yes 1 (some 16) (.bool true) rfl rfl (by kernel_rfl) (by kernel_rfl) (by kernel_rfl) (fun _ _ _ h => h) (by rfl) (fun w' hS => by go_simp) hS0 ?_
    simp only [Act.put, List.setIfInBounds_toArray, List.set_cons_zero, List.set_cons_succ]
    refine wpAnyH_yes 2 (some 17) (.bool true) rfl rfl (by kernel_rfl) (by kernel_rfl) (by kernel_rfl) (fun _ _ _ h => h) (by rfl) (fun w' hS => by go_simp) hS0 ?_
    simp only [Act.put, List.setIfInBounds_toArray, List.set_cons_zero, List.set_cons_succ]
    refine wpAnyH_yes 3 (some 18) (.pointer (some ⟨gr, 0, none⟩)) rfl rfl (by kernel_rfl) (by kernel_rfl) (by kernel_rfl) (fun _ _ _ h => h) (by rfl) (fun w' hS => by go_simp) hS0 ?_
    simp only [Act.put, List.setIfInBounds_toArray, List.set_cons_zero, List.set_cons_succ]
    refine wpAnyH_yes 4 (some 19) (.int .u64 l[j].Hash) rfl rfl (by kernel_rfl) (by kernel_rfl) (by kernel_rfl) (fun _ _ _ h => h) (by rfl) (fun w' hS => by have s0 := hS; obtain ⟨s0, s1, s2, s3⟩ := s0; go_simp) hS0 ?_
    simp only [Act.put, List.setIfInBounds_toArray, List.set_cons_zero, List.set_cons_succ]
    refine wpAnyH_yes 5 (some 20) (.slice (some ⟨b1, o1, none⟩) n c) rfl rfl (by kernel_rfl) (by kernel_rfl) (by kernel_rfl) (fun _ _ _ h => h) (by rfl) (fun w' hS => by go_simp) hS0 ?_
    simp only [Act.put, List.setIfInBounds_toArray, List.set_cons_zero, List.set_cons_succ]
    refine wpAnyH_yes 6 (some 21) (.int .i64 j) rfl rfl (by kernel_rfl) (by kernel_rfl) (by kernel_rfl) (fun _ _ _ h => h) (by rfl) (fun w' hS => by go_simp) hS0 ?_
    simp only [Act.put, List.setIfInBounds_toArray, List.set_cons_zero, List.set_cons_succ]
    refine wpAnyH_yes 7 (some 22) (.int .i64 k) rfl rfl (by kernel_rfl) (by kernel_rfl) (by kernel_rfl) (fun _ _ _ h => h) (by rfl) (fun w' hS => by go_simp) hS0 ?_
    simp only [Act.put, List.setIfInBounds_toArray, List.set_cons_zero, List.set_cons_succ]
    refine wpAnyH_yes 8 (some 23) (.pointer (some ⟨b1, o1 + k * 4, none⟩)) rfl rfl (by kernel_rfl) (by kernel_rfl) (by kernel_rfl) (fun _ _ _ h => h) (by rfl) (fun w' hS => by go_simp) hS0 ?_
    simp only [Act.put, List.setIfInBounds_toArray, List.set_cons_zero, List.set_cons_succ]
    refine wpAnyH_yes 9 (some 24) (.pointer (some ⟨b1, o1 + k * 4, none⟩)) rfl rfl (by kernel_rfl) (by kernel_rfl) (by kernel_rfl) (fun _ _ _ h => h) (by rfl) (fun w' hS => by go_simp) hS0 ?_
    simp only [Act.put, List.setIfInBounds_toArray, List.set_cons_zero, List.set_cons_succ]
    refine wpAnyH_yes 10 (some 25) (.int .u64 l[k].Hash) rfl rfl (by kernel_rfl) (by kernel_rfl) (by kernel_rfl) (fun _ _ _ h => h) (by rfl) (fun w' hS => by have s0 := hS; obtain ⟨s0, s1, s2, s3⟩ := s0; go_simp) hS0 ?_
    simp only [Act.put, List.setIfInBounds_toArray, List.set_cons_zero, List.set_cons_succ]
    by_cases hup : l[k].Hash < l[j].Hash
    rotate_left
    · have d3 : decide (l[j].Hash ≤ l[k].Hash) = true := by simp; omega
      have HE := hid (in_bad hx1 hkl (by omega))
      clear hup hk
      refine wpAnyH_yes 11 (some 26) (.bool true) rfl rfl (by kernel_rfl) (by kernel_rfl) (by kernel_rfl) (fun _ _ _ h => h) (by rfl) (fun w' hS => by go_simp) hS0 ?_
      simp only [Act.put, List.setIfInBounds_toArray, List.set_cons_zero, List.set_cons_succ]
      refine wpAnyH_yes 12 (some 27) (.bool true) rfl rfl (by kernel_rfl) (by kernel_rfl) (by kernel_rfl) (fun _ _ _ h => h) (by rfl) (fun w' hS => by go_simp) hS0 ?_
      simp only [Act.put, List.setIfInBounds_toArray, List.set_cons_zero, List.set_cons_succ]
      refine wpAnyH_yes 13 (some 28) (.bool true) rfl rfl (by kernel_rfl) (by kernel_rfl) (by kernel_rfl) (fun _ _ _ h => h) (by rfl) (fun w' hS => by go_simp) hS0 ?_
      simp only [Act.put, List.setIfInBounds_toArray, List.set_cons_zero, List.set_cons_succ]
      refine wpAnyH_no 14 (some 29) rfl rfl (by kernel_rfl) (by kernel_rfl) (by kernel_rfl) (fun _ _ _ h => h) (by rfl) hS0 ?_
      simp only [Act.put, List.setIfInBounds_toArray, List.set_cons_zero, List.set_cons_succ]
      refine wpAnyH_no 15 (some 30) rfl rfl (by kernel_rfl) (by kernel_rfl) (by kernel_rfl) (fun _ _ _ h => h) (by rfl) hS0 ?_
      simp only [Act.put, List.setIfInBounds_toArray, List.set_cons_zero, List.set_cons_succ]
      refine wpAnyH_no 16 (some 31) rfl rfl (by kernel_rfl) (by kernel_rfl) (by kernel_rfl) (fun _ _ _ h => h) (by rfl) hS0 ?_
      simp only [Act.put, List.setIfInBounds_toArray, List.set_cons_zero, List.set_cons_succ]
      refine wpAnyH_no 17 (some 32) rfl rfl (by kernel_rfl) (by kernel_rfl) (by kernel_rfl) (fun _ _ _ h => h) (by rfl) hS0 ?_
      simp only [Act.put, List.setIfInBounds_toArray, List.set_cons_zero, List.set_cons_succ]
      refine wpAnyH_yes 18 (some 33) (.bool true) rfl rfl (by kernel_rfl) (by kernel_rfl) (by kernel_rfl) (fun _ _ _ h => h) (by rfl) (fun w' hS => by go_simp) hS0 ?_
      simp only [Act.put, List.setIfInBounds_toArray, List.set_cons_zero, List.set_cons_succ]
      refine wpAnyH_yes 19 (some 34) (.bool true) rfl rfl (by kernel_rfl) (by kernel_rfl) (by kernel_rfl) (fun _ _ _ h => h) (by rfl) (fun w' hS => by go_simp) hS0 ?_
      simp only [Act.put, List.setIfInBounds_toArray, List.set_cons_zero, List.set_cons_succ]
      refine wpAnyH_no 20 (some 35) rfl rfl (by kernel_rfl) (by kernel_rfl) (by kernel_rfl) (fun _ _ _ h => h) (by rfl) hS0 ?_
      simp only [Act.put, List.setIfInBounds_toArray, List.set_cons_zero, List.set_cons_succ]
      refine wpAnyH_no 21 (some 36) rfl rfl (by kernel_rfl) (by kernel_rfl) (by kernel_rfl) (fun _ _ _ h => h) (by rfl) hS0 ?_
      simp only [Act.put, List.setIfInBounds_toArray, List.set_cons_zero, List.set_cons_succ]
      refine wpAnyH_no 22 (some 37) rfl rfl (by kernel_rfl) (by kernel_rfl) (by kernel_rfl) (fun _ _ _ h => h) (by rfl) hS0 ?_
      simp only [Act.put, List.setIfInBounds_toArray, List.set_cons_zero, List.set_cons_succ]
      refine wpAnyH_no 23 (some 38) rfl rfl (by kernel_rfl) (by kernel_rfl) (by kernel_rfl) (fun _ _ _ h => h) (by rfl) hS0 ?_
      simp only [Act.put, List.setIfInBounds_toArray, List.set_cons_zero, List.set_cons_succ]
      refine wpAnyH_yes 24 (some 39) (.bool true) rfl rfl (by kernel_rfl) (by kernel_rfl) (by kernel_rfl) (fun _ _ _ h => h) (by rfl) (fun w' hS => by go_simp) hS0 ?_
      simp only [Act.put, List.setIfInBounds_toArray, List.set_cons_zero, List.set_cons_succ]
      refine wpAnyH_done (by kernel_rfl) ?_ _
      go_wp2
      go_ret
      exact ⟨ret_num HE.out.symm, HB1⟩
    have d3 : decide (l[j].Hash ≤ l[k].Hash) = false := by simp; omega
    have HUP : ∀ k' (hk' : k' < l.length), k' + 1 = j → l[k'].Hash < l[j].Hash := fun k' hk' e => by
      have : k' = k := by omega
      subst this
      exact hup
    clear hup hk
    refine wpAnyH_yes 11 (some 26) (.bool false) rfl rfl (by kernel_rfl) (by kernel_rfl) (by kernel_rfl) (fun _ _ _ h => h) (by rfl) (fun w' hS => by go_simp) hS0 ?_
    simp only [Act.put, List.setIfInBounds_toArray, List.set_cons_zero, List.set_cons_succ]
    refine wpAnyH_yes 12 (some 27) (.bool false) rfl rfl (by kernel_rfl) (by kernel_rfl) (by kernel_rfl) (fun _ _ _ h => h) (by rfl) (fun w' hS => by go_simp) hS0 ?_
    simp only [Act.put, List.setIfInBounds_toArray, List.set_cons_zero, List.set_cons_succ]
    refine wpAnyH_yes 13 (some 28) (.bool false) rfl rfl (by kernel_rfl) (by kernel_rfl) (by kernel_rfl) (fun _ _ _ h => h) (by rfl) (fun w' hS => by go_simp) hS0 ?_
    simp only [Act.put, List.setIfInBounds_toArray, List.set_cons_zero, List.set_cons_succ]
    refine wpAnyH_yes 14 (some 29) (.pointer (some ⟨gr, 1, none⟩)) rfl rfl (by kernel_rfl) (by kernel_rfl) (by kernel_rfl) (fun _ _ _ h => h) (by rfl) (fun w' hS => by go_simp) hS0 ?_
    simp only [Act.put, List.setIfInBounds_toArray, List.set_cons_zero, List.set_cons_succ]
    refine wpAnyH_yes 15 (some 30) (.int .u64 l[j].N) rfl rfl (by kernel_rfl) (by kernel_rfl) (by kernel_rfl) (fun _ _ _ h => h) (by rfl) (fun w' hS => by have s0 := hS; obtain ⟨s0, s1, s2, s3⟩ := s0; go_simp) hS0 ?_
    simp only [Act.put, List.setIfInBounds_toArray, List.set_cons_zero, List.set_cons_succ]
    by_cases g1 : l[j].N ≠ 0 ∧ l[j].N ≤ mMax
    rotate_left
    · have HC := hid (decide_eq_false g1)
      have HE := hid (show inE l = 1 from if_neg fun q => g1 ⟨(q.2.2 _ (List.getElem_mem hx1)).1, (q.2.2 _ (List.getElem_mem hx1)).2.1⟩)
      clear g1
      refine wpAnyH_step 16 _ (by kernel_rfl) rfl (by rfl) ?_
      go_simp
      with_reducible refine (payable_any l[j].N _ HWN.out).mono ?_
      rw [HC.out]
      rintro e w6 ⟨rfl, hb6⟩
      have HS6 := hid (KS.out _ (bel_call HH1 hb6))
      refine ⟨HS6.out, ?_⟩
      try simp only [Act.put, List.setIfInBounds_toArray, List.set_cons_zero, List.set_cons_succ]
      refine wpAnyH_yes 17 (some 32) (.bool true) rfl rfl (by kernel_rfl) (by kernel_rfl) (by kernel_rfl) (fun _ _ _ h => h) (by rfl) (fun w' hS => by go_simp) HS6.out ?_
      simp only [Act.put, List.setIfInBounds_toArray, List.set_cons_zero, List.set_cons_succ]
      refine wpAnyH_yes 18 (some 33) (.bool true) rfl rfl (by kernel_rfl) (by kernel_rfl) (by kernel_rfl) (fun _ _ _ h => h) (by rfl) (fun w' hS => by go_simp) HS6.out ?_
      simp only [Act.put, List.setIfInBounds_toArray, List.set_cons_zero, List.set_cons_succ]
      refine wpAnyH_yes 19 (some 34) (.bool true) rfl rfl (by kernel_rfl) (by kernel_rfl) (by kernel_rfl) (fun _ _ _ h => h) (by rfl) (fun w' hS => by go_simp) HS6.out ?_
      simp only [Act.put, List.setIfInBounds_toArray, List.set_cons_zero, List.set_cons_succ]
      refine wpAnyH_no 20 (some 35) rfl rfl (by kernel_rfl) (by kernel_rfl) (by kernel_rfl) (fun _ _ _ h => h) (by rfl) HS6.out ?_
      simp only [Act.put, List.setIfInBounds_toArray, List.set_cons_zero, List.set_cons_succ]
      refine wpAnyH_no 21 (some 36) rfl rfl (by kernel_rfl) (by kernel_rfl) (by kernel_rfl) (fun _ _ _ h => h) (by rfl) HS6.out ?_
      simp only [Act.put, List.setIfInBounds_toArray, List.set_cons_zero, List.set_cons_succ]
      refine wpAnyH_no 22 (some 37) rfl rfl (by kernel_rfl) (by kernel_rfl) (by kernel_rfl) (fun _ _ _ h => h) (by rfl) HS6.out ?_
      simp only [Act.put, List.setIfInBounds_toArray, List.set_cons_zero, List.set_cons_succ]
      refine wpAnyH_no 23 (some 38) rfl rfl (by kernel_rfl) (by kernel_rfl) (by kernel_rfl) (fun _ _ _ h => h) (by rfl) HS6.out ?_
      simp only [Act.put, List.setIfInBounds_toArray, List.set_cons_zero, List.set_cons_succ]
      refine wpAnyH_yes 24 (some 39) (.bool true) rfl rfl (by kernel_rfl) (by kernel_rfl) (by kernel_rfl) (fun _ _ _ h => h) (by rfl) (fun w' hS => by go_simp) HS6.out ?_
      simp only [Act.put, List.setIfInBounds_toArray, List.set_cons_zero, List.set_cons_succ]
      refine wpAnyH_done (by kernel_rfl) ?_ _
      go_wp2
      go_ret
      exact ⟨ret_num HE.out.symm, bel_call HB1 hb6⟩
    have HC := hid (decide_eq_true g1)
    refine wpAnyH_step 16 _ (by kernel_rfl) rfl (by rfl) ?_
    go_simp
    with_reducible refine (payable_any l[j].N _ HWN.out).mono ?_
    rw [HC.out]
    rintro e w6 ⟨rfl, hb6⟩
    have HH6 := bel_call HH1 hb6
    have HB6 := bel_call HB1 hb6
    have HS6 := hid (KS.out _ HH6)
    refine ⟨HS6.out, ?_⟩
    try simp only [Act.put, List.setIfInBounds_toArray, List.set_cons_zero, List.set_cons_succ]
    refine wpAnyH_yes 17 (some 32) (.bool false) rfl rfl (by kernel_rfl) (by kernel_rfl) (by kernel_rfl) (fun _ _ _ h => h) (by rfl) (fun w' hS => by go_simp) HS6.out ?_
    simp only [Act.put, List.setIfInBounds_toArray, List.set_cons_zero, List.set_cons_succ]
    refine wpAnyH_yes 18 (some 33) (.bool false) rfl rfl (by kernel_rfl) (by kernel_rfl) (by kernel_rfl) (fun _ _ _ h => h) (by rfl) (fun w' hS => by go_simp) HS6.out ?_
    simp only [Act.put, List.setIfInBounds_toArray, List.set_cons_zero, List.set_cons_succ]
    refine wpAnyH_yes 19 (some 34) (.bool false) rfl rfl (by kernel_rfl) (by kernel_rfl) (by kernel_rfl) (fun _ _ _ h => h) (by rfl) (fun w' hS => by go_simp) HS6.out ?_
    simp only [Act.put, List.setIfInBounds_toArray, List.set_cons_zero, List.set_cons_succ]
    refine wpAnyH_yes 20 (some 35) (.pointer (some ⟨gr, 3, none⟩)) rfl rfl (by kernel_rfl) (by kernel_rfl) (by kernel_rfl) (fun _ _ _ h => h) (by rfl) (fun w' hS => by go_simp) HS6.out ?_
    simp only [Act.put, List.setIfInBounds_toArray, List.set_cons_zero, List.set_cons_succ]
    refine wpAnyH_yes 21 (some 36) (.int .i64 l[j].State) rfl rfl (by kernel_rfl) (by kernel_rfl) (by kernel_rfl) (fun _ _ _ h => h) (by rfl) (fun w' hS => by have s0 := hS; obtain ⟨s0, s1, s2, s3⟩ := s0; go_simp) HS6.out ?_
    simp only [Act.put, List.setIfInBounds_toArray, List.set_cons_zero, List.set_cons_succ]
    by_cases g3 : 1 ≤ l[j].State ∧ l[j].State ≤ 3
    rotate_left
    · have HD := hid (decide_eq_false g3)
      have HE := hid (show inE l = 1 from if_neg fun q => g3 (q.2.2 _ (List.getElem_mem hx1)).2.2)
      clear g1 g3
      refine wpAnyH_step 22 _ (by kernel_rfl) rfl (by rfl) ?_
      go_simp
      with_reducible refine (kept_any l[j].State _).mono ?_
      rw [HD.out]
      rintro e w7 ⟨rfl, rfl⟩
      refine ⟨HS6.out, ?_⟩
      try simp only [Act.put, List.setIfInBounds_toArray, List.set_cons_zero, List.set_cons_succ]
      refine wpAnyH_yes 23 (some 38) (.bool true) rfl rfl (by kernel_rfl) (by kernel_rfl) (by kernel_rfl) (fun _ _ _ h => h) (by rfl) (fun w' hS => by go_simp) HS6.out ?_
      simp only [Act.put, List.setIfInBounds_toArray, List.set_cons_zero, List.set_cons_succ]
      refine wpAnyH_yes 24 (some 39) (.bool true) rfl rfl (by kernel_rfl) (by kernel_rfl) (by kernel_rfl) (fun _ _ _ h => h) (by rfl) (fun w' hS => by go_simp) HS6.out ?_
      simp only [Act.put, List.setIfInBounds_toArray, List.set_cons_zero, List.set_cons_succ]
      refine wpAnyH_done (by kernel_rfl) ?_ _
      go_wp2
      go_ret
      exact ⟨ret_num HE.out.symm, HB6⟩
    have HD := hid (decide_eq_true g3)
    have HN := hid (HNEXT.out HUP ⟨g1.1, g1.2, g3.1, g3.2⟩)
    clear g1 g3
    refine wpAnyH_step 22 _ (by kernel_rfl) rfl (by rfl) ?_
    go_simp
    with_reducible refine (kept_any l[j].State _).mono ?_
    rw [HD.out]
    rintro e w7 ⟨rfl, rfl⟩
    refine ⟨HS6.out, ?_⟩
    try simp only [Act.put, List.setIfInBounds_toArray, List.set_cons_zero, List.set_cons_succ]
    refine wpAnyH_yes 23 (some 38) (.bool false) rfl rfl (by kernel_rfl) (by kernel_rfl) (by kernel_rfl) (fun _ _ _ h => h) (by rfl) (fun w' hS => by go_simp) HS6.out ?_
    simp only [Act.put, List.setIfInBounds_toArray, List.set_cons_zero, List.set_cons_succ]
    refine wpAnyH_yes 24 (some 39) (.bool false) rfl rfl (by kernel_rfl) (by kernel_rfl) (by kernel_rfl) (fun _ _ _ h => h) (by rfl) (fun w' hS => by go_simp) HS6.out ?_
    simp only [Act.put, List.setIfInBounds_toArray, List.set_cons_zero, List.set_cons_succ]
    refine wpAnyH_done (by kernel_rfl) ?_ _
    go_wp2
    go_roundw
    case rel => exact ⟨j + 1, by omega, by go_num, HN.out, HB6⟩
    case measure => simp [intOf]; omega
end Go.Proofs.Ytannjlejghmfpaa
