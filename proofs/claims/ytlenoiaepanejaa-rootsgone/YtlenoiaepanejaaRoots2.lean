/-
  The contract of package roots' Check.
-/
import Derived.Test.YtlenoiaepanejaaRoots1
import Derived.Test.YtlenoiaepanejaaRootsRef5
namespace Go.Proofs.Ytlenoiaepanejaa
open Go.RowKit Go.WalkArith

set_option maxRecDepth 100000 in
set_option maxHeartbeats 2000000 in
theorem rCheck_any (A : Option Addr) (n c : Nat) (l : List Rtk) (w : World) (h : Sl lay_RootKey w (· < w.heap.size) A n c l) :
    Calls Try.prog 18 #[.slice A n c] w fun e w' => e = .returned (.int .i64 (rkE l)) ∧ Below w.heap.size w w' := by
  have HL := hid h.len
  have hcap := h.cap
  unfold maxLen at hcap
  by_cases hbig : 64 < n
  · have HN := hid (show rkE l = 1 from if_neg fun k => by have := k.1; rw [HL.out] at this; omega)
    have d1 : decide ((64 : Int) < (n : Int)) = true := by simp; omega
    go_enter Try.func18, Try.ntmps18
    go_wp2
    go_ret
    exact ⟨ret_num HN.out.symm, Below.refl _ _⟩
  have d1 : decide ((64 : Int) < (n : Int)) = false := by simp; omega
  go_enter Try.func18, Try.ntmps18
  go_wp2
  go_loopw [10] (fun i wr => ∃ j : Nat, j ≤ n ∧ i = .int .i64 j ∧ (RtUp (l.take j) ∧ RtKs (l.take j)) ∧ Below w.heap.size w wr) (fun i _ => n - (intOf i).toNat)
  case atStart => exact ⟨0, Nat.zero_le _, rfl, ⟨by simp [RtUp], by simp [RtKs]⟩, Below.refl _ _⟩
  case round =>
    obtain ⟨j, hj, rfl, hpre, hbel⟩ := hrel
    have HP := hid hpre
    clear hpre
    by_cases hlt : j < n
    · have HSL := hid (fun (W : World) (h' : Below w.heap.size w W) => Sl.call h h')
      obtain ⟨b1, o1, hx1, hA, hb1, t1, t2, t3, hw⟩ := rtk_at h hlt
      have q1 := (hbel.cell (p := ⟨b1, o1 + j * 3, none⟩) hb1).trans t1
      have q2 := (hbel.cell (p := ⟨b1, o1 + j * 3 + 1, none⟩) hb1).trans t2
      have q3 := (hbel.cell (p := ⟨b1, o1 + j * 3 + 2, none⟩) hb1).trans t3
      have hbw := bel_alloc (Below.refl wr.heap.size wr) (Obj.cells #[.int .u64 l[j].Id, .int .u64 l[j].Key, .bool l[j].Gone] 34)
      have hba := bel_call hbel hbw
      have V := Var3.new wr 34 (.int .u64 l[j].Id) (.int .u64 l[j].Key) (.bool l[j].Gone)
      by_cases hz : j = 0
      · have HUP := hid (show RtUp (l.take (j + 1)) ∧ RtKs (l.take (j + 1)) from ⟨up_take hx1 HP.out.1 (fun k hk e => by omega), ks_take hx1 HP.out.2 (by subst hz; simp [hasK])⟩)
        have d2 : decide ((0 : Int) < (j : Int)) = false := by simp; omega
        have d2' : decide (0 < j) = false := by simp; omega
        have hsl := run_uptoL (P := Try.prog) 22 34 .i64 Try.underlying22 Try.elemRtk Try.infoRtk A n c j (by omega)
        have HK0 := hid (show hasK (l.take j) l[j].Key = false from by subst hz; simp [hasK])
        have HNL := hid (fun (W : World) (h : Below (wr.alloc (Obj.cells #[.int .u64 l[j].Id, .int .u64 l[j].Key, .bool l[j].Gone] 34)).heap.size (wr.alloc (Obj.cells #[.int .u64 l[j].Id, .int .u64 l[j].Key, .bool l[j].Gone] 34)) W) => hasKey_any _ j c (l.take j) l[j].Key W ((Sl.upto (HSL.out W (bel_call hba h)) (i := j) (by omega))))
        rw [HK0.out] at HNL
        subst hA
        clear t1 t2 t3 hw hz
        have r1 := V.c1
        go_upto_region 6 with (fail)
        generalize wr.alloc (Obj.cells #[.int .u64 l[j].Id, .int .u64 l[j].Key, .bool l[j].Gone] 34) = W1 at *
        generalize wr.heap.size = gr at *
        refine wp_region_held (S := fun w' : World => w'.cell? ⟨gr, 1, none⟩ = some (.int .u64 l[j].Key)) (by kernel_rfl) ?_
        have hS0 : (fun w' : World => w'.cell? ⟨gr, 1, none⟩ = some (.int .u64 l[j].Key)) (W1.drewN 1) := r1
        change wpAnyH _ _ _ _ _ 21 (Array.replicate 21 false) _ (W1.drewN 1)
        rw [show Array.replicate 21 false = #[false, false, false, false, false, false, false, false, false, false, false, false, false, false, false, false, false, false, false, false, false] from rfl]
        refine wpAnyH_yes 0 (some 15) (.int .i64 j) rfl rfl (by kernel_rfl) (by kernel_rfl) (by kernel_rfl) (fun _ _ _ h => h) (by rfl) (fun w' hS => by go_simp) hS0 ?_
        simp only [Act.put, List.setIfInBounds_toArray, List.set_cons_zero, List.set_cons_succ]
        refine wpAnyH_yes 1 (some 16) (.bool false) rfl rfl (by kernel_rfl) (by kernel_rfl) (by kernel_rfl) (fun _ _ _ h => h) (by rfl) (fun w' hS => by go_simp) hS0 ?_
        simp only [Act.put, List.setIfInBounds_toArray, List.set_cons_zero, List.set_cons_succ]
        refine wpAnyH_yes 2 (some 17) (.bool false) rfl rfl (by kernel_rfl) (by kernel_rfl) (by kernel_rfl) (fun _ _ _ h => h) (by rfl) (fun w' hS => by go_simp) hS0 ?_
        simp only [Act.put, List.setIfInBounds_toArray, List.set_cons_zero, List.set_cons_succ]
        refine wpAnyH_no 3 (some 18) rfl rfl (by kernel_rfl) (by kernel_rfl) (by kernel_rfl) (fun _ _ _ h => h) (by rfl) hS0 ?_
        simp only [Act.put, List.setIfInBounds_toArray, List.set_cons_zero, List.set_cons_succ]
        refine wpAnyH_no 4 (some 19) rfl rfl (by kernel_rfl) (by kernel_rfl) (by kernel_rfl) (fun _ _ _ h => h) (by rfl) hS0 ?_
        simp only [Act.put, List.setIfInBounds_toArray, List.set_cons_zero, List.set_cons_succ]
        refine wpAnyH_no 5 (some 20) rfl rfl (by kernel_rfl) (by kernel_rfl) (by kernel_rfl) (fun _ _ _ h => h) (by rfl) hS0 ?_
        simp only [Act.put, List.setIfInBounds_toArray, List.set_cons_zero, List.set_cons_succ]
        refine wpAnyH_no 6 (some 21) rfl rfl (by kernel_rfl) (by kernel_rfl) (by kernel_rfl) (fun _ _ _ h => h) (by rfl) hS0 ?_
        simp only [Act.put, List.setIfInBounds_toArray, List.set_cons_zero, List.set_cons_succ]
        refine wpAnyH_no 7 (some 22) rfl rfl (by kernel_rfl) (by kernel_rfl) (by kernel_rfl) (fun _ _ _ h => h) (by rfl) hS0 ?_
        simp only [Act.put, List.setIfInBounds_toArray, List.set_cons_zero, List.set_cons_succ]
        refine wpAnyH_no 8 (some 23) rfl rfl (by kernel_rfl) (by kernel_rfl) (by kernel_rfl) (fun _ _ _ h => h) (by rfl) hS0 ?_
        simp only [Act.put, List.setIfInBounds_toArray, List.set_cons_zero, List.set_cons_succ]
        refine wpAnyH_no 9 (some 24) rfl rfl (by kernel_rfl) (by kernel_rfl) (by kernel_rfl) (fun _ _ _ h => h) (by rfl) hS0 ?_
        simp only [Act.put, List.setIfInBounds_toArray, List.set_cons_zero, List.set_cons_succ]
        refine wpAnyH_no 10 (some 25) rfl rfl (by kernel_rfl) (by kernel_rfl) (by kernel_rfl) (fun _ _ _ h => h) (by rfl) hS0 ?_
        simp only [Act.put, List.setIfInBounds_toArray, List.set_cons_zero, List.set_cons_succ]
        refine wpAnyH_no 11 (some 26) rfl rfl (by kernel_rfl) (by kernel_rfl) (by kernel_rfl) (fun _ _ _ h => h) (by rfl) hS0 ?_
        simp only [Act.put, List.setIfInBounds_toArray, List.set_cons_zero, List.set_cons_succ]
        refine wpAnyH_yes 12 (some 27) (.bool false) rfl rfl (by kernel_rfl) (by kernel_rfl) (by kernel_rfl) (fun _ _ _ h => h) (by rfl) (fun w' hS => by go_simp) hS0 ?_
        simp only [Act.put, List.setIfInBounds_toArray, List.set_cons_zero, List.set_cons_succ]
        refine wpAnyH_yes 13 (some 28) (.bool false) rfl rfl (by kernel_rfl) (by kernel_rfl) (by kernel_rfl) (fun _ _ _ h => h) (by rfl) (fun w' hS => by go_simp) hS0 ?_
        simp only [Act.put, List.setIfInBounds_toArray, List.set_cons_zero, List.set_cons_succ]
        refine wpAnyH_yes 14 (some 29) (.slice (some ⟨b1, o1, none⟩) n c) rfl rfl (by kernel_rfl) (by kernel_rfl) (by kernel_rfl) (fun _ _ _ h => h) (by rfl) (fun w' hS => by go_simp) hS0 ?_
        simp only [Act.put, List.setIfInBounds_toArray, List.set_cons_zero, List.set_cons_succ]
        refine wpAnyH_yes 15 (some 30) (.int .i64 j) rfl rfl (by kernel_rfl) (by kernel_rfl) (by kernel_rfl) (fun _ _ _ h => h) (by rfl) (fun w' hS => by go_simp) hS0 ?_
        simp only [Act.put, List.setIfInBounds_toArray, List.set_cons_zero, List.set_cons_succ]
        refine wpAnyH_yes 16 (some 31) (.slice (some ⟨b1, o1, none⟩) j c) rfl rfl (by kernel_rfl) (by kernel_rfl) (by kernel_rfl) (fun _ _ _ h => h) (by rfl) (fun w' hS => by go_simp) hS0 ?_
        simp only [Act.put, List.setIfInBounds_toArray, List.set_cons_zero, List.set_cons_succ]
        refine wpAnyH_yes 17 (some 32) (.pointer (some ⟨gr, 1, none⟩)) rfl rfl (by kernel_rfl) (by kernel_rfl) (by kernel_rfl) (fun _ _ _ h => h) (by rfl) (fun w' hS => by go_simp) hS0 ?_
        simp only [Act.put, List.setIfInBounds_toArray, List.set_cons_zero, List.set_cons_succ]
        refine wpAnyH_yes 18 (some 33) (.int .u64 l[j].Key) rfl rfl (by kernel_rfl) (by kernel_rfl) (by kernel_rfl) (fun _ _ _ h => h) (by rfl) (fun w' hS => by have s0 := hS; go_simp) hS0 ?_
        simp only [Act.put, List.setIfInBounds_toArray, List.set_cons_zero, List.set_cons_succ]
        refine wpAnyH_step 19 _ (by kernel_rfl) rfl (by rfl) ?_
        go_simp
        refine (HNL.out _ (Below.refl W1.heap.size W1).drew).mono ?_
        rintro e w6 ⟨rfl, hb6⟩
        have HH6 := bel_call (Below.refl W1.heap.size W1).drew hb6
        have hS6 : w6.cell? ⟨gr, 1, none⟩ = some (.int .u64 l[j].Key) := (V.call HH6).c1
        refine ⟨hS6, ?_⟩
        try simp only [Act.put, List.setIfInBounds_toArray, List.set_cons_zero, List.set_cons_succ]
        refine wpAnyH_yes 20 (some 35) (.bool false) rfl rfl (by kernel_rfl) (by kernel_rfl) (by kernel_rfl) (fun _ _ _ h => h) (by rfl) (fun w' hS => by go_simp) hS6 ?_
        simp only [Act.put, List.setIfInBounds_toArray, List.set_cons_zero, List.set_cons_succ]
        refine wpAnyH_done (by kernel_rfl) ?_ _
        go_wp2
        go_roundw
        case rel => exact ⟨j + 1, by omega, by go_num, HUP.out, bel_call hba HH6⟩
        case measure => simp [intOf]; omega
      · obtain ⟨k, hk⟩ : ∃ k : Nat, k + 1 = j := ⟨j - 1, by omega⟩
        have hkn : (j : Int) - 1 = (k : Int) := by omega
        have hwk : IntKind.i64.wrap (k : Int) = (k : Int) := IntWalk.i64_in _ (by omega)
        have d2 : decide ((0 : Int) < (j : Int)) = true := by simp; omega
        have d2' : decide (0 < j) = true := by simp; omega
        obtain ⟨b2, o2, hx2, hA2, hb2, u1, -⟩ := rtk_at h (show k < n by omega)
        rw [hA] at hA2
        injection hA2 with hA2
        injection hA2 with e1 e2
        subst e1 e2
        have p1 := (hbel.cell (p := ⟨b1, o1 + k * 3, none⟩) hb2).trans u1
        have p1' := (hbw.cell (p := ⟨b1, o1 + k * 3, none⟩) (Nat.lt_of_lt_of_le hb2 hbel.size)).trans p1
        have hkl : k < j := by omega
        have ik : (0 : Int) ≤ (k : Int) ∧ (k : Int) < (n : Int) := by omega
        have ik2 : k < n := by omega
        have hb1w : b1 < (wr.alloc (Obj.cells #[.int .u64 l[j].Id, .int .u64 l[j].Key, .bool l[j].Gone] 34)).heap.size := Nat.lt_of_lt_of_le (Nat.lt_of_lt_of_le hb1 hbel.size) hbw.size
        have hsl := run_uptoL (P := Try.prog) 22 34 .i64 Try.underlying22 Try.elemRtk Try.infoRtk A n c j (by omega)
        subst hA
        clear hz t1 t2 t3 hw u1
        by_cases hup : l[k].Id < l[j].Id
        · have d3 : decide (l[j].Id ≤ l[k].Id) = false := by simp; omega
          have HUP := hid (show ∀ k' (hk' : k' < l.length), k' + 1 = j → l[k'].Id < l[j].Id from fun k' hk' e => by
            have : k' = k := by omega
            subst this
            exact hup)
          clear hup hk
          have HHS := hid (fun (W : World) (h : Below (wr.alloc (Obj.cells #[.int .u64 l[j].Id, .int .u64 l[j].Key, .bool l[j].Gone] 34)).heap.size (wr.alloc (Obj.cells #[.int .u64 l[j].Id, .int .u64 l[j].Key, .bool l[j].Gone] 34)) W) => hasKey_any _ j c (l.take j) l[j].Key W ((Sl.upto (HSL.out W (bel_call hba h)) (i := j) (by omega))))
          cases hq : hasK (l.take j) l[j].Key with
          | true =>
            rw [hq] at HHS
            have HN := hid (rk_bad2 hx1 hq)
            clear hq
            go_upto_region 6 with (fail)
            generalize wr.alloc (Obj.cells #[.int .u64 l[j].Id, .int .u64 l[j].Key, .bool l[j].Gone] 34) = W1 at *
            generalize wr.heap.size = gr at *
            have KK := hid (fun (W : World) (h : Below W1.heap.size W1 W) => (show W.cell? ⟨b1, o1 + k * 3, none⟩ = some (.int .u64 l[k].Id) ∧ W.cell? ⟨gr, 0, none⟩ = some (.int .u64 l[j].Id) ∧ W.cell? ⟨gr, 1, none⟩ = some (.int .u64 l[j].Key) from ⟨(h.cell (p := ⟨b1, o1 + k * 3, none⟩) hb1w).trans p1', (V.call h).c0, (V.call h).c1⟩))
            have HH := Below.refl W1.heap.size W1
            obtain ⟨r2, r0, r1⟩ := KK.out _ HH
            go_region_held3 (fun W => W.cell? ⟨b1, o1 + k * 3, none⟩ = some (.int .u64 l[k].Id) ∧ W.cell? ⟨gr, 0, none⟩ = some (.int .u64 l[j].Id) ∧ W.cell? ⟨gr, 1, none⟩ = some (.int .u64 l[j].Key))
              (first | exact KK.out _ HH | exact KK.out _ HH.drew | exact KK.out _ HH6)
              (first
                | (go_at_call 22; (with_reducible refine (HHS.out _ HH.drew).mono ?_); rintro e w6 ⟨rfl, hb6⟩; have HH6 := bel_call HH.drew hb6)
                | (go_at_call 22; (with_reducible refine (HHS.out _ HH).mono ?_); rintro e w6 ⟨rfl, hb6⟩; have HH6 := bel_call HH hb6))
            all_goals
              go_wp2
              go_ret
              exact ⟨ret_num HN.out.symm, bel_call hba HH6⟩
          | false =>
            rw [hq] at HHS
            have HN := hid (And.intro (up_take hx1 HP.out.1 HUP.out) (ks_take hx1 HP.out.2 hq))
            clear hq
            go_upto_region 6 with (fail)
            generalize wr.alloc (Obj.cells #[.int .u64 l[j].Id, .int .u64 l[j].Key, .bool l[j].Gone] 34) = W1 at *
            generalize wr.heap.size = gr at *
            have KK := hid (fun (W : World) (h : Below W1.heap.size W1 W) => (show W.cell? ⟨b1, o1 + k * 3, none⟩ = some (.int .u64 l[k].Id) ∧ W.cell? ⟨gr, 0, none⟩ = some (.int .u64 l[j].Id) ∧ W.cell? ⟨gr, 1, none⟩ = some (.int .u64 l[j].Key) from ⟨(h.cell (p := ⟨b1, o1 + k * 3, none⟩) hb1w).trans p1', (V.call h).c0, (V.call h).c1⟩))
            have HH := Below.refl W1.heap.size W1
            obtain ⟨r2, r0, r1⟩ := KK.out _ HH
            go_region_held3 (fun W => W.cell? ⟨b1, o1 + k * 3, none⟩ = some (.int .u64 l[k].Id) ∧ W.cell? ⟨gr, 0, none⟩ = some (.int .u64 l[j].Id) ∧ W.cell? ⟨gr, 1, none⟩ = some (.int .u64 l[j].Key))
              (first | exact KK.out _ HH | exact KK.out _ HH.drew | exact KK.out _ HH6)
              (first
                | (go_at_call 22; (with_reducible refine (HHS.out _ HH.drew).mono ?_); rintro e w6 ⟨rfl, hb6⟩; have HH6 := bel_call HH.drew hb6)
                | (go_at_call 22; (with_reducible refine (HHS.out _ HH).mono ?_); rintro e w6 ⟨rfl, hb6⟩; have HH6 := bel_call HH hb6))
            all_goals
              go_wp2
              go_roundw
              case rel => exact ⟨j + 1, by omega, by go_num, HN.out, bel_call hba HH6⟩
              case measure => simp [intOf]; omega
        · have d3 : decide (l[j].Id ≤ l[k].Id) = true := by simp; omega
          have HN := hid (rk_bad1 hx1 hkl (by omega))
          have r0 := V.c0
          clear hup hk
          go_upto_region 6 with (fail)
          generalize wr.alloc (Obj.cells #[.int .u64 l[j].Id, .int .u64 l[j].Key, .bool l[j].Gone] 34) = W1 at *
          generalize wr.heap.size = gr at *
          go_quiet (fail)
          go_wp2
          go_ret
          exact ⟨ret_num HN.out.symm, bel_drewN hba _⟩
    · have HN := hid (show rkE l = 0 from if_pos ⟨by rw [HL.out]; omega, by
        have := HP.out
        rwa [List.take_of_length_le (by rw [HL.out]; omega)] at this⟩)
      go_wp2
      go_ret
      exact ⟨ret_num HN.out.symm, hbel⟩
end Go.Proofs.Ytlenoiaepanejaa
