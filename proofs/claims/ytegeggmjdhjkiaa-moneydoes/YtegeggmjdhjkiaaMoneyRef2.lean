/-
  The contract of the document's Split.
-/
import Derived.Test.YtegeggmjdhjkiaaMoneyRef
namespace Go.Proofs.Ytegeggmjdhjkiaa
open Go.RowKit Go.WalkArith

theorem splitE_bad {a : Int} {ws : List Int} (h : ¬ (a ≤ mMax ∧ ws.length ≤ 64 ∧ allLe 1000000 ws = true ∧ sumM ws ≠ 0)) : splitE a ws = 1 ∧ splitL a ws = [] := by
  have h4 : splitE a ws = 1 := if_neg h
  exact ⟨h4, if_neg (by rw [h4]; decide)⟩

set_option maxRecDepth 100000 in
set_option maxHeartbeats 2000000 in
theorem rmSplit_any (a : Int) (A : Option Addr) (n c : Nat) (xs : List Int) (w : World) (ha : (Lit.int .u64 a).wf = true) (hr : Rd w w.heap.size .u64 A n c xs) :
    Calls Try.prog 19 #[.int .u64 a, .slice A n c] w fun e w' => ∃ v', e = .returned (.tuple #[v', .int .i64 (splitE a xs)]) ∧ Own w' w.heap.size 23 .u64 v' (splitL a xs) ∧ Below w.heap.size w w' := by
  have hcap := hr.cap
  unfold maxLen at hcap
  have HL := hid hr.len
  have b0 := bounds_u64 ha
  have HX := hid (nonneg_u64 hr.wf)
  have R := hid (rd_one w a ha)
  have HB := hid (bel_alloc (Below.refl w.heap.size w) (.cells #[.int .u64 a] 23))
  by_cases hm : a ≤ mMax
  · have HC := hid (show chkM [a] = 0 from by rw [chkM_one, if_pos hm])
    by_cases hn0 : n = 0
    · have HS := hid (splitE_bad (a := a) (ws := xs) fun k => k.2.2.2 (by rw [List.eq_nil_of_length_eq_zero (l := xs) (by rw [HL.out]; exact hn0)]; rfl))
      have hz : ((n : Int) == 0) = true := by simp; omega
      go_enter Try.func19, Try.ntmps19
      go_wp2_with (go_at_call 22; go_must (refine (rmCheck_any _ _ _ _ [a] _ R.out).mono ?_; rw [HC.out]; rintro e w1 ⟨rfl, rfl⟩))
      go_ret2
      exact ⟨_, by rw [HS.out.1]; rfl, by rw [HS.out.2]; exact Own.nil _ _ _ _, HB.out⟩
    have hz : ((n : Int) == 0) = false := by simp; omega
    by_cases hn : 64 < n
    · have HS := hid (splitE_bad (a := a) (ws := xs) fun k => by have := k.2.1; rw [HL.out] at this; omega)
      have hd : (64 : Int) < (n : Int) := by omega
      go_enter Try.func19, Try.ntmps19
      go_wp2_with (go_at_call 22; go_must (refine (rmCheck_any _ _ _ _ [a] _ R.out).mono ?_; rw [HC.out]; rintro e w1 ⟨rfl, rfl⟩))
      go_ret2
      exact ⟨_, by rw [HS.out.1]; rfl, by rw [HS.out.2]; exact Own.nil _ _ _ _, HB.out⟩
    have hd : decide ((64 : Int) < (n : Int)) = false := by simp; omega
    have hn64 : n ≤ 64 := by omega
    have HM := hid hm
    clear hm hn hn0
    go_enter Try.func19, Try.ntmps19
    go_wp2_with (go_at_call 22; go_must (refine (rmCheck_any _ _ _ _ [a] _ R.out).mono ?_; rw [HC.out]; rintro e w1 ⟨rfl, rfl⟩))
    have hr1 := hr.below HB.out
    have hb1 := HB.out
    have HRK := hid R
    clear R HB HRK
    generalize w.alloc (.cells #[.int .u64 a] 23) = w1 at *
    go_loop [6, 29] (fun s i => ∃ j : Nat, j ≤ n ∧ i = .int .i64 j ∧ s = .int .u64 (upM xs j) ∧ allLe 1000000 (xs.take j) = true ∧ upM xs j ≤ (j : Int) * 1000000) (fun _ i => n - (intOf i).toNat)
    case atStart => exact ⟨0, Nat.zero_le _, rfl, by rw [upM_zero], rfl, by rw [upM_zero]; simp⟩
    case round =>
      obtain ⟨j, hj, rfl, rfl, hpre, hle⟩ := hrel
      have HP := hid hpre
      have h0 := upM_nonneg HX.out j
      clear hpre
      by_cases hlt : j < n
      · obtain ⟨p1, o1, rfl, hp1, hc1⟩ := hr1.at_ (by omega)
        have q1 := hc1 j hlt
        have hjx : j < xs.length := by rw [HL.out]; exact hlt
        have hx0 := HX.out _ (nth_mem (xs := xs) (j := j) hjx)
        have HU := hid (upM_succ (ws := xs) (j := j) hjx)
        clear hc1
        by_cases hb : 1000000 < nth xs j
        · have HS := hid (splitE_bad (a := a) (ws := xs) fun k => by have := k.2.2.1; rw [allLe_bad hjx hb] at this; cases this)
          clear hjx
          generalize nth xs j = x at *
          generalize upM xs j = s at *
          go_wp2
          go_ret2
          exact ⟨_, by rw [HS.out.1]; rfl, by rw [HS.out.2]; exact Own.nil _ _ _ _, hb1⟩
        · have HN := hid (allLe_take hjx HP.out (by omega : nth xs j ≤ 1000000))
          have hdb : decide (1000000 < nth xs j) = false := by simp; omega
          clear hjx
          generalize nth xs j = x at *
          generalize upM xs j = s at *
          go_wp2
          go_round
          case rel => exact ⟨j + 1, by omega, by go_num, by rw [HU.out], HN.out, by rw [HU.out]; omega⟩
          case measure => simp [intOf]; omega
      · have hjn : j = n := by omega
        subst hjn
        have hall := allLe_all (by rw [HL.out]; omega) HP.out
        have HALL := hid hall
        have hs64 := weights_sum hall (by rw [HL.out]; exact hn64)
        have hjn : upM xs j = sumM xs := upM_all (by rw [HL.out]; omega)
        rw [hjn] at h0 ⊢
        clear hjn hle hall HP hlt
        by_cases hsz : sumM xs = 0
        · have HS := hid (splitE_bad (a := a) (ws := xs) fun k => k.2.2.2 hsz)
          have hsz' : (sumM xs == 0) = true := by simpa using hsz
          clear hsz
          generalize sumM xs = t at *
          have hdz : decide ((j : Int) < (j : Int)) = false := by simp
          go_wp2
          go_ret2
          exact ⟨_, by rw [HS.out.1]; rfl, by rw [HS.out.2]; exact Own.nil _ _ _ _, hb1⟩
        · have HS := hid (split_ok (a := a) (ws := xs) HM.out (if_pos ⟨by rw [HL.out]; exact hn64, HALL.out, hsz⟩))
          have hsz' : (sumM xs == 0) = false := by simpa using hsz
          obtain ⟨t, ht⟩ : ∃ t, t = sumM xs := ⟨_, rfl⟩
          rw [← ht] at h0 hs64 hsz hsz' ⊢
          have HT := hid ht
          clear ht
          have ht0 : 0 < t := by omega
          clear hsz
          have hdz : decide ((j : Int) < (j : Int)) = false := by simp
          go_wp2
          go_loopw [9, 10, 43] (fun u s i wr => ∃ k : Nat, k ≤ j ∧ i = .int .i64 k ∧ s = .int .u64 (upM xs k) ∧ Own wr w.heap.size 23 .u64 u (ptsM a xs k) ∧ Below w.heap.size w wr) (fun _ _ i _ => j - (intOf i).toNat)
          case atStart => exact ⟨0, Nat.zero_le _, rfl, by rw [upM_zero], Own.nil _ _ _ _, hb1⟩
          case round =>
            obtain ⟨k, hk, rfl, rfl, hown, hbel⟩ := hrel
            by_cases hlt : k < j
            · obtain ⟨p1, o1, rfl, hp1, hc1⟩ := hr.at_ (by omega)
              have q1 := (hbel.cell (p := ⟨p1, o1 + k, none⟩) hp1).trans (hc1 k hlt)
              have hkx : k < xs.length := by rw [HL.out]; exact hlt
              have hx0 := HX.out _ (nth_mem (xs := xs) (j := k) hkx)
              have hu := upM_succ (ws := xs) (j := k) hkx
              have u0 := upM_nonneg HX.out k
              have u1 := upM_le HX.out (k + 1)
              have hP0 := partM_nonneg b0.1 HX.out (by rw [← HT.out]; exact ht0) k
              have hP1 := partM_le b0.1 HX.out (by rw [← HT.out]; exact ht0) k
              have hpe : partM a xs k = scl a (upM xs k + nth xs k) t - scl a (upM xs k) t := by rw [partM, hu, HT.out]
              have HSUC := hid (ptsM_succ a xs k)
              have HLEN := hid (ptsM_len a xs k)
              rw [hu, ← HT.out] at u1
              have g0 := scl_nonneg (a := a) (p := upM xs k) b0.1 u0 ht0
              have g1 := scl_le (a := a) (p := upM xs k + nth xs k) b0.1 u1 ht0
              have HO1 := hid (fun W => rmOf_any a (upM xs k + nth xs k) t W b0.1 HM.out (by omega) u1 ht0 hs64)
              have HO2 := hid (fun W => rmOf_any a (upM xs k) t W b0.1 HM.out u0 (by omega) ht0 hs64)
              have HU := hid hu
              clear hc1 hkx hu
              generalize nth xs k = x at *
              generalize upM xs k = s at *
              generalize ptsM a xs k = acc at *
              have hM : a ≤ 4611686018427387904 := HM.out
              rw [hpe] at hP0 hP1
              have wf1 : (Lit.int .u64 (scl a (s + x) t - scl a s t)).wf = true := wf_u64 (by omega)
              have hsz := hbel.size
              have HPE := hid hpe
              clear hpe
              generalize scl a (s + x) t = z1 at *
              generalize scl a s t = z2 at *
              have hw9 : IntKind.u64.wrap (z1 - z2) = z1 - z2 := IntWalk.u64_in _ (by omega)
              have hacc : acc.length ≤ 64 := by rw [HLEN.out]; omega
              go_wp2_with (first | (with_reducible refine (HO1.out _).mono ?_; rintro e w2 ⟨rfl, rfl⟩) | (with_reducible refine (HO2.out _).mono ?_; rintro e w2 ⟨rfl, rfl⟩) | (at_builtin; go_must (refine wpList_push rfl _ _ 22 rfl w.heap.size 23 .u64 8 Try.underlying22 Try.infoU64 u9 acc (z1 - z2) rfl rfl hown wf1 hsz (by omega) (by omega) ?_; intro v3 w3 hown3 hext3)))
              go_roundw
              case rel => exact ⟨k + 1, by omega, by go_num, by rw [HU.out], by rw [HSUC.out, HPE.out]; exact hown3, hbel.trans (hown.below hext3 hsz)⟩
              case measure => simp [intOf]; omega
            · have hkj : k = j := by omega
              subst hkj
              go_wp2
              go_ret2
              exact ⟨_, by rw [HS.out.1]; rfl, by rw [HS.out.2, HL.out]; exact hown, hbel⟩
  · have HC := hid (show chkM [a] = 1 from by rw [chkM_one, if_neg hm])
    have HS := hid (split_noA (ws := xs) hm)
    clear hm
    go_enter Try.func19, Try.ntmps19
    go_wp2_with (go_at_call 22; go_must (refine (rmCheck_any _ _ _ _ [a] _ R.out).mono ?_; rw [HC.out]; rintro e w1 ⟨rfl, rfl⟩))
    go_ret2
    exact ⟨_, by rw [HS.out.1]; rfl, by rw [HS.out.2]; exact Own.nil _ _ _ _, HB.out⟩
end Go.Proofs.Ytegeggmjdhjkiaa
