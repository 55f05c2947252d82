/-
  The walk of MoneySplit.
-/
import Derived.Test.YtegeggmjdhjkiaaMoneyLive
namespace Go.Proofs.Ytegeggmjdhjkiaa
open Go.RowKit Go.WalkArith

theorem add_parts {a : Int} {ws : List Int} (ha : 0 ≤ a) (ham : a ≤ mMax) (h : ∀ x ∈ ws, 0 ≤ x) (h0 : 0 < sumM ws) : addE (ptsM a ws ws.length) = 0 ∧ addN (ptsM a ws ws.length) = a := by
  have hs := ptsM_all (a := a) h0
  have hl : allLe mMax (ptsM a ws ws.length) = true := allLe_iff.2 fun x hx => by
    obtain ⟨i, _, rfl⟩ := ptsM_mem hx
    have := partM_le ha h h0 i
    omega
  have e : addE (ptsM a ws ws.length) = 0 := by rw [addE, if_pos hl, if_pos (by omega)]
  exact ⟨e, by rw [addN, if_pos e, hs]⟩

set_option maxHeartbeats 4000000 in
theorem moneySplit_walk (a0 : Int) (A1 : Option Addr) (n1 c1 : Nat) (x1 : List Int) (w : World) (b0 : 0 ≤ a0 ∧ a0 ≤ 18446744073709551615) (r1 : Rd w w.heap.size .u64 A1 n1 c1 x1) :
    Calls Try.prog 6 #[.int .u64 a0, .slice A1 n1 c1] w fun e w' => e = .returned (.bool true) ∧ Below w.heap.size w w' := by
  have W0 := wf_u64 b0
  have hcap := r1.cap
  unfold maxLen at hcap
  have HL := hid r1.len
  rcases splitE_cases (a := a0) (ws := x1) with ⟨h1, h2, h3, h4, h5, h6⟩ | ⟨h1, h2, -⟩
  · have E1 := hid h1
    have L1 := hid h6
    have hnn := nonneg_u64 r1.wf
    have hs0 : 0 < sumM x1 := by have := sumM_nonneg hnn; omega
    have hs1 := weights_sum h4 h3
    have AP := hid (add_parts b0.1 h2 hnn hs0)
    have HX := hid hnn
    have HM := hid h2
    have hn64 : n1 ≤ 64 := by rw [← HL.out]; exact h3
    clear h1 h2 h3 h4 h5 h6 hnn
    go_enter Try.func6, Try.ntmps6
    go_wp2_with (first | (go_at_call 9; go_must (refine (liveM_any _).mono ?_; rintro e w1 ⟨rfl, hb1⟩)) | (go_at_call 18; go_must (refine (mSplit_any a0 _ _ _ _ x1 _ W0 (r1.below hb1) hb1.size).mono ?_; rw [E1.out, L1.out]; rintro e w2 ⟨v2, rfl, ho2, hb2⟩; obtain ⟨A2, n2, c2, rfl, r2⟩ := ho2.formN; have hn2 : n2 = n1 := r2.len.symm.trans ((ptsM_len a0 x1 x1.length).trans HL.out); subst hn2)) | (go_at_call 10; go_must (refine (mAdd_any _ _ _ _ _ _ r2 (Nat.le_refl _)).mono ?_; rw [AP.out.1, AP.out.2]; rintro e w3 ⟨rfl, hb3⟩)))
    have HB : Below w.heap.size w w3 := by (repeat (first | exact Below.refl _ _ | refine Below.drew ?_ | refine bel_drewN ?_ _ | refine bel_alloc ?_ _ | refine bel_call ?_ (by assumption)))
    have R1 := r1.below HB
    have R2 := (r2.below hb3).more hb3.size
    clear hb1 hb2 ho2 hb3 r2 r1
    have hU := upM_le HX.out
    have hU0 := upM_nonneg HX.out
    go_loop [9, 54] (fun s i => ∃ j : Nat, j ≤ n2 ∧ i = .int .i64 j ∧ s = .int .u64 (upM x1 j)) (fun _ i => n2 - (intOf i).toNat)
    case atStart => exact ⟨0, Nat.zero_le _, rfl, by rw [upM_zero]⟩
    case round =>
      obtain ⟨j, hj, rfl, rfl⟩ := hrel
      by_cases hlt : j < n2
      · obtain ⟨p1, o1, rfl, hp1, hc1⟩ := R1.at_ (by omega)
        have q1 := hc1 j hlt
        have hm := nth_mem (xs := x1) (j := j) (by rw [HL.out]; exact hlt)
        have hx0 := HX.out _ hm
        have HU := hid (upM_succ (ws := x1) (j := j) (by rw [HL.out]; exact hlt))
        have k1 := hU (j + 1)
        rw [HU.out] at k1
        have k2 := hU0 j
        clear hc1 hm hU hU0
        generalize upM x1 j = s at *
        generalize nth x1 j = x at *
        go_wp2
        go_round
        case rel => exact ⟨j + 1, by omega, by go_num, by rw [HU.out]⟩
        case measure => simp [intOf]; omega
      · have hjn : upM x1 j = sumM x1 := upM_all (by rw [HL.out]; omega)
        rw [hjn]
        have hdz : decide ((j : Int) < (n2 : Int)) = false := by simp; omega
        clear hjn hU hU0
        obtain ⟨t, ht⟩ : ∃ t, t = sumM x1 := ⟨_, rfl⟩
        rw [← ht] at hs0 hs1 ⊢
        have HT := hid ht
        clear ht
        have ht0 : (t == 0) = false := by simp; omega
        go_wp2
        go_loopw [64] (fun i wr => ∃ j : Nat, j ≤ n2 ∧ i = .int .i64 j ∧ Below w3.heap.size w3 wr) (fun i _ => n2 - (intOf i).toNat)
        case atStart => exact ⟨0, Nat.zero_le _, rfl, Below.refl _ _⟩
        case round =>
          obtain ⟨i, hi, rfl, hbel⟩ := hrel
          by_cases hlt : i < n2
          · obtain ⟨p1, o1, rfl, hp1, hc1⟩ := (R1.more HB.size).at_ (by omega)
            obtain ⟨p2, o2, rfl, hp2, hc2⟩ := R2.at_ (by omega)
            have q1 := (hbel.cell (p := ⟨p1, o1 + i, none⟩) hp1).trans (hc1 i hlt)
            have q2 := (hbel.cell (p := ⟨p2, o2 + i, none⟩) hp2).trans (hc2 i hlt)
            have hix : i < x1.length := by rw [HL.out]; exact hlt
            have hm := nth_mem (xs := x1) (j := i) hix
            have hx0 := HX.out _ hm
            have hx1 := le_sumM HX.out _ hm
            rw [← HT.out] at hx1
            rw [ptsM_nth a0 x1 hix] at q2
            have hnear := partM_near (a := a0) (by rw [← HT.out]; exact hs0) hix
            have hnone := partM_none (a := a0) hix
            rw [← HT.out] at hnear
            have hsa := scl_apart a0 (nth x1 i) t hs0
            rw [← hsa] at hnear
            have hsz : nth x1 i = 0 → a0 / t * nth x1 i + a0 % t * nth x1 i / t = 0 := fun h => by rw [h]; simp
            clear hc1 hc2 hm hix
            generalize nth x1 i = x at *
            generalize partM a0 x1 i = y at *
            obtain ⟨k1, k2, k3, k4, k5, k6, k7⟩ := scl_bounds b0.1 hx0 hx1 hs0 hs1
            have k8 : 0 ≤ a0 % t * x / t := Int.ediv_nonneg k6 (by omega)
            have k9 : a0 % t * x / t ≤ a0 % t * x := Int.ediv_le_self _ k6
            have k10 := Int.ediv_le_self t b0.1
            have hM : a0 ≤ 4611686018427387904 := HM.out
            have w1 : IntKind.u64.wrap (a0 / t) = a0 / t := IntWalk.u64_in _ (by omega)
            have w2 : IntKind.u64.wrap (a0 / t * x) = a0 / t * x := IntWalk.u64_in _ (by omega)
            have w3 : IntKind.u64.wrap (a0 % t) = a0 % t := IntWalk.u64_in _ (by omega)
            have w4 : IntKind.u64.wrap (a0 % t * x) = a0 % t * x := IntWalk.u64_in _ (by omega)
            have w5 : IntKind.u64.wrap (a0 % t * x / t) = a0 % t * x / t := IntWalk.u64_in _ (by omega)
            have w6 : IntKind.u64.wrap (a0 / t * x + a0 % t * x / t) = a0 / t * x + a0 % t * x / t := IntWalk.u64_in _ (by omega)
            have w7 : IntKind.u64.wrap (a0 / t * x + a0 % t * x / t + 1) = a0 / t * x + a0 % t * x / t + 1 := IntWalk.u64_in _ (by omega)
            have t1 : a0.tdiv t = a0 / t := Int.tdiv_eq_ediv_of_nonneg b0.1
            have t2 : a0.tmod t = a0 % t := Int.tmod_eq_emod_of_nonneg b0.1
            have t3 : (a0 % t * x).tdiv t = a0 % t * x / t := Int.tdiv_eq_ediv_of_nonneg k6
            by_cases hxz : x = 0
            · have g1 : (x == 0) = true := by simpa using hxz
              have g2 : (y != 0) = false := by simpa using hnone hxz
              have g3 : (y != a0 / t * x + a0 % t * x / t) = false := by rw [hsz hxz]; simpa using hnone hxz
              clear hxz hnone hsz hnear hsa k1 k2 k3 k4 k5 k6 k7 k8 k9 k10
              go_wp2
              go_quiet (fail)
              go_wp2
              go_roundw
              case rel => exact ⟨i + 1, by omega, by go_num, by (repeat (first | exact Below.refl _ _ | refine Below.drew ?_ | refine bel_drewN ?_ _ | refine bel_alloc ?_ _ | refine bel_call ?_ (by assumption)))⟩
              case measure => simp [intOf]; omega
            · have g1 : (x == 0) = false := by simpa using hxz
              rcases hnear with hn | hn
              · have g3 : (y != a0 / t * x + a0 % t * x / t) = false := by simpa using hn
                clear hxz hnone hsz hn hsa k1 k2 k3 k4 k5 k6 k7 k8 k9 k10
                go_wp2
                go_quiet (fail)
                go_wp2
                go_roundw
                case rel => exact ⟨i + 1, by omega, by go_num, by (repeat (first | exact Below.refl _ _ | refine Below.drew ?_ | refine bel_drewN ?_ _ | refine bel_alloc ?_ _ | refine bel_call ?_ (by assumption)))⟩
                case measure => simp [intOf]; omega
              · have g3 : (y != a0 / t * x + a0 % t * x / t) = true := by rw [hn]; simp; omega
                have g4 : (y != a0 / t * x + a0 % t * x / t + 1) = false := by simpa using hn
                clear hxz hnone hsz hn hsa k1 k2 k3 k4 k5 k6 k7 k8 k9 k10
                go_wp2
                go_quiet (fail)
                go_wp2
                go_roundw
                case rel => exact ⟨i + 1, by omega, by go_num, by (repeat (first | exact Below.refl _ _ | refine Below.drew ?_ | refine bel_drewN ?_ _ | refine bel_alloc ?_ _ | refine bel_call ?_ (by assumption)))⟩
                case measure => simp [intOf]; omega
          · go_wp2
            go_ret
            exact ⟨rfl, bel_call HB hbel⟩
  · have E1 := hid h1
    have L1 := hid h2
    clear h1 h2
    go_enter Try.func6, Try.ntmps6
    go_wp2_with (first | (go_at_call 9; go_must (refine (liveM_any _).mono ?_; rintro e w1 ⟨rfl, hb1⟩)) | (go_at_call 18; go_must (refine (mSplit_any a0 _ _ _ _ x1 _ W0 (r1.below hb1) hb1.size).mono ?_; rw [E1.out, L1.out]; rintro e w2 ⟨v2, rfl, ho2, hb2⟩; obtain ⟨A2, n2, c2, rfl, r2⟩ := ho2.formN; have hn2 : n2 = 0 := r2.len.symm; subst hn2)))
    go_ret
    exact ⟨rfl, by (repeat (first | exact Below.refl _ _ | refine Below.drew ?_ | refine bel_drewN ?_ _ | refine bel_alloc ?_ _ | refine bel_call ?_ (by assumption)))⟩
end Go.Proofs.Ytegeggmjdhjkiaa
