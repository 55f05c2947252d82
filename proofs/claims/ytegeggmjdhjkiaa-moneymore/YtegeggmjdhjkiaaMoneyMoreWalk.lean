/-
  The walk of MoneyMore.
-/
import Derived.Test.YtegeggmjdhjkiaaMoneyLive
namespace Go.Proofs.Ytegeggmjdhjkiaa
open Go.RowKit Go.WalkArith

theorem split_same {a b : Int} {ws : List Int} (ha : a ≤ mMax) (hb : b ≤ mMax) : splitE a ws = splitE b ws := by
  unfold splitE
  simp [ha, hb]
theorem split_pts {a : Int} {ws : List Int} (h : splitE a ws = 0) : splitL a ws = ptsM a ws ws.length := if_pos h

set_option maxHeartbeats 4000000 in
theorem moneyMore_walk (a0 : Int) (A1 : Option Addr) (n1 c1 : Nat) (x1 : List Int) (w : World) (b0 : 0 ≤ a0 ∧ a0 ≤ 18446744073709551615) (r1 : Rd w w.heap.size .u64 A1 n1 c1 x1) :
    Calls Try.prog 8 #[.int .u64 a0, .slice A1 n1 c1] w fun e w' => e = .returned (.bool true) ∧ Below w.heap.size w w' := by
  have W0 := wf_u64 b0
  have hcap := r1.cap
  unfold maxLen at hcap
  have HL := hid r1.len
  by_cases hbig : 2305843009213693952 < a0
  · go_enter Try.func8, Try.ntmps8
    go_wp2_with (go_at_call 9; go_must (refine (liveM_any _).mono ?_; rintro e w1 ⟨rfl, hb1⟩))
    go_ret
    exact ⟨rfl, hb1⟩
  have hd : decide (2305843009213693952 < a0) = false := by simp; omega
  have hwr : IntKind.u64.wrap (2 * a0) = 2 * a0 := IntWalk.u64_in _ (by omega)
  have W2 : (Lit.int .u64 (2 * a0)).wf = true := wf_u64 (by omega)
  have hs2 : splitE (2 * a0) x1 = splitE a0 x1 := split_same (by unfold mMax; omega) (by unfold mMax; omega)
  have hs0 : splitE 0 x1 = splitE a0 x1 := split_same (by unfold mMax; omega) (by unfold mMax; omega)
  rcases splitE_cases (a := a0) (ws := x1) with ⟨h1, h2, h3, h4, h5, h6⟩ | ⟨h1, h2, -⟩
  · rw [h1] at hs2 hs0
    have E1 := hid h1
    have L1 := hid h6
    have E2 := hid hs2
    have L2 := hid (split_pts hs2)
    have E0 := hid hs0
    have L0 := hid (split_pts hs0)
    have hnn := nonneg_u64 r1.wf
    have hsp : 0 < sumM x1 := by have := sumM_nonneg hnn; omega
    have HX := hid hnn
    have HSP := hid hsp
    have hn64 : n1 ≤ 64 := by rw [← HL.out]; exact h3
    clear h1 h2 h3 h4 h5 h6 hnn hs2 hs0 hsp
    go_enter Try.func8, Try.ntmps8
    go_wp2_with (first | (go_at_call 9; go_must (refine (liveM_any _).mono ?_; rintro e w1 ⟨rfl, hb1⟩)) | (with_reducible refine (mSplit_any a0 _ _ _ _ x1 _ W0 (r1.below hb1) hb1.size).mono ?_; rw [E1.out, L1.out]; rintro e w2 ⟨v2, rfl, ho2, hb2⟩; obtain ⟨A2, n2, c2, rfl, r2⟩ := ho2.formN; have hn2 : n2 = n1 := r2.len.symm.trans ((ptsM_len a0 x1 x1.length).trans HL.out); subst hn2) | (with_reducible refine (mSplit_any (2 * a0) _ _ _ _ x1 _ W2 (r1.below (bel_call hb1 hb2)) (bel_call hb1 hb2).size).mono ?_; rw [E2.out, L2.out]; rintro e w3 ⟨v3, rfl, ho3, hb3⟩; obtain ⟨A3, n3, c3, rfl, r3⟩ := ho3.formN; have hn3 : n3 = n2 := r3.len.symm.trans ((ptsM_len (2 * a0) x1 x1.length).trans HL.out); subst hn3) | (with_reducible refine (mSplit_any 0 _ _ _ _ x1 _ (by decide) (r1.below (bel_call (bel_call hb1 hb2) hb3)) (bel_call (bel_call hb1 hb2) hb3).size).mono ?_; rw [E0.out, L0.out]; rintro e w4 ⟨v4, rfl, ho4, hb4⟩; obtain ⟨A4, n4, c4, rfl, r4⟩ := ho4.formN; have hn4 : n4 = n3 := r4.len.symm.trans ((ptsM_len 0 x1 x1.length).trans HL.out); subst hn4))
    have HB : Below w.heap.size w w4 := by (repeat (first | exact Below.refl _ _ | refine Below.drew ?_ | refine bel_drewN ?_ _ | refine bel_alloc ?_ _ | refine bel_call ?_ (by assumption)))
    have R2 := (r2.below (bel_call hb3 hb4)).more (bel_call hb3 hb4).size
    have R3 := (r3.below hb4).more hb4.size
    clear hb1 hb2 ho2 hb3 ho3 ho4 hb4 r2 r3 r1
    go_loopw [55] (fun i wr => ∃ j : Nat, j ≤ n4 ∧ i = .int .i64 j ∧ Below w4.heap.size w4 wr) (fun i _ => n4 - (intOf i).toNat)
    case atStart => exact ⟨0, Nat.zero_le _, rfl, Below.refl _ _⟩
    case round =>
      obtain ⟨j, hj, rfl, hbel⟩ := hrel
      by_cases hlt : j < n4
      · obtain ⟨p2, o2, rfl, hp2, hc2⟩ := R2.at_ (by omega)
        obtain ⟨p3, o3, rfl, hp3, hc3⟩ := R3.at_ (by omega)
        obtain ⟨p4, o4, rfl, hp4, hc4⟩ := r4.at_ (by omega)
        have q2 := (hbel.cell (p := ⟨p2, o2 + j, none⟩) hp2).trans (hc2 j hlt)
        have q3 := (hbel.cell (p := ⟨p3, o3 + j, none⟩) hp3).trans (hc3 j hlt)
        have q4 := (hbel.cell (p := ⟨p4, o4 + j, none⟩) hp4).trans (hc4 j hlt)
        have hix : j < x1.length := by rw [HL.out]; exact hlt
        rw [ptsM_nth _ x1 hix] at q2 q3 q4
        rw [partM_nothing] at q4
        have htw := partM_twice (a := a0) HSP.out j
        have l0 := partM_nonneg b0.1 HX.out HSP.out j
        have l1 := partM_le b0.1 HX.out HSP.out j
        have m0 := partM_nonneg (show 0 ≤ 2 * a0 by omega) HX.out HSP.out j
        have m1 := partM_le (show 0 ≤ 2 * a0 by omega) HX.out HSP.out j
        clear hc2 hc3 hc4 hix
        generalize partM a0 x1 j = l at *
        generalize partM (2 * a0) x1 j = m at *
        have k1 : IntKind.u64.wrap (m + 2) = m + 2 := IntWalk.u64_in _ (by omega)
        have k2 : IntKind.u64.wrap (2 * l) = 2 * l := IntWalk.u64_in _ (by omega)
        have k3 : IntKind.u64.wrap (2 * l + 2) = 2 * l + 2 := IntWalk.u64_in _ (by omega)
        have k4 : decide (m + 2 < 2 * l) = false := by simp; omega
        have k5 : decide (2 * l + 2 < m) = false := by simp; omega
        have k6 : decide ((n4 : Int) ≤ (j : Int)) = false := by simp; omega
        clear htw
        go_wp2
        go_quiet (fail)
        go_wp2
        go_roundw
        case rel => exact ⟨j + 1, by omega, by go_num, by (repeat (first | exact Below.refl _ _ | refine Below.drew ?_ | refine bel_drewN ?_ _ | refine bel_alloc ?_ _ | refine bel_call ?_ (by assumption)))⟩
        case measure => simp [intOf]; omega
      · go_wp2
        go_ret
        exact ⟨by simp, bel_call HB hbel⟩
  · rw [h1] at hs2 hs0
    have E1 := hid h1
    have L1 := hid h2
    have E2 := hid hs2
    have L2 := hid (show splitL (2 * a0) x1 = [] from if_neg (by rw [hs2]; decide))
    have E0 := hid hs0
    have L0 := hid (show splitL 0 x1 = [] from if_neg (by rw [hs0]; decide))
    clear h1 h2 hs2 hs0
    go_enter Try.func8, Try.ntmps8
    go_wp2_with (first | (go_at_call 9; go_must (refine (liveM_any _).mono ?_; rintro e w1 ⟨rfl, hb1⟩)) | (with_reducible refine (mSplit_any a0 _ _ _ _ x1 _ W0 (r1.below hb1) hb1.size).mono ?_; rw [E1.out, L1.out]; rintro e w2 ⟨v2, rfl, ho2, hb2⟩; obtain ⟨A2, n2, c2, rfl, r2⟩ := ho2.formN; have hn2 : n2 = 0 := r2.len.symm.trans List.length_nil; subst hn2) | (with_reducible refine (mSplit_any (2 * a0) _ _ _ _ x1 _ W2 (r1.below (bel_call hb1 hb2)) (bel_call hb1 hb2).size).mono ?_; rw [E2.out, L2.out]; rintro e w3 ⟨v3, rfl, ho3, hb3⟩; obtain ⟨A3, n3, c3, rfl, r3⟩ := ho3.formN; have hn3 : n3 = 0 := r3.len.symm.trans List.length_nil; subst hn3) | (with_reducible refine (mSplit_any 0 _ _ _ _ x1 _ (by decide) (r1.below (bel_call (bel_call hb1 hb2) hb3)) (bel_call (bel_call hb1 hb2) hb3).size).mono ?_; rw [E0.out, L0.out]; rintro e w4 ⟨v4, rfl, ho4, hb4⟩; obtain ⟨A4, n4, c4, rfl, r4⟩ := ho4.formN; have hn4 : n4 = 0 := r4.len.symm.trans List.length_nil; subst hn4))
    go_ret
    exact ⟨by simp, by (repeat (first | exact Below.refl _ _ | refine Below.drew ?_ | refine bel_drewN ?_ _ | refine bel_alloc ?_ _ | refine bel_call ?_ (by assumption)))⟩
end Go.Proofs.Ytegeggmjdhjkiaa
