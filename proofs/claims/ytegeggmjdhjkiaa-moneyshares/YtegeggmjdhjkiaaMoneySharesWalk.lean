/-
  The walk of MoneyShares.
-/
import Derived.Test.YtegeggmjdhjkiaaMoneyLive
namespace Go.Proofs.Ytegeggmjdhjkiaa
open Go.RowKit Go.WalkArith

theorem shares_ends (a : Int) : shareN a 0 = 0 ∧ ((shareE a 1000000 = 0 ∧ shareE a 0 = 0 ∧ shareN a 1000000 = a ∧ a ≤ mMax) ∨ (shareE a 1000000 = 1 ∧ shareE a 0 = 1 ∧ shareN a 1000000 = 0 ∧ ¬ a ≤ mMax)) := by
  refine ⟨by rw [shareN, scl_zero]; split <;> rfl, ?_⟩
  by_cases h : a ≤ mMax
  · have e : shareE a 1000000 = 0 := if_pos ⟨h, Int.le_refl _⟩
    exact .inl ⟨e, if_pos ⟨h, by decide⟩, by rw [shareN, if_pos e, scl_all _ _ (by decide)], h⟩
  · have e : shareE a 1000000 = 1 := if_neg fun k => h k.1
    exact .inr ⟨e, if_neg fun k => h k.1, by rw [shareN, if_neg (by rw [e]; decide)], h⟩

set_option maxHeartbeats 2000000 in
theorem shares_bad (a0 a1 a2 a3 : Int) (w : World) (b0 : 0 ≤ a0 ∧ a0 ≤ 18446744073709551615) (b1 : 0 ≤ a1 ∧ a1 ≤ 18446744073709551615) (b2 : 0 ≤ a2 ∧ a2 ≤ 18446744073709551615) (b3 : 0 ≤ a3 ∧ a3 ≤ 18446744073709551615) (k1 k2 k3 kM kF x y z nM nF : Int) (E1 : Hid (shareE a0 a2 = k1)) (E2 : Hid (shareE a0 a3 = k2)) (E3 : Hid (shareE a1 a2 = k3)) (EM : Hid (shareE a0 1000000 = kM)) (EZ : Hid (shareE a0 0 = kM)) (NM : Hid (shareN a0 1000000 = nM)) (NZ : Hid (shareN a0 0 = 0)) (EF : Hid (feeE a1 a2 a0 = kF)) (NF : Hid (feeN a1 a2 a0 = nF)) (N1 : Hid (shareN a0 a2 = x)) (N2 : Hid (shareN a0 a3 = y)) (N3 : Hid (shareN a1 a2 = z)) (hk1 : (k1 == 0) = false) (hF : (kF != 0) = true) (hnF : (nF == 0) = true) (hM : (kM == 0) = true ∧ (nM != a0) = false ∨ (kM == 0) = false) :
    Calls Try.prog 5 #[.int .u64 a0, .int .u64 a1, .int .u64 a2, .int .u64 a3] w fun e w' => e = .returned (.bool true) ∧ Below w.heap.size w w' := by
  have W0 := wf_u64 b0
  have W1 := wf_u64 b1
  have W2 := wf_u64 b2
  have W3 := wf_u64 b3
  have hMM : (kM != kM) = false := by simp
  rcases hM with ⟨hM, hM2⟩ | hM
  · go_enter Try.func5, Try.ntmps5
    go_wp2_with (first | (go_at_call 9; go_must (refine (liveM_any _).mono ?_; rintro e w1 ⟨rfl, hb1⟩)) | (with_reducible refine (mShare_any a0 a2 _ W0 W2).mono ?_; rw [E1.out, N1.out]; rintro e w2 ⟨rfl, hb2⟩) | (with_reducible refine (mShare_any a0 a3 _ W0 W3).mono ?_; rw [E2.out, N2.out]; rintro e w3 ⟨rfl, hb3⟩) | (with_reducible refine (mShare_any a1 a2 _ W1 W2).mono ?_; rw [E3.out, N3.out]; rintro e w4 ⟨rfl, hb4⟩) | (with_reducible refine (mShare_any a0 1000000 _ W0 (by decide)).mono ?_; rw [EM.out, NM.out]; rintro e w5 ⟨rfl, hb5⟩) | (with_reducible refine (mShare_any a0 0 _ W0 (by decide)).mono ?_; rw [EZ.out, NZ.out]; rintro e w6 ⟨rfl, hb6⟩) | (with_reducible refine (mFee_any a1 a2 a0 _ W1 W2 W0).mono ?_; rw [EF.out, NF.out]; rintro e w7 ⟨rfl, hb7⟩))
    go_ret
    exact ⟨rfl, by (repeat (first | exact Below.refl _ _ | refine Below.drew ?_ | refine bel_drewN ?_ _ | refine bel_alloc ?_ _ | refine bel_call ?_ (by assumption)))⟩
  · go_enter Try.func5, Try.ntmps5
    go_wp2_with (first | (go_at_call 9; go_must (refine (liveM_any _).mono ?_; rintro e w1 ⟨rfl, hb1⟩)) | (with_reducible refine (mShare_any a0 a2 _ W0 W2).mono ?_; rw [E1.out, N1.out]; rintro e w2 ⟨rfl, hb2⟩) | (with_reducible refine (mShare_any a0 a3 _ W0 W3).mono ?_; rw [E2.out, N2.out]; rintro e w3 ⟨rfl, hb3⟩) | (with_reducible refine (mShare_any a1 a2 _ W1 W2).mono ?_; rw [E3.out, N3.out]; rintro e w4 ⟨rfl, hb4⟩) | (with_reducible refine (mShare_any a0 1000000 _ W0 (by decide)).mono ?_; rw [EM.out, NM.out]; rintro e w5 ⟨rfl, hb5⟩) | (with_reducible refine (mShare_any a0 0 _ W0 (by decide)).mono ?_; rw [EZ.out, NZ.out]; rintro e w6 ⟨rfl, hb6⟩) | (with_reducible refine (mFee_any a1 a2 a0 _ W1 W2 W0).mono ?_; rw [EF.out, NF.out]; rintro e w7 ⟨rfl, hb7⟩))
    go_ret
    exact ⟨rfl, by (repeat (first | exact Below.refl _ _ | refine Below.drew ?_ | refine bel_drewN ?_ _ | refine bel_alloc ?_ _ | refine bel_call ?_ (by assumption)))⟩
set_option maxHeartbeats 8000000 in
theorem shares_good (a0 a1 a2 a3 : Int) (w : World) (b0 : 0 ≤ a0 ∧ a0 ≤ 18446744073709551615) (b1 : 0 ≤ a1 ∧ a1 ≤ 18446744073709551615) (b2 : 0 ≤ a2 ∧ a2 ≤ 18446744073709551615) (b3 : 0 ≤ a3 ∧ a3 ≤ 18446744073709551615) (k1 k2 k3 kM kF x y z nM nF : Int) (E1 : Hid (shareE a0 a2 = k1)) (E2 : Hid (shareE a0 a3 = k2)) (E3 : Hid (shareE a1 a2 = k3)) (EM : Hid (shareE a0 1000000 = kM)) (EZ : Hid (shareE a0 0 = kM)) (NM : Hid (shareN a0 1000000 = nM)) (NZ : Hid (shareN a0 0 = 0)) (EF : Hid (feeE a1 a2 a0 = kF)) (NF : Hid (feeN a1 a2 a0 = nF)) (N1 : Hid (shareN a0 a2 = x)) (N2 : Hid (shareN a0 a3 = y)) (N3 : Hid (shareN a1 a2 = z)) (hk1 : (k1 == 0) = true) (hM : (kM == 0) = true) (hM2 : (nM != a0) = false)
    (hx : decide (a0 < x) = false) (h2 : (k2 == 0) = false ∨ (k2 == 0) = true ∧ decide (a2 ≤ a3) = false ∨ (k2 == 0) = true ∧ decide (a2 ≤ a3) = true ∧ decide (y < x) = false)
    (h3 : (k3 == 0) = false ∨ (k3 == 0) = true ∧ decide (a0 ≤ a1) = false ∨ (k3 == 0) = true ∧ decide (a0 ≤ a1) = true ∧ decide (z < x) = false)
    (hF : (kF != 0) = true ∧ (nF == 0) = true ∨ (kF != 0) = false ∧ (kF == 0) = true ∧ IntKind.u64.wrap (a1 + x) = a1 + x ∧ (nF == a1 + x) = true) :
    Calls Try.prog 5 #[.int .u64 a0, .int .u64 a1, .int .u64 a2, .int .u64 a3] w fun e w' => e = .returned (.bool true) ∧ Below w.heap.size w w' := by
  have W0 := wf_u64 b0
  have W1 := wf_u64 b1
  have W2 := wf_u64 b2
  have W3 := wf_u64 b3
  have hMM : (kM != kM) = false := by simp
  rcases hF with ⟨f1, f2⟩ | ⟨f1, f2, f3, f4⟩
  · rcases h2 with h2 | ⟨h2, h2'⟩ | ⟨h2, h2', h2''⟩
    · rcases h3 with h3 | ⟨h3, h3'⟩ | ⟨h3, h3', h3''⟩
      · go_enter Try.func5, Try.ntmps5
        go_wp2_with (first | (go_at_call 9; go_must (refine (liveM_any _).mono ?_; rintro e w1 ⟨rfl, hb1⟩)) | (with_reducible refine (mShare_any a0 a2 _ W0 W2).mono ?_; rw [E1.out, N1.out]; rintro e w2 ⟨rfl, hb2⟩) | (with_reducible refine (mShare_any a0 a3 _ W0 W3).mono ?_; rw [E2.out, N2.out]; rintro e w3 ⟨rfl, hb3⟩) | (with_reducible refine (mShare_any a1 a2 _ W1 W2).mono ?_; rw [E3.out, N3.out]; rintro e w4 ⟨rfl, hb4⟩) | (with_reducible refine (mShare_any a0 1000000 _ W0 (by decide)).mono ?_; rw [EM.out, NM.out]; rintro e w5 ⟨rfl, hb5⟩) | (with_reducible refine (mShare_any a0 0 _ W0 (by decide)).mono ?_; rw [EZ.out, NZ.out]; rintro e w6 ⟨rfl, hb6⟩) | (with_reducible refine (mFee_any a1 a2 a0 _ W1 W2 W0).mono ?_; rw [EF.out, NF.out]; rintro e w7 ⟨rfl, hb7⟩))
        go_ret
        exact ⟨rfl, by (repeat (first | exact Below.refl _ _ | refine Below.drew ?_ | refine bel_drewN ?_ _ | refine bel_alloc ?_ _ | refine bel_call ?_ (by assumption)))⟩
      · go_enter Try.func5, Try.ntmps5
        go_wp2_with (first | (go_at_call 9; go_must (refine (liveM_any _).mono ?_; rintro e w1 ⟨rfl, hb1⟩)) | (with_reducible refine (mShare_any a0 a2 _ W0 W2).mono ?_; rw [E1.out, N1.out]; rintro e w2 ⟨rfl, hb2⟩) | (with_reducible refine (mShare_any a0 a3 _ W0 W3).mono ?_; rw [E2.out, N2.out]; rintro e w3 ⟨rfl, hb3⟩) | (with_reducible refine (mShare_any a1 a2 _ W1 W2).mono ?_; rw [E3.out, N3.out]; rintro e w4 ⟨rfl, hb4⟩) | (with_reducible refine (mShare_any a0 1000000 _ W0 (by decide)).mono ?_; rw [EM.out, NM.out]; rintro e w5 ⟨rfl, hb5⟩) | (with_reducible refine (mShare_any a0 0 _ W0 (by decide)).mono ?_; rw [EZ.out, NZ.out]; rintro e w6 ⟨rfl, hb6⟩) | (with_reducible refine (mFee_any a1 a2 a0 _ W1 W2 W0).mono ?_; rw [EF.out, NF.out]; rintro e w7 ⟨rfl, hb7⟩))
        go_ret
        exact ⟨rfl, by (repeat (first | exact Below.refl _ _ | refine Below.drew ?_ | refine bel_drewN ?_ _ | refine bel_alloc ?_ _ | refine bel_call ?_ (by assumption)))⟩
      · go_enter Try.func5, Try.ntmps5
        go_wp2_with (first | (go_at_call 9; go_must (refine (liveM_any _).mono ?_; rintro e w1 ⟨rfl, hb1⟩)) | (with_reducible refine (mShare_any a0 a2 _ W0 W2).mono ?_; rw [E1.out, N1.out]; rintro e w2 ⟨rfl, hb2⟩) | (with_reducible refine (mShare_any a0 a3 _ W0 W3).mono ?_; rw [E2.out, N2.out]; rintro e w3 ⟨rfl, hb3⟩) | (with_reducible refine (mShare_any a1 a2 _ W1 W2).mono ?_; rw [E3.out, N3.out]; rintro e w4 ⟨rfl, hb4⟩) | (with_reducible refine (mShare_any a0 1000000 _ W0 (by decide)).mono ?_; rw [EM.out, NM.out]; rintro e w5 ⟨rfl, hb5⟩) | (with_reducible refine (mShare_any a0 0 _ W0 (by decide)).mono ?_; rw [EZ.out, NZ.out]; rintro e w6 ⟨rfl, hb6⟩) | (with_reducible refine (mFee_any a1 a2 a0 _ W1 W2 W0).mono ?_; rw [EF.out, NF.out]; rintro e w7 ⟨rfl, hb7⟩))
        go_ret
        exact ⟨rfl, by (repeat (first | exact Below.refl _ _ | refine Below.drew ?_ | refine bel_drewN ?_ _ | refine bel_alloc ?_ _ | refine bel_call ?_ (by assumption)))⟩
    · rcases h3 with h3 | ⟨h3, h3'⟩ | ⟨h3, h3', h3''⟩
      · go_enter Try.func5, Try.ntmps5
        go_wp2_with (first | (go_at_call 9; go_must (refine (liveM_any _).mono ?_; rintro e w1 ⟨rfl, hb1⟩)) | (with_reducible refine (mShare_any a0 a2 _ W0 W2).mono ?_; rw [E1.out, N1.out]; rintro e w2 ⟨rfl, hb2⟩) | (with_reducible refine (mShare_any a0 a3 _ W0 W3).mono ?_; rw [E2.out, N2.out]; rintro e w3 ⟨rfl, hb3⟩) | (with_reducible refine (mShare_any a1 a2 _ W1 W2).mono ?_; rw [E3.out, N3.out]; rintro e w4 ⟨rfl, hb4⟩) | (with_reducible refine (mShare_any a0 1000000 _ W0 (by decide)).mono ?_; rw [EM.out, NM.out]; rintro e w5 ⟨rfl, hb5⟩) | (with_reducible refine (mShare_any a0 0 _ W0 (by decide)).mono ?_; rw [EZ.out, NZ.out]; rintro e w6 ⟨rfl, hb6⟩) | (with_reducible refine (mFee_any a1 a2 a0 _ W1 W2 W0).mono ?_; rw [EF.out, NF.out]; rintro e w7 ⟨rfl, hb7⟩))
        go_ret
        exact ⟨rfl, by (repeat (first | exact Below.refl _ _ | refine Below.drew ?_ | refine bel_drewN ?_ _ | refine bel_alloc ?_ _ | refine bel_call ?_ (by assumption)))⟩
      · go_enter Try.func5, Try.ntmps5
        go_wp2_with (first | (go_at_call 9; go_must (refine (liveM_any _).mono ?_; rintro e w1 ⟨rfl, hb1⟩)) | (with_reducible refine (mShare_any a0 a2 _ W0 W2).mono ?_; rw [E1.out, N1.out]; rintro e w2 ⟨rfl, hb2⟩) | (with_reducible refine (mShare_any a0 a3 _ W0 W3).mono ?_; rw [E2.out, N2.out]; rintro e w3 ⟨rfl, hb3⟩) | (with_reducible refine (mShare_any a1 a2 _ W1 W2).mono ?_; rw [E3.out, N3.out]; rintro e w4 ⟨rfl, hb4⟩) | (with_reducible refine (mShare_any a0 1000000 _ W0 (by decide)).mono ?_; rw [EM.out, NM.out]; rintro e w5 ⟨rfl, hb5⟩) | (with_reducible refine (mShare_any a0 0 _ W0 (by decide)).mono ?_; rw [EZ.out, NZ.out]; rintro e w6 ⟨rfl, hb6⟩) | (with_reducible refine (mFee_any a1 a2 a0 _ W1 W2 W0).mono ?_; rw [EF.out, NF.out]; rintro e w7 ⟨rfl, hb7⟩))
        go_ret
        exact ⟨rfl, by (repeat (first | exact Below.refl _ _ | refine Below.drew ?_ | refine bel_drewN ?_ _ | refine bel_alloc ?_ _ | refine bel_call ?_ (by assumption)))⟩
      · go_enter Try.func5, Try.ntmps5
        go_wp2_with (first | (go_at_call 9; go_must (refine (liveM_any _).mono ?_; rintro e w1 ⟨rfl, hb1⟩)) | (with_reducible refine (mShare_any a0 a2 _ W0 W2).mono ?_; rw [E1.out, N1.out]; rintro e w2 ⟨rfl, hb2⟩) | (with_reducible refine (mShare_any a0 a3 _ W0 W3).mono ?_; rw [E2.out, N2.out]; rintro e w3 ⟨rfl, hb3⟩) | (with_reducible refine (mShare_any a1 a2 _ W1 W2).mono ?_; rw [E3.out, N3.out]; rintro e w4 ⟨rfl, hb4⟩) | (with_reducible refine (mShare_any a0 1000000 _ W0 (by decide)).mono ?_; rw [EM.out, NM.out]; rintro e w5 ⟨rfl, hb5⟩) | (with_reducible refine (mShare_any a0 0 _ W0 (by decide)).mono ?_; rw [EZ.out, NZ.out]; rintro e w6 ⟨rfl, hb6⟩) | (with_reducible refine (mFee_any a1 a2 a0 _ W1 W2 W0).mono ?_; rw [EF.out, NF.out]; rintro e w7 ⟨rfl, hb7⟩))
        go_ret
        exact ⟨rfl, by (repeat (first | exact Below.refl _ _ | refine Below.drew ?_ | refine bel_drewN ?_ _ | refine bel_alloc ?_ _ | refine bel_call ?_ (by assumption)))⟩
    · rcases h3 with h3 | ⟨h3, h3'⟩ | ⟨h3, h3', h3''⟩
      · go_enter Try.func5, Try.ntmps5
        go_wp2_with (first | (go_at_call 9; go_must (refine (liveM_any _).mono ?_; rintro e w1 ⟨rfl, hb1⟩)) | (with_reducible refine (mShare_any a0 a2 _ W0 W2).mono ?_; rw [E1.out, N1.out]; rintro e w2 ⟨rfl, hb2⟩) | (with_reducible refine (mShare_any a0 a3 _ W0 W3).mono ?_; rw [E2.out, N2.out]; rintro e w3 ⟨rfl, hb3⟩) | (with_reducible refine (mShare_any a1 a2 _ W1 W2).mono ?_; rw [E3.out, N3.out]; rintro e w4 ⟨rfl, hb4⟩) | (with_reducible refine (mShare_any a0 1000000 _ W0 (by decide)).mono ?_; rw [EM.out, NM.out]; rintro e w5 ⟨rfl, hb5⟩) | (with_reducible refine (mShare_any a0 0 _ W0 (by decide)).mono ?_; rw [EZ.out, NZ.out]; rintro e w6 ⟨rfl, hb6⟩) | (with_reducible refine (mFee_any a1 a2 a0 _ W1 W2 W0).mono ?_; rw [EF.out, NF.out]; rintro e w7 ⟨rfl, hb7⟩))
        go_ret
        exact ⟨rfl, by (repeat (first | exact Below.refl _ _ | refine Below.drew ?_ | refine bel_drewN ?_ _ | refine bel_alloc ?_ _ | refine bel_call ?_ (by assumption)))⟩
      · go_enter Try.func5, Try.ntmps5
        go_wp2_with (first | (go_at_call 9; go_must (refine (liveM_any _).mono ?_; rintro e w1 ⟨rfl, hb1⟩)) | (with_reducible refine (mShare_any a0 a2 _ W0 W2).mono ?_; rw [E1.out, N1.out]; rintro e w2 ⟨rfl, hb2⟩) | (with_reducible refine (mShare_any a0 a3 _ W0 W3).mono ?_; rw [E2.out, N2.out]; rintro e w3 ⟨rfl, hb3⟩) | (with_reducible refine (mShare_any a1 a2 _ W1 W2).mono ?_; rw [E3.out, N3.out]; rintro e w4 ⟨rfl, hb4⟩) | (with_reducible refine (mShare_any a0 1000000 _ W0 (by decide)).mono ?_; rw [EM.out, NM.out]; rintro e w5 ⟨rfl, hb5⟩) | (with_reducible refine (mShare_any a0 0 _ W0 (by decide)).mono ?_; rw [EZ.out, NZ.out]; rintro e w6 ⟨rfl, hb6⟩) | (with_reducible refine (mFee_any a1 a2 a0 _ W1 W2 W0).mono ?_; rw [EF.out, NF.out]; rintro e w7 ⟨rfl, hb7⟩))
        go_ret
        exact ⟨rfl, by (repeat (first | exact Below.refl _ _ | refine Below.drew ?_ | refine bel_drewN ?_ _ | refine bel_alloc ?_ _ | refine bel_call ?_ (by assumption)))⟩
      · go_enter Try.func5, Try.ntmps5
        go_wp2_with (first | (go_at_call 9; go_must (refine (liveM_any _).mono ?_; rintro e w1 ⟨rfl, hb1⟩)) | (with_reducible refine (mShare_any a0 a2 _ W0 W2).mono ?_; rw [E1.out, N1.out]; rintro e w2 ⟨rfl, hb2⟩) | (with_reducible refine (mShare_any a0 a3 _ W0 W3).mono ?_; rw [E2.out, N2.out]; rintro e w3 ⟨rfl, hb3⟩) | (with_reducible refine (mShare_any a1 a2 _ W1 W2).mono ?_; rw [E3.out, N3.out]; rintro e w4 ⟨rfl, hb4⟩) | (with_reducible refine (mShare_any a0 1000000 _ W0 (by decide)).mono ?_; rw [EM.out, NM.out]; rintro e w5 ⟨rfl, hb5⟩) | (with_reducible refine (mShare_any a0 0 _ W0 (by decide)).mono ?_; rw [EZ.out, NZ.out]; rintro e w6 ⟨rfl, hb6⟩) | (with_reducible refine (mFee_any a1 a2 a0 _ W1 W2 W0).mono ?_; rw [EF.out, NF.out]; rintro e w7 ⟨rfl, hb7⟩))
        go_ret
        exact ⟨rfl, by (repeat (first | exact Below.refl _ _ | refine Below.drew ?_ | refine bel_drewN ?_ _ | refine bel_alloc ?_ _ | refine bel_call ?_ (by assumption)))⟩
  · rcases h2 with h2 | ⟨h2, h2'⟩ | ⟨h2, h2', h2''⟩
    · rcases h3 with h3 | ⟨h3, h3'⟩ | ⟨h3, h3', h3''⟩
      · go_enter Try.func5, Try.ntmps5
        go_wp2_with (first | (go_at_call 9; go_must (refine (liveM_any _).mono ?_; rintro e w1 ⟨rfl, hb1⟩)) | (with_reducible refine (mShare_any a0 a2 _ W0 W2).mono ?_; rw [E1.out, N1.out]; rintro e w2 ⟨rfl, hb2⟩) | (with_reducible refine (mShare_any a0 a3 _ W0 W3).mono ?_; rw [E2.out, N2.out]; rintro e w3 ⟨rfl, hb3⟩) | (with_reducible refine (mShare_any a1 a2 _ W1 W2).mono ?_; rw [E3.out, N3.out]; rintro e w4 ⟨rfl, hb4⟩) | (with_reducible refine (mShare_any a0 1000000 _ W0 (by decide)).mono ?_; rw [EM.out, NM.out]; rintro e w5 ⟨rfl, hb5⟩) | (with_reducible refine (mShare_any a0 0 _ W0 (by decide)).mono ?_; rw [EZ.out, NZ.out]; rintro e w6 ⟨rfl, hb6⟩) | (with_reducible refine (mFee_any a1 a2 a0 _ W1 W2 W0).mono ?_; rw [EF.out, NF.out]; rintro e w7 ⟨rfl, hb7⟩))
        go_ret
        exact ⟨rfl, by (repeat (first | exact Below.refl _ _ | refine Below.drew ?_ | refine bel_drewN ?_ _ | refine bel_alloc ?_ _ | refine bel_call ?_ (by assumption)))⟩
      · go_enter Try.func5, Try.ntmps5
        go_wp2_with (first | (go_at_call 9; go_must (refine (liveM_any _).mono ?_; rintro e w1 ⟨rfl, hb1⟩)) | (with_reducible refine (mShare_any a0 a2 _ W0 W2).mono ?_; rw [E1.out, N1.out]; rintro e w2 ⟨rfl, hb2⟩) | (with_reducible refine (mShare_any a0 a3 _ W0 W3).mono ?_; rw [E2.out, N2.out]; rintro e w3 ⟨rfl, hb3⟩) | (with_reducible refine (mShare_any a1 a2 _ W1 W2).mono ?_; rw [E3.out, N3.out]; rintro e w4 ⟨rfl, hb4⟩) | (with_reducible refine (mShare_any a0 1000000 _ W0 (by decide)).mono ?_; rw [EM.out, NM.out]; rintro e w5 ⟨rfl, hb5⟩) | (with_reducible refine (mShare_any a0 0 _ W0 (by decide)).mono ?_; rw [EZ.out, NZ.out]; rintro e w6 ⟨rfl, hb6⟩) | (with_reducible refine (mFee_any a1 a2 a0 _ W1 W2 W0).mono ?_; rw [EF.out, NF.out]; rintro e w7 ⟨rfl, hb7⟩))
        go_ret
        exact ⟨rfl, by (repeat (first | exact Below.refl _ _ | refine Below.drew ?_ | refine bel_drewN ?_ _ | refine bel_alloc ?_ _ | refine bel_call ?_ (by assumption)))⟩
      · go_enter Try.func5, Try.ntmps5
        go_wp2_with (first | (go_at_call 9; go_must (refine (liveM_any _).mono ?_; rintro e w1 ⟨rfl, hb1⟩)) | (with_reducible refine (mShare_any a0 a2 _ W0 W2).mono ?_; rw [E1.out, N1.out]; rintro e w2 ⟨rfl, hb2⟩) | (with_reducible refine (mShare_any a0 a3 _ W0 W3).mono ?_; rw [E2.out, N2.out]; rintro e w3 ⟨rfl, hb3⟩) | (with_reducible refine (mShare_any a1 a2 _ W1 W2).mono ?_; rw [E3.out, N3.out]; rintro e w4 ⟨rfl, hb4⟩) | (with_reducible refine (mShare_any a0 1000000 _ W0 (by decide)).mono ?_; rw [EM.out, NM.out]; rintro e w5 ⟨rfl, hb5⟩) | (with_reducible refine (mShare_any a0 0 _ W0 (by decide)).mono ?_; rw [EZ.out, NZ.out]; rintro e w6 ⟨rfl, hb6⟩) | (with_reducible refine (mFee_any a1 a2 a0 _ W1 W2 W0).mono ?_; rw [EF.out, NF.out]; rintro e w7 ⟨rfl, hb7⟩))
        go_ret
        exact ⟨rfl, by (repeat (first | exact Below.refl _ _ | refine Below.drew ?_ | refine bel_drewN ?_ _ | refine bel_alloc ?_ _ | refine bel_call ?_ (by assumption)))⟩
    · rcases h3 with h3 | ⟨h3, h3'⟩ | ⟨h3, h3', h3''⟩
      · go_enter Try.func5, Try.ntmps5
        go_wp2_with (first | (go_at_call 9; go_must (refine (liveM_any _).mono ?_; rintro e w1 ⟨rfl, hb1⟩)) | (with_reducible refine (mShare_any a0 a2 _ W0 W2).mono ?_; rw [E1.out, N1.out]; rintro e w2 ⟨rfl, hb2⟩) | (with_reducible refine (mShare_any a0 a3 _ W0 W3).mono ?_; rw [E2.out, N2.out]; rintro e w3 ⟨rfl, hb3⟩) | (with_reducible refine (mShare_any a1 a2 _ W1 W2).mono ?_; rw [E3.out, N3.out]; rintro e w4 ⟨rfl, hb4⟩) | (with_reducible refine (mShare_any a0 1000000 _ W0 (by decide)).mono ?_; rw [EM.out, NM.out]; rintro e w5 ⟨rfl, hb5⟩) | (with_reducible refine (mShare_any a0 0 _ W0 (by decide)).mono ?_; rw [EZ.out, NZ.out]; rintro e w6 ⟨rfl, hb6⟩) | (with_reducible refine (mFee_any a1 a2 a0 _ W1 W2 W0).mono ?_; rw [EF.out, NF.out]; rintro e w7 ⟨rfl, hb7⟩))
        go_ret
        exact ⟨rfl, by (repeat (first | exact Below.refl _ _ | refine Below.drew ?_ | refine bel_drewN ?_ _ | refine bel_alloc ?_ _ | refine bel_call ?_ (by assumption)))⟩
      · go_enter Try.func5, Try.ntmps5
        go_wp2_with (first | (go_at_call 9; go_must (refine (liveM_any _).mono ?_; rintro e w1 ⟨rfl, hb1⟩)) | (with_reducible refine (mShare_any a0 a2 _ W0 W2).mono ?_; rw [E1.out, N1.out]; rintro e w2 ⟨rfl, hb2⟩) | (with_reducible refine (mShare_any a0 a3 _ W0 W3).mono ?_; rw [E2.out, N2.out]; rintro e w3 ⟨rfl, hb3⟩) | (with_reducible refine (mShare_any a1 a2 _ W1 W2).mono ?_; rw [E3.out, N3.out]; rintro e w4 ⟨rfl, hb4⟩) | (with_reducible refine (mShare_any a0 1000000 _ W0 (by decide)).mono ?_; rw [EM.out, NM.out]; rintro e w5 ⟨rfl, hb5⟩) | (with_reducible refine (mShare_any a0 0 _ W0 (by decide)).mono ?_; rw [EZ.out, NZ.out]; rintro e w6 ⟨rfl, hb6⟩) | (with_reducible refine (mFee_any a1 a2 a0 _ W1 W2 W0).mono ?_; rw [EF.out, NF.out]; rintro e w7 ⟨rfl, hb7⟩))
        go_ret
        exact ⟨rfl, by (repeat (first | exact Below.refl _ _ | refine Below.drew ?_ | refine bel_drewN ?_ _ | refine bel_alloc ?_ _ | refine bel_call ?_ (by assumption)))⟩
      · go_enter Try.func5, Try.ntmps5
        go_wp2_with (first | (go_at_call 9; go_must (refine (liveM_any _).mono ?_; rintro e w1 ⟨rfl, hb1⟩)) | (with_reducible refine (mShare_any a0 a2 _ W0 W2).mono ?_; rw [E1.out, N1.out]; rintro e w2 ⟨rfl, hb2⟩) | (with_reducible refine (mShare_any a0 a3 _ W0 W3).mono ?_; rw [E2.out, N2.out]; rintro e w3 ⟨rfl, hb3⟩) | (with_reducible refine (mShare_any a1 a2 _ W1 W2).mono ?_; rw [E3.out, N3.out]; rintro e w4 ⟨rfl, hb4⟩) | (with_reducible refine (mShare_any a0 1000000 _ W0 (by decide)).mono ?_; rw [EM.out, NM.out]; rintro e w5 ⟨rfl, hb5⟩) | (with_reducible refine (mShare_any a0 0 _ W0 (by decide)).mono ?_; rw [EZ.out, NZ.out]; rintro e w6 ⟨rfl, hb6⟩) | (with_reducible refine (mFee_any a1 a2 a0 _ W1 W2 W0).mono ?_; rw [EF.out, NF.out]; rintro e w7 ⟨rfl, hb7⟩))
        go_ret
        exact ⟨rfl, by (repeat (first | exact Below.refl _ _ | refine Below.drew ?_ | refine bel_drewN ?_ _ | refine bel_alloc ?_ _ | refine bel_call ?_ (by assumption)))⟩
    · rcases h3 with h3 | ⟨h3, h3'⟩ | ⟨h3, h3', h3''⟩
      · go_enter Try.func5, Try.ntmps5
        go_wp2_with (first | (go_at_call 9; go_must (refine (liveM_any _).mono ?_; rintro e w1 ⟨rfl, hb1⟩)) | (with_reducible refine (mShare_any a0 a2 _ W0 W2).mono ?_; rw [E1.out, N1.out]; rintro e w2 ⟨rfl, hb2⟩) | (with_reducible refine (mShare_any a0 a3 _ W0 W3).mono ?_; rw [E2.out, N2.out]; rintro e w3 ⟨rfl, hb3⟩) | (with_reducible refine (mShare_any a1 a2 _ W1 W2).mono ?_; rw [E3.out, N3.out]; rintro e w4 ⟨rfl, hb4⟩) | (with_reducible refine (mShare_any a0 1000000 _ W0 (by decide)).mono ?_; rw [EM.out, NM.out]; rintro e w5 ⟨rfl, hb5⟩) | (with_reducible refine (mShare_any a0 0 _ W0 (by decide)).mono ?_; rw [EZ.out, NZ.out]; rintro e w6 ⟨rfl, hb6⟩) | (with_reducible refine (mFee_any a1 a2 a0 _ W1 W2 W0).mono ?_; rw [EF.out, NF.out]; rintro e w7 ⟨rfl, hb7⟩))
        go_ret
        exact ⟨rfl, by (repeat (first | exact Below.refl _ _ | refine Below.drew ?_ | refine bel_drewN ?_ _ | refine bel_alloc ?_ _ | refine bel_call ?_ (by assumption)))⟩
      · go_enter Try.func5, Try.ntmps5
        go_wp2_with (first | (go_at_call 9; go_must (refine (liveM_any _).mono ?_; rintro e w1 ⟨rfl, hb1⟩)) | (with_reducible refine (mShare_any a0 a2 _ W0 W2).mono ?_; rw [E1.out, N1.out]; rintro e w2 ⟨rfl, hb2⟩) | (with_reducible refine (mShare_any a0 a3 _ W0 W3).mono ?_; rw [E2.out, N2.out]; rintro e w3 ⟨rfl, hb3⟩) | (with_reducible refine (mShare_any a1 a2 _ W1 W2).mono ?_; rw [E3.out, N3.out]; rintro e w4 ⟨rfl, hb4⟩) | (with_reducible refine (mShare_any a0 1000000 _ W0 (by decide)).mono ?_; rw [EM.out, NM.out]; rintro e w5 ⟨rfl, hb5⟩) | (with_reducible refine (mShare_any a0 0 _ W0 (by decide)).mono ?_; rw [EZ.out, NZ.out]; rintro e w6 ⟨rfl, hb6⟩) | (with_reducible refine (mFee_any a1 a2 a0 _ W1 W2 W0).mono ?_; rw [EF.out, NF.out]; rintro e w7 ⟨rfl, hb7⟩))
        go_ret
        exact ⟨rfl, by (repeat (first | exact Below.refl _ _ | refine Below.drew ?_ | refine bel_drewN ?_ _ | refine bel_alloc ?_ _ | refine bel_call ?_ (by assumption)))⟩
      · go_enter Try.func5, Try.ntmps5
        go_wp2_with (first | (go_at_call 9; go_must (refine (liveM_any _).mono ?_; rintro e w1 ⟨rfl, hb1⟩)) | (with_reducible refine (mShare_any a0 a2 _ W0 W2).mono ?_; rw [E1.out, N1.out]; rintro e w2 ⟨rfl, hb2⟩) | (with_reducible refine (mShare_any a0 a3 _ W0 W3).mono ?_; rw [E2.out, N2.out]; rintro e w3 ⟨rfl, hb3⟩) | (with_reducible refine (mShare_any a1 a2 _ W1 W2).mono ?_; rw [E3.out, N3.out]; rintro e w4 ⟨rfl, hb4⟩) | (with_reducible refine (mShare_any a0 1000000 _ W0 (by decide)).mono ?_; rw [EM.out, NM.out]; rintro e w5 ⟨rfl, hb5⟩) | (with_reducible refine (mShare_any a0 0 _ W0 (by decide)).mono ?_; rw [EZ.out, NZ.out]; rintro e w6 ⟨rfl, hb6⟩) | (with_reducible refine (mFee_any a1 a2 a0 _ W1 W2 W0).mono ?_; rw [EF.out, NF.out]; rintro e w7 ⟨rfl, hb7⟩))
        go_ret
        exact ⟨rfl, by (repeat (first | exact Below.refl _ _ | refine Below.drew ?_ | refine bel_drewN ?_ _ | refine bel_alloc ?_ _ | refine bel_call ?_ (by assumption)))⟩

theorem moneyShares_walk (a0 a1 a2 a3 : Int) (w : World) (b0 : 0 ≤ a0 ∧ a0 ≤ 18446744073709551615) (b1 : 0 ≤ a1 ∧ a1 ≤ 18446744073709551615) (b2 : 0 ≤ a2 ∧ a2 ≤ 18446744073709551615) (b3 : 0 ≤ a3 ∧ a3 ≤ 18446744073709551615) : Calls Try.prog 5 #[.int .u64 a0, .int .u64 a1, .int .u64 a2, .int .u64 a3] w fun e w' => e = .returned (.bool true) ∧ Below w.heap.size w w' := by
  have hx := shareN_bd b0.1 b2.1
  rcases shares_ends a0 with ⟨hz, hm⟩
  rcases shareE_cases a0 a2 with ⟨h1, h1a, h1p, -⟩ | ⟨h1, -, -⟩
  · obtain ⟨m1, m2, m3, -⟩ : shareE a0 1000000 = 0 ∧ shareE a0 0 = 0 ∧ shareN a0 1000000 = a0 ∧ a0 ≤ mMax := by
      rcases hm with hm | hm
      · exact hm
      · exact absurd h1a hm.2.2.2
    refine shares_good a0 a1 a2 a3 w b0 b1 b2 b3 _ _ _ _ _ _ _ _ _ _ (hid rfl) (hid rfl) (hid rfl) (hid rfl) (hid (m2.trans m1.symm)) (hid rfl) (hid hz) (hid rfl) (hid rfl) (hid rfl) (hid rfl) (hid rfl) (by rw [h1]; rfl) (by rw [m1]; rfl) (by rw [m3]; simp) (by simp; omega) ?_ ?_ ?_
    · rcases shareE_cases a0 a3 with ⟨h2, -⟩ | ⟨h2, -⟩
      · rw [h2]
        by_cases hp : a2 ≤ a3
        · have := share_mono b0.1 h1 h2 hp
          exact .inr (.inr ⟨rfl, by simpa using hp, by simp; omega⟩)
        · exact .inr (.inl ⟨rfl, by simpa using hp⟩)
      · rw [h2]; exact .inl rfl
    · rcases shareE_cases a1 a2 with ⟨h2, -⟩ | ⟨h2, -⟩
      · rw [h2]
        by_cases hp : a0 ≤ a1
        · have := share_monoL b2.1 h1 h2 hp
          exact .inr (.inr ⟨rfl, by simpa using hp, by simp; omega⟩)
        · exact .inr (.inl ⟨rfl, by simpa using hp⟩)
      · rw [h2]; exact .inl rfl
    · rcases fee_cases a1 a2 a0 with ⟨f1, f2, -, f3, -⟩ | ⟨k, f1, f2, -, f4⟩
      · rw [f1, f2]
        exact .inr ⟨rfl, rfl, IntWalk.u64_in _ (by unfold mMax at f3; omega), by simp⟩
      · rw [f1, f4]
        exact .inl ⟨f2, rfl⟩
  · obtain ⟨f1, f2⟩ := feeE_no (b := a1) h1
    have e : shareE a0 0 = shareE a0 1000000 := by
      rcases hm with hm | hm
      · rw [hm.1, hm.2.1]
      · rw [hm.1, hm.2.1]
    refine shares_bad a0 a1 a2 a3 w b0 b1 b2 b3 _ _ _ _ _ _ _ _ _ _ (hid rfl) (hid rfl) (hid rfl) (hid rfl) (hid e) (hid rfl) (hid hz) (hid rfl) (hid rfl) (hid rfl) (hid rfl) (hid rfl) (by rw [h1]; rfl) (by rw [f1]; rfl) (by rw [f2]; rfl) ?_
    rcases hm with hm | hm
    · rw [hm.1, hm.2.2.1]; exact .inl ⟨rfl, by simp⟩
    · rw [hm.1]; exact .inr rfl
end Go.Proofs.Ytegeggmjdhjkiaa
