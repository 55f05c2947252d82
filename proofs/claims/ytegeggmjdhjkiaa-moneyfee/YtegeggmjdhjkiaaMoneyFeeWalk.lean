/-
  The walk of MoneyFee.
-/
import Derived.Test.YtegeggmjdhjkiaaMoneyLive
namespace Go.Proofs.Ytegeggmjdhjkiaa
open Go.RowKit Go.WalkArith

set_option maxHeartbeats 4000000 in
theorem fee_bad (a0 a1 a2 a3 : Int) (w : World) (b0 : 0 ≤ a0 ∧ a0 ≤ 18446744073709551615) (b1 : 0 ≤ a1 ∧ a1 ≤ 18446744073709551615) (b2 : 0 ≤ a2 ∧ a2 ≤ 18446744073709551615) (b3 : 0 ≤ a3 ∧ a3 ≤ 18446744073709551615) (k1 k2 k3 kS kA kC x y z s nA : Int) (E1 : Hid (feeE a0 a1 a2 = k1)) (N1 : Hid (feeN a0 a1 a2 = x)) (E2 : Hid (feeE a0 a1 a3 = k2)) (N2 : Hid (feeN a0 a1 a3 = y)) (E3 : Hid (feeE a0 a1 0 = k3)) (N3 : Hid (feeN a0 a1 0 = z)) (ES : Hid (shareE a2 a1 = kS)) (NS : Hid (shareN a2 a1 = s)) (EA : Hid (addE [a0, s] = kA)) (NA : Hid (addN [a0, s] = nA)) (EC : Hid (chkM [a0] = kC)) (WS : (Lit.int .u64 s).wf = true) (hk1 : (k1 == 0) = false) (h3 : (k3 == 0) = true ∧ (z != a0) = false ∨ (k3 == 0) = false) (hS : (kS != 0) = true ∨ (kS != 0) = false ∧ (kC != 0) = true) (hk2 : (k1 == 1) = true) (hx : (x == 0) = true) :
    Calls Try.prog 7 #[.int .u64 a0, .int .u64 a1, .int .u64 a2, .int .u64 a3] w fun e w' => e = .returned (.bool true) ∧ Below w.heap.size w w' := by
  have W0 := wf_u64 b0
  have W1 := wf_u64 b1
  have W2 := wf_u64 b2
  have W3 := wf_u64 b3
  rcases hS with hS | ⟨hS, hC⟩
  · rcases h3 with ⟨h3, h3'⟩ | h3
    · go_enter Try.func7, Try.ntmps7
      go_wp2_with (first | (go_at_call 9; go_must (refine (liveM_any _).mono ?_; rintro e w1 ⟨rfl, hb1⟩)) | (with_reducible refine (mFee_any a0 a1 a2 _ W0 W1 W2).mono ?_; rw [E1.out, N1.out]; rintro e w2 ⟨rfl, hb2⟩) | (with_reducible refine (mFee_any a0 a1 a3 _ W0 W1 W3).mono ?_; rw [E2.out, N2.out]; rintro e w3 ⟨rfl, hb3⟩) | (with_reducible refine (mFee_any a0 a1 0 _ W0 W1 (by decide)).mono ?_; rw [E3.out, N3.out]; rintro e w4 ⟨rfl, hb4⟩) | (with_reducible refine (mShare_any a2 a1 _ W2 W1).mono ?_; rw [ES.out, NS.out]; rintro e w5 ⟨rfl, hb5⟩) | (with_reducible refine (mAdd2_any a0 s _ W0 WS).mono ?_; rw [EA.out, NA.out]; rintro e w6 ⟨rfl, hb6⟩) | (with_reducible refine (mCheck1_any a0 _ W0).mono ?_; rw [EC.out]; rintro e w7 ⟨rfl, hb7⟩))
      go_ret
      exact ⟨rfl, by (repeat (first | exact Below.refl _ _ | refine Below.drew ?_ | refine bel_drewN ?_ _ | refine bel_alloc ?_ _ | refine bel_call ?_ (by assumption)))⟩
    · go_enter Try.func7, Try.ntmps7
      go_wp2_with (first | (go_at_call 9; go_must (refine (liveM_any _).mono ?_; rintro e w1 ⟨rfl, hb1⟩)) | (with_reducible refine (mFee_any a0 a1 a2 _ W0 W1 W2).mono ?_; rw [E1.out, N1.out]; rintro e w2 ⟨rfl, hb2⟩) | (with_reducible refine (mFee_any a0 a1 a3 _ W0 W1 W3).mono ?_; rw [E2.out, N2.out]; rintro e w3 ⟨rfl, hb3⟩) | (with_reducible refine (mFee_any a0 a1 0 _ W0 W1 (by decide)).mono ?_; rw [E3.out, N3.out]; rintro e w4 ⟨rfl, hb4⟩) | (with_reducible refine (mShare_any a2 a1 _ W2 W1).mono ?_; rw [ES.out, NS.out]; rintro e w5 ⟨rfl, hb5⟩) | (with_reducible refine (mAdd2_any a0 s _ W0 WS).mono ?_; rw [EA.out, NA.out]; rintro e w6 ⟨rfl, hb6⟩) | (with_reducible refine (mCheck1_any a0 _ W0).mono ?_; rw [EC.out]; rintro e w7 ⟨rfl, hb7⟩))
      go_ret
      exact ⟨rfl, by (repeat (first | exact Below.refl _ _ | refine Below.drew ?_ | refine bel_drewN ?_ _ | refine bel_alloc ?_ _ | refine bel_call ?_ (by assumption)))⟩
  · rcases h3 with ⟨h3, h3'⟩ | h3
    · go_enter Try.func7, Try.ntmps7
      go_wp2_with (first | (go_at_call 9; go_must (refine (liveM_any _).mono ?_; rintro e w1 ⟨rfl, hb1⟩)) | (with_reducible refine (mFee_any a0 a1 a2 _ W0 W1 W2).mono ?_; rw [E1.out, N1.out]; rintro e w2 ⟨rfl, hb2⟩) | (with_reducible refine (mFee_any a0 a1 a3 _ W0 W1 W3).mono ?_; rw [E2.out, N2.out]; rintro e w3 ⟨rfl, hb3⟩) | (with_reducible refine (mFee_any a0 a1 0 _ W0 W1 (by decide)).mono ?_; rw [E3.out, N3.out]; rintro e w4 ⟨rfl, hb4⟩) | (with_reducible refine (mShare_any a2 a1 _ W2 W1).mono ?_; rw [ES.out, NS.out]; rintro e w5 ⟨rfl, hb5⟩) | (with_reducible refine (mAdd2_any a0 s _ W0 WS).mono ?_; rw [EA.out, NA.out]; rintro e w6 ⟨rfl, hb6⟩) | (with_reducible refine (mCheck1_any a0 _ W0).mono ?_; rw [EC.out]; rintro e w7 ⟨rfl, hb7⟩))
      go_ret
      exact ⟨rfl, by (repeat (first | exact Below.refl _ _ | refine Below.drew ?_ | refine bel_drewN ?_ _ | refine bel_alloc ?_ _ | refine bel_call ?_ (by assumption)))⟩
    · go_enter Try.func7, Try.ntmps7
      go_wp2_with (first | (go_at_call 9; go_must (refine (liveM_any _).mono ?_; rintro e w1 ⟨rfl, hb1⟩)) | (with_reducible refine (mFee_any a0 a1 a2 _ W0 W1 W2).mono ?_; rw [E1.out, N1.out]; rintro e w2 ⟨rfl, hb2⟩) | (with_reducible refine (mFee_any a0 a1 a3 _ W0 W1 W3).mono ?_; rw [E2.out, N2.out]; rintro e w3 ⟨rfl, hb3⟩) | (with_reducible refine (mFee_any a0 a1 0 _ W0 W1 (by decide)).mono ?_; rw [E3.out, N3.out]; rintro e w4 ⟨rfl, hb4⟩) | (with_reducible refine (mShare_any a2 a1 _ W2 W1).mono ?_; rw [ES.out, NS.out]; rintro e w5 ⟨rfl, hb5⟩) | (with_reducible refine (mAdd2_any a0 s _ W0 WS).mono ?_; rw [EA.out, NA.out]; rintro e w6 ⟨rfl, hb6⟩) | (with_reducible refine (mCheck1_any a0 _ W0).mono ?_; rw [EC.out]; rintro e w7 ⟨rfl, hb7⟩))
      go_ret
      exact ⟨rfl, by (repeat (first | exact Below.refl _ _ | refine Below.drew ?_ | refine bel_drewN ?_ _ | refine bel_alloc ?_ _ | refine bel_call ?_ (by assumption)))⟩

set_option maxHeartbeats 4000000 in
theorem fee_good (a0 a1 a2 a3 : Int) (w : World) (b0 : 0 ≤ a0 ∧ a0 ≤ 18446744073709551615) (b1 : 0 ≤ a1 ∧ a1 ≤ 18446744073709551615) (b2 : 0 ≤ a2 ∧ a2 ≤ 18446744073709551615) (b3 : 0 ≤ a3 ∧ a3 ≤ 18446744073709551615) (k1 k2 k3 kS kA kC x y z s nA : Int) (E1 : Hid (feeE a0 a1 a2 = k1)) (N1 : Hid (feeN a0 a1 a2 = x)) (E2 : Hid (feeE a0 a1 a3 = k2)) (N2 : Hid (feeN a0 a1 a3 = y)) (E3 : Hid (feeE a0 a1 0 = k3)) (N3 : Hid (feeN a0 a1 0 = z)) (ES : Hid (shareE a2 a1 = kS)) (NS : Hid (shareN a2 a1 = s)) (EA : Hid (addE [a0, s] = kA)) (NA : Hid (addN [a0, s] = nA)) (EC : Hid (chkM [a0] = kC)) (WS : (Lit.int .u64 s).wf = true) (hS : (kS != 0) = false) (hC : (kC != 0) = false) (h3 : (k3 == 0) = true) (h3' : (z != a0) = false) (hA : (k1 == kA) = true) (hxA : (x == nA) = true)
    (h1 : (k1 == 0) = false ∧ (k1 == 8) = true ∨ (k1 == 0) = true ∧ (k2 == 0) = false ∨ (k1 == 0) = true ∧ (k2 == 0) = true ∧ decide (a2 ≤ a3) = false ∨ (k1 == 0) = true ∧ (k2 == 0) = true ∧ decide (a2 ≤ a3) = true ∧ decide (y < x) = false) :
    Calls Try.prog 7 #[.int .u64 a0, .int .u64 a1, .int .u64 a2, .int .u64 a3] w fun e w' => e = .returned (.bool true) ∧ Below w.heap.size w w' := by
  have W0 := wf_u64 b0
  have W1 := wf_u64 b1
  have W2 := wf_u64 b2
  have W3 := wf_u64 b3
  rcases h1 with ⟨h1, h2⟩ | ⟨h1, h2⟩ | ⟨h1, h2, h4⟩ | ⟨h1, h2, h4, h5⟩
  · go_enter Try.func7, Try.ntmps7
    go_wp2_with (first | (go_at_call 9; go_must (refine (liveM_any _).mono ?_; rintro e w1 ⟨rfl, hb1⟩)) | (with_reducible refine (mFee_any a0 a1 a2 _ W0 W1 W2).mono ?_; rw [E1.out, N1.out]; rintro e w2 ⟨rfl, hb2⟩) | (with_reducible refine (mFee_any a0 a1 a3 _ W0 W1 W3).mono ?_; rw [E2.out, N2.out]; rintro e w3 ⟨rfl, hb3⟩) | (with_reducible refine (mFee_any a0 a1 0 _ W0 W1 (by decide)).mono ?_; rw [E3.out, N3.out]; rintro e w4 ⟨rfl, hb4⟩) | (with_reducible refine (mShare_any a2 a1 _ W2 W1).mono ?_; rw [ES.out, NS.out]; rintro e w5 ⟨rfl, hb5⟩) | (with_reducible refine (mAdd2_any a0 s _ W0 WS).mono ?_; rw [EA.out, NA.out]; rintro e w6 ⟨rfl, hb6⟩) | (with_reducible refine (mCheck1_any a0 _ W0).mono ?_; rw [EC.out]; rintro e w7 ⟨rfl, hb7⟩))
    go_ret
    exact ⟨rfl, by (repeat (first | exact Below.refl _ _ | refine Below.drew ?_ | refine bel_drewN ?_ _ | refine bel_alloc ?_ _ | refine bel_call ?_ (by assumption)))⟩
  · go_enter Try.func7, Try.ntmps7
    go_wp2_with (first | (go_at_call 9; go_must (refine (liveM_any _).mono ?_; rintro e w1 ⟨rfl, hb1⟩)) | (with_reducible refine (mFee_any a0 a1 a2 _ W0 W1 W2).mono ?_; rw [E1.out, N1.out]; rintro e w2 ⟨rfl, hb2⟩) | (with_reducible refine (mFee_any a0 a1 a3 _ W0 W1 W3).mono ?_; rw [E2.out, N2.out]; rintro e w3 ⟨rfl, hb3⟩) | (with_reducible refine (mFee_any a0 a1 0 _ W0 W1 (by decide)).mono ?_; rw [E3.out, N3.out]; rintro e w4 ⟨rfl, hb4⟩) | (with_reducible refine (mShare_any a2 a1 _ W2 W1).mono ?_; rw [ES.out, NS.out]; rintro e w5 ⟨rfl, hb5⟩) | (with_reducible refine (mAdd2_any a0 s _ W0 WS).mono ?_; rw [EA.out, NA.out]; rintro e w6 ⟨rfl, hb6⟩) | (with_reducible refine (mCheck1_any a0 _ W0).mono ?_; rw [EC.out]; rintro e w7 ⟨rfl, hb7⟩))
    go_ret
    exact ⟨rfl, by (repeat (first | exact Below.refl _ _ | refine Below.drew ?_ | refine bel_drewN ?_ _ | refine bel_alloc ?_ _ | refine bel_call ?_ (by assumption)))⟩
  · go_enter Try.func7, Try.ntmps7
    go_wp2_with (first | (go_at_call 9; go_must (refine (liveM_any _).mono ?_; rintro e w1 ⟨rfl, hb1⟩)) | (with_reducible refine (mFee_any a0 a1 a2 _ W0 W1 W2).mono ?_; rw [E1.out, N1.out]; rintro e w2 ⟨rfl, hb2⟩) | (with_reducible refine (mFee_any a0 a1 a3 _ W0 W1 W3).mono ?_; rw [E2.out, N2.out]; rintro e w3 ⟨rfl, hb3⟩) | (with_reducible refine (mFee_any a0 a1 0 _ W0 W1 (by decide)).mono ?_; rw [E3.out, N3.out]; rintro e w4 ⟨rfl, hb4⟩) | (with_reducible refine (mShare_any a2 a1 _ W2 W1).mono ?_; rw [ES.out, NS.out]; rintro e w5 ⟨rfl, hb5⟩) | (with_reducible refine (mAdd2_any a0 s _ W0 WS).mono ?_; rw [EA.out, NA.out]; rintro e w6 ⟨rfl, hb6⟩) | (with_reducible refine (mCheck1_any a0 _ W0).mono ?_; rw [EC.out]; rintro e w7 ⟨rfl, hb7⟩))
    go_ret
    exact ⟨rfl, by (repeat (first | exact Below.refl _ _ | refine Below.drew ?_ | refine bel_drewN ?_ _ | refine bel_alloc ?_ _ | refine bel_call ?_ (by assumption)))⟩
  · go_enter Try.func7, Try.ntmps7
    go_wp2_with (first | (go_at_call 9; go_must (refine (liveM_any _).mono ?_; rintro e w1 ⟨rfl, hb1⟩)) | (with_reducible refine (mFee_any a0 a1 a2 _ W0 W1 W2).mono ?_; rw [E1.out, N1.out]; rintro e w2 ⟨rfl, hb2⟩) | (with_reducible refine (mFee_any a0 a1 a3 _ W0 W1 W3).mono ?_; rw [E2.out, N2.out]; rintro e w3 ⟨rfl, hb3⟩) | (with_reducible refine (mFee_any a0 a1 0 _ W0 W1 (by decide)).mono ?_; rw [E3.out, N3.out]; rintro e w4 ⟨rfl, hb4⟩) | (with_reducible refine (mShare_any a2 a1 _ W2 W1).mono ?_; rw [ES.out, NS.out]; rintro e w5 ⟨rfl, hb5⟩) | (with_reducible refine (mAdd2_any a0 s _ W0 WS).mono ?_; rw [EA.out, NA.out]; rintro e w6 ⟨rfl, hb6⟩) | (with_reducible refine (mCheck1_any a0 _ W0).mono ?_; rw [EC.out]; rintro e w7 ⟨rfl, hb7⟩))
    go_ret
    exact ⟨rfl, by (repeat (first | exact Below.refl _ _ | refine Below.drew ?_ | refine bel_drewN ?_ _ | refine bel_alloc ?_ _ | refine bel_call ?_ (by assumption)))⟩

theorem moneyFee_walk (a0 a1 a2 a3 : Int) (w : World) (b0 : 0 ≤ a0 ∧ a0 ≤ 18446744073709551615) (b1 : 0 ≤ a1 ∧ a1 ≤ 18446744073709551615) (b2 : 0 ≤ a2 ∧ a2 ≤ 18446744073709551615) (b3 : 0 ≤ a3 ∧ a3 ≤ 18446744073709551615) : Calls Try.prog 7 #[.int .u64 a0, .int .u64 a1, .int .u64 a2, .int .u64 a3] w fun e w' => e = .returned (.bool true) ∧ Below w.heap.size w w' := by
  have hs := shareN_bd b2.1 b1.1
  have WS : (Lit.int .u64 (shareN a2 a1)).wf = true := wf_u64 (by have := hs.2.2; unfold mMax at this; omega)
  have hz := share_nothing a1
  have h3 : feeE a0 a1 0 = 0 ∧ feeN a0 a1 0 = a0 ∨ (feeE a0 a1 0 == 0) = false := by
    rcases fee_cases a0 a1 0 with ⟨f1, f2, -⟩ | ⟨k, f1, -, f3, -⟩
    · exact .inl ⟨f1, by rw [f2, hz, Int.add_zero]⟩
    · exact .inr (by rw [f1]; exact f3)
  by_cases hg : shareE a2 a1 = 0 ∧ a0 ≤ mMax
  · obtain ⟨f1, f2⟩ := feeE_ok (b := a0) hg.1
    have hp : a1 ≤ 1000000 := by
      rcases shareE_cases a2 a1 with ⟨-, -, h, -⟩ | ⟨h, -⟩
      · exact h
      · rw [hg.1] at h; cases h
    have g0 : shareE 0 a1 = 0 := if_pos ⟨by decide, hp⟩
    have g1 : feeE a0 a1 0 = 0 := by
      rw [(feeE_ok (b := a0) g0).1, hz, addE_two, if_pos ⟨hg.2, by decide⟩, if_pos (by have := hg.2; omega)]
    have g2 : feeN a0 a1 0 = a0 := by
      rcases h3 with h | h
      · exact h.2
      · rw [g1] at h; cases h
    refine fee_good a0 a1 a2 a3 w b0 b1 b2 b3 _ _ _ _ _ _ _ _ _ _ _ (hid rfl) (hid rfl) (hid rfl) (hid rfl) (hid rfl) (hid rfl) (hid rfl) (hid rfl) (hid rfl) (hid rfl) (hid rfl) WS (by rw [hg.1]; rfl) (by rw [chkM_one, if_pos hg.2]; rfl) (by rw [g1]; rfl) (by rw [g2]; simp) (by rw [f1]; simp) (by rw [f2]; simp) ?_
    rcases addE_cases2 a0 (shareN a2 a1) with ⟨h1, h2, -⟩ | ⟨h1, -⟩ | ⟨-, -, h⟩
    · rw [f1, h1, f2, h2]
      right
      rcases fee_cases a0 a1 a3 with ⟨k1, k2, k3, -⟩ | ⟨k, k1, -, k3, -⟩
      · right
        rw [k1, k2]
        by_cases hab : a2 ≤ a3
        · right
          have := share_monoL b1.1 hg.1 k3 hab
          exact ⟨rfl, rfl, by simpa using hab, by simp; omega⟩
        · exact .inl ⟨rfl, rfl, by simpa using hab⟩
      · exact .inl ⟨rfl, by rw [k1]; exact k3⟩
    · rw [f1, h1]; exact .inl ⟨rfl, rfl⟩
    · exact absurd ⟨hg.2, hs.2.2⟩ h
  · have hb : feeE a0 a1 a2 = 1 ∧ feeN a0 a1 a2 = 0 := by
      rcases shareE_cases a2 a1 with ⟨h, -⟩ | ⟨h, -⟩
      · obtain ⟨f1, f2⟩ := feeE_ok (b := a0) h
        rcases addE_cases2 a0 (shareN a2 a1) with ⟨-, -, h1, -⟩ | ⟨-, -, h1, -⟩ | ⟨h1, h2, -⟩
        · exact absurd ⟨h, h1⟩ hg
        · exact absurd ⟨h, h1⟩ hg
        · exact ⟨f1.trans h1, f2.trans h2⟩
      · exact feeE_no h
    refine fee_bad a0 a1 a2 a3 w b0 b1 b2 b3 _ _ _ _ _ _ _ _ _ _ _ (hid rfl) (hid rfl) (hid rfl) (hid rfl) (hid rfl) (hid rfl) (hid rfl) (hid rfl) (hid rfl) (hid rfl) (hid rfl) WS (by rw [hb.1]; rfl) ?_ ?_ (by rw [hb.1]; rfl) (by rw [hb.2]; rfl)
    · rcases h3 with ⟨k1, k2⟩ | h3
      · rw [k1, k2]; exact .inl ⟨rfl, by simp⟩
      · exact .inr h3
    · rcases shareE_cases a2 a1 with ⟨h, -⟩ | ⟨h, -⟩
      · right
        rw [h, chkM_one, if_neg fun k => hg ⟨h, k⟩]
        exact ⟨rfl, rfl⟩
      · left; rw [h]; rfl
end Go.Proofs.Ytegeggmjdhjkiaa
