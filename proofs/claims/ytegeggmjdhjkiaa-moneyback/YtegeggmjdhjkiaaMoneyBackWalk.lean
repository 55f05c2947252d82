/-
  The walk of MoneyBack.
-/
import Derived.Test.YtegeggmjdhjkiaaMoneyLive
namespace Go.Proofs.Ytegeggmjdhjkiaa
open Go.RowKit Go.WalkArith

set_option maxHeartbeats 2000000 in
theorem moneyBack_walk (a0 a1 : Int) (w : World) (b0 : 0 ≤ a0 ∧ a0 ≤ 18446744073709551615) (b1 : 0 ≤ a1 ∧ a1 ≤ 18446744073709551615) :
    Calls Try.prog 4 #[.int .u64 a0, .int .u64 a1] w fun e w' => e = .returned (.bool true) ∧ Below w.heap.size w w' := by
  have W0 := wf_u64 b0
  have W1 := wf_u64 b1
  by_cases h : a0 ≤ mMax ∧ a1 ≤ mMax
  · have HC := hid (show chkM [a0, a1] = 0 from by rw [chkM_two, if_pos h])
    by_cases h2 : a0 + a1 ≤ mMax
    · have e1 : addE [a0, a1] = 0 := by rw [addE_two, if_pos h, if_pos h2]
      have e2 : addE [a1, a0] = 0 := by rw [addE_two, if_pos ⟨h.2, h.1⟩, if_pos (by omega)]
      have E1 := hid e1
      have E2 := hid e2
      have N1 := hid (show addN [a0, a1] = a0 + a1 from by rw [addN_two, if_pos e1])
      have N2 := hid (show addN [a1, a0] = a0 + a1 from by rw [addN_two, if_pos e2]; omega)
      have C1 := hid (show chkM [a0 + a1] = 0 from by rw [chkM_one, if_pos h2])
      have s1 : subE (a0 + a1) a1 = 0 := by rw [subE, if_pos ⟨h2, h.2⟩, if_pos (by omega)]
      have S1 := hid s1
      have M1 := hid (show subN (a0 + a1) a1 = a0 from by rw [subN, if_pos s1]; omega)
      have W2 : (Lit.int .u64 (a0 + a1)).wf = true := wf_u64 (by unfold mMax at h2; omega)
      have hge : decide (a0 ≤ a0 + a1) = true := by simp; omega
      by_cases hz : a1 = 0
      · have s2 : subE a0 (a0 + a1) = 0 := by rw [subE, if_pos ⟨h.1, h2⟩, if_pos (by omega)]
        have S2 := hid s2
        have M2 := hid (show subN a0 (a0 + a1) = 0 from by rw [subN, if_pos s2]; omega)
        have hz' : (a1 == 0) = true := by simpa using hz
        clear e1 e2 s1 s2 h h2 hz
        generalize a0 + a1 = s at *
        go_enter Try.func4, Try.ntmps4
        go_wp2_with (first | (go_at_call 9; go_must (refine (liveM_any _).mono ?_; rintro e w1 ⟨rfl, hb1⟩)) | (with_reducible refine (mAdd2_any a0 a1 _ W0 W1).mono ?_; rw [E1.out, N1.out]; rintro e w2 ⟨rfl, hb2⟩) | (with_reducible refine (mAdd2_any a1 a0 _ W1 W0).mono ?_; rw [E2.out, N2.out]; rintro e w3 ⟨rfl, hb3⟩) | (with_reducible refine (mSub_any s a1 _ W2 W1).mono ?_; rw [S1.out, M1.out]; rintro e w4 ⟨rfl, hb4⟩) | (with_reducible refine (mSub_any a0 s _ W0 W2).mono ?_; rw [S2.out, M2.out]; rintro e w5 ⟨rfl, hb5⟩) | (with_reducible refine (mCheck1_any s _ W2).mono ?_; rw [C1.out]; rintro e w6 ⟨rfl, hb6⟩))
        go_ret
        exact ⟨rfl, by (repeat (first | exact Below.refl _ _ | refine Below.drew ?_ | refine bel_drewN ?_ _ | refine bel_alloc ?_ _ | refine bel_call ?_ (by assumption)))⟩
      · have s2 : subE a0 (a0 + a1) = 9 := by rw [subE, if_pos ⟨h.1, h2⟩, if_neg (by omega)]
        have S2 := hid s2
        have M2 := hid (show subN a0 (a0 + a1) = 0 from by rw [subN, if_neg (by rw [s2]; decide)])
        have hz' : (a1 == 0) = false := by simpa using hz
        clear e1 e2 s1 s2 h h2 hz
        generalize a0 + a1 = s at *
        go_enter Try.func4, Try.ntmps4
        go_wp2_with (first | (go_at_call 9; go_must (refine (liveM_any _).mono ?_; rintro e w1 ⟨rfl, hb1⟩)) | (with_reducible refine (mAdd2_any a0 a1 _ W0 W1).mono ?_; rw [E1.out, N1.out]; rintro e w2 ⟨rfl, hb2⟩) | (with_reducible refine (mAdd2_any a1 a0 _ W1 W0).mono ?_; rw [E2.out, N2.out]; rintro e w3 ⟨rfl, hb3⟩) | (with_reducible refine (mSub_any s a1 _ W2 W1).mono ?_; rw [S1.out, M1.out]; rintro e w4 ⟨rfl, hb4⟩) | (with_reducible refine (mSub_any a0 s _ W0 W2).mono ?_; rw [S2.out, M2.out]; rintro e w5 ⟨rfl, hb5⟩) | (with_reducible refine (mCheck1_any s _ W2).mono ?_; rw [C1.out]; rintro e w6 ⟨rfl, hb6⟩))
        go_ret
        exact ⟨rfl, by (repeat (first | exact Below.refl _ _ | refine Below.drew ?_ | refine bel_drewN ?_ _ | refine bel_alloc ?_ _ | refine bel_call ?_ (by assumption)))⟩
    · have e1 : addE [a0, a1] = 8 := by rw [addE_two, if_pos h, if_neg h2]
      have e2 : addE [a1, a0] = 8 := by rw [addE_two, if_pos ⟨h.2, h.1⟩, if_neg (by omega)]
      have E1 := hid e1
      have E2 := hid e2
      have N1 := hid (show addN [a0, a1] = 0 from by rw [addN_two, if_neg (by rw [e1]; decide)])
      have N2 := hid (show addN [a1, a0] = 0 from by rw [addN_two, if_neg (by rw [e2]; decide)])
      clear e1 e2 h h2
      go_enter Try.func4, Try.ntmps4
      go_wp2_with (first | (go_at_call 9; go_must (refine (liveM_any _).mono ?_; rintro e w1 ⟨rfl, hb1⟩)) | (with_reducible refine (mAdd2_any a0 a1 _ W0 W1).mono ?_; rw [E1.out, N1.out]; rintro e w2 ⟨rfl, hb2⟩) | (with_reducible refine (mAdd2_any a1 a0 _ W1 W0).mono ?_; rw [E2.out, N2.out]; rintro e w3 ⟨rfl, hb3⟩) | (with_reducible refine (mCheck2_any a0 a1 _ W0 W1).mono ?_; rw [HC.out]; rintro e w6 ⟨rfl, hb6⟩))
      go_ret
      exact ⟨rfl, by (repeat (first | exact Below.refl _ _ | refine Below.drew ?_ | refine bel_drewN ?_ _ | refine bel_alloc ?_ _ | refine bel_call ?_ (by assumption)))⟩
  · have HC := hid (show chkM [a0, a1] = 1 from by rw [chkM_two, if_neg h])
    have e1 : addE [a0, a1] = 1 := by rw [addE_two, if_neg h]
    have e2 : addE [a1, a0] = 1 := by rw [addE_two, if_neg fun k => h ⟨k.2, k.1⟩]
    have E1 := hid e1
    have E2 := hid e2
    have N1 := hid (show addN [a0, a1] = 0 from by rw [addN_two, if_neg (by rw [e1]; decide)])
    have N2 := hid (show addN [a1, a0] = 0 from by rw [addN_two, if_neg (by rw [e2]; decide)])
    clear e1 e2 h
    go_enter Try.func4, Try.ntmps4
    go_wp2_with (first | (go_at_call 9; go_must (refine (liveM_any _).mono ?_; rintro e w1 ⟨rfl, hb1⟩)) | (with_reducible refine (mAdd2_any a0 a1 _ W0 W1).mono ?_; rw [E1.out, N1.out]; rintro e w2 ⟨rfl, hb2⟩) | (with_reducible refine (mAdd2_any a1 a0 _ W1 W0).mono ?_; rw [E2.out, N2.out]; rintro e w3 ⟨rfl, hb3⟩) | (with_reducible refine (mCheck2_any a0 a1 _ W0 W1).mono ?_; rw [HC.out]; rintro e w6 ⟨rfl, hb6⟩))
    go_ret
    exact ⟨rfl, by (repeat (first | exact Below.refl _ _ | refine Below.drew ?_ | refine bel_drewN ?_ _ | refine bel_alloc ?_ _ | refine bel_call ?_ (by assumption)))⟩
end Go.Proofs.Ytegeggmjdhjkiaa
