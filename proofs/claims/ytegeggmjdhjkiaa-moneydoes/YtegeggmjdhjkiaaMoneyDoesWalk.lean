/-
  The walk of MoneyDoes.
-/
import Derived.Test.YtegeggmjdhjkiaaMoneyRef2
namespace Go.Proofs.Ytegeggmjdhjkiaa
open Go.RowKit Go.WalkArith

set_option maxHeartbeats 4000000 in
theorem moneyDoes_walk (A0 : Option Addr) (n0 c0 : Nat) (x0 : List Int) (a1 a2 a3 : Int) (w : World) (r0 : Rd w w.heap.size .u64 A0 n0 c0 x0) (b1 : 0 ≤ a1 ∧ a1 ≤ 18446744073709551615) (b2 : 0 ≤ a2 ∧ a2 ≤ 18446744073709551615) (b3 : 0 ≤ a3 ∧ a3 ≤ 18446744073709551615) :
    Calls Try.prog 3 #[.slice A0 n0 c0, .int .u64 a1, .int .u64 a2, .int .u64 a3] w fun e w' => e = .returned (.bool true) ∧ Below w.heap.size w w' := by
  have W1 := wf_u64 b1
  have W2 := wf_u64 b2
  have W3 := wf_u64 b3
  have hcap := r0.cap
  unfold maxLen at hcap
  by_cases hbig : 200 < n0
  · have hd : (200 : Int) < (n0 : Int) := by omega
    go_enter Try.func3, Try.ntmps3
    go_wp2_with (go_at_call 9; go_must (refine (liveM_any _).mono ?_; rintro e w1 ⟨rfl, hb1⟩))
    go_ret
    exact ⟨rfl, hb1⟩
  have hd : decide ((200 : Int) < (n0 : Int)) = false := by simp; omega
  have HC := hid (show ∃ k, chkM x0 = k from ⟨_, rfl⟩)
  have HA := hid (show ∃ x k, addN x0 = x ∧ addE x0 = k from ⟨_, _, rfl, rfl⟩)
  have HS := hid (show ∃ x k, subN a1 a2 = x ∧ subE a1 a2 = k from ⟨_, _, rfl, rfl⟩)
  have HH := hid (show ∃ x k, shareN a1 a3 = x ∧ shareE a1 a3 = k from ⟨_, _, rfl, rfl⟩)
  have HF := hid (show ∃ x k, feeN a2 a3 a1 = x ∧ feeE a2 a3 a1 = k from ⟨_, _, rfl, rfl⟩)
  have HP := hid (show ∃ x k, splitL a1 x0 = x ∧ splitE a1 x0 = k from ⟨_, _, rfl, rfl⟩)
  obtain ⟨k1, hk1⟩ := HC.out
  obtain ⟨s1, e1, hs1, he1⟩ := HA.out
  obtain ⟨s2, e2, hs2, he2⟩ := HS.out
  obtain ⟨s3, e3, hs3, he3⟩ := HH.out
  obtain ⟨s4, e4, hs4, he4⟩ := HF.out
  obtain ⟨s5, e5, hs5, he5⟩ := HP.out
  have K1 := hid hk1
  have S1 := hid hs1
  have E1 := hid he1
  have S2 := hid hs2
  have E2 := hid he2
  have S3 := hid hs3
  have E3 := hid he3
  have S4 := hid hs4
  have E4 := hid he4
  have S5 := hid hs5
  have E5 := hid he5
  clear hk1 hs1 he1 hs2 he2 hs3 he3 hs4 he4 hs5 he5 HC HA HS HH HF HP
  go_enter Try.func3, Try.ntmps3
  go_wp2_with (first | (go_at_call 9; go_must (refine (liveM_any _).mono ?_; rintro e w1 ⟨rfl, hb1⟩; have R1 := r0.below hb1)) | (go_at_call 10; go_must (refine (mAdd_any _ _ _ _ x0 _ R1 hb1.size).mono ?_; rw [S1.out, E1.out]; rintro e w2 ⟨rfl, hb2⟩; have B2 := bel_call hb1 hb2)) | (go_at_call 11; go_must (refine (rmAdd_any _ _ _ _ x0 _ (r0.below B2)).mono ?_; rw [S1.out, E1.out]; rintro e w3 ⟨rfl, rfl⟩)) | (go_at_call 12; go_must (refine (mSub_any a1 a2 _ W1 W2).mono ?_; rw [S2.out, E2.out]; rintro e w4 ⟨rfl, hb4⟩; have B4 := bel_call B2 hb4)) | (go_at_call 13; go_must (refine (rmSub_any a1 a2 _ W1 W2).mono ?_; rw [S2.out, E2.out]; rintro e w5 ⟨rfl, hb5⟩; have B5 := bel_call B4 hb5)) | (go_at_call 14; go_must (refine (mShare_any a1 a3 _ W1 W3).mono ?_; rw [S3.out, E3.out]; rintro e w6 ⟨rfl, hb6⟩; have B6 := bel_call B5 hb6)) | (go_at_call 15; go_must (refine (rmShare_any a1 a3 _ W1 W3).mono ?_; rw [S3.out, E3.out]; rintro e w7 ⟨rfl, hb7⟩; have B7 := bel_call B6 hb7)) | (go_at_call 16; go_must (refine (mFee_any a2 a3 a1 _ W2 W3 W1).mono ?_; rw [S4.out, E4.out]; rintro e w8 ⟨rfl, hb8⟩; have B8 := bel_call B7 hb8)) | (go_at_call 17; go_must (refine (rmFee_any a2 a3 a1 _ W2 W3 W1).mono ?_; rw [S4.out, E4.out]; rintro e w9 ⟨rfl, hb9⟩; have B9 := bel_call B8 hb9)) | (go_at_call 18; go_must (refine (mSplit_any a1 _ _ _ _ x0 _ W1 (r0.below B9) B9.size).mono ?_; rw [S5.out, E5.out]; rintro e w10 ⟨v10, rfl, ho10, hb10⟩; obtain ⟨A10, n10, c10, rfl, r10⟩ := ho10.formN; have B10 := bel_call B9 hb10)) | (go_at_call 19; go_must (refine (rmSplit_any a1 _ _ _ x0 _ W1 ((r0.below B10).more B10.size)).mono ?_; rw [S5.out, E5.out]; rintro e w11 ⟨v11, rfl, ho11, hb11⟩; obtain ⟨A11, n11, c11, rfl, r11⟩ := ho11.formN; have B11 := bel_call B10 hb11)) | (go_at_call 20; go_must (refine (sameNumbers_any _ _ _ _ _ _ s5 s5 _ ((r10.below hb11).more hb11.size) r11).mono ?_; rw [decide_eq_true (rfl : s5 = s5)]; rintro e w12 ⟨rfl, hb12⟩; have B12 := bel_call B11 hb12)) | (go_at_call 21; go_must (refine (mCheck_any _ _ _ _ x0 _ (r0.below B12) B12.size).mono ?_; rw [K1.out]; rintro e w13 ⟨rfl, hb13⟩; have B13 := bel_call B12 hb13)) | (go_at_call 22; go_must (refine (rmCheck_any _ _ _ _ x0 _ (r0.below B13)).mono ?_; rw [K1.out]; rintro e w14 ⟨rfl, rfl⟩)))
  go_ret
  exact ⟨by simp, B13⟩
end Go.Proofs.Ytegeggmjdhjkiaa
