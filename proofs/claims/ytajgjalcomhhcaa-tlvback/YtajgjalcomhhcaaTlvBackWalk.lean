/-
  The walk of TlvBack.
-/
import Derived.Test.YtajgjalcomhhcaaTlvLive
namespace Go.Proofs.Ytajgjalcomhhcaa
open Go.RowKit Go.WalkArith

set_option maxRecDepth 100000 in
set_option maxHeartbeats 2000000 in
theorem tlvBack_walk (A0 : Option Addr) (n0 c0 : Nat) (x0 : List Rec) (A1 : Option Addr) (n1 c1 : Nat) (x1 : List Int) (w : World) (r0 : Sl lay_Record w (· < w.heap.size) A0 n0 c0 x0) (r1 : Rd w w.heap.size .u8 A1 n1 c1 x1) :
    Calls Try.prog 5 #[.slice A0 n0 c0, .slice A1 n1 c1] w fun e w' => e = .returned (.bool true) ∧ Below w.heap.size w w' := by
  have hc1 := r1.cap
  unfold maxLen at hc1
  have W0 := hid (recs_wf r0 fun _ h => h)
  have W1 := hid (fun x hx => bounds_u8 (r1.wf x hx))
  go_enter Try.func5, Try.ntmps5
  go_wp2_with fail
  with_reducible refine (live2_any _).mono ?_
  rintro e w1 ⟨rfl, hb1⟩
  have q0 := r0.call hb1
  have q1 := (r1.below hb1).more hb1.size
  go_wp2_with fail
  with_reducible refine (few_any _ _ _ _ _ q0).mono ?_
  rintro e w2 ⟨rfl, hb2⟩
  have HB2 := bel_call hb1 hb2
  replace q0 := q0.call hb2
  replace q1 := (q1.below hb2).more hb2.size
  clear hb1 hb2 r0 r1
  by_cases hf : fewB x0 = true
  case neg =>
    have hf' : fewB x0 = false := by simpa using hf
    clear hf
    go_wp2
    go_ret
    exact ⟨rfl, HB2⟩
  by_cases h5 : 5000 < n1
  · have d5 : decide ((5000 : Int) < (n1 : Int)) = true := by simp; omega
    go_wp2
    go_ret
    exact ⟨rfl, HB2⟩
  have d5 : decide ((5000 : Int) < (n1 : Int)) = false := by simp; omega
  go_wp2_with fail
  with_reducible refine (tlvGet_any _ _ _ _ _ q1).mono ?_
  rintro e w3 ⟨v3, rfl, hown3, hb3⟩
  obtain ⟨A3, n3, c3, rfl, q3⟩ := hown3.read
  have HB3 := bel_call HB2 hb3
  replace q0 := q0.call hb3
  replace q1 := (q1.below hb3).more hb3.size
  clear hb3 HB2 hown3
  by_cases hg : (getR x1).2 = 0
  · have hgr : getR x1 = ((getR x1).1, 0) := by rw [← hg]
    obtain ⟨m1, m2, m3, m4⟩ := getR_back W1.out hgr
    have e1 : pE (getR x1).1 = 0 := by rw [pE_ok m1]; unfold putE; rw [m2, if_pos m3]
    have e2 : pO (getR x1).1 = x1 := by rw [pO_ok m1]; unfold putO; rw [m2, if_pos m3]
    have e3 := chk_ok m1
    have E1 := hid e1
    have E2 := hid e2
    have E3 := hid e3
    have dx : decide (x1 = x1) = true := by simp
    clear hgr m1 m2 m3 m4 e1 e2 e3
    go_wp2_with fail
    with_reducible refine (tlvPut_any _ _ _ _ _ q3).mono ?_
    rw [E1.out, E2.out]
    rintro e w4 ⟨v4, rfl, hown4, hb4⟩
    obtain ⟨A4, n4, c4, rfl, q4⟩ := hown4.formN
    have HB4 := bel_call HB3 hb4
    replace q0 := q0.call hb4
    replace q1 := (q1.below hb4).more hb4.size
    replace q3 := q3.call hb4
    clear hb4 HB3 hown4
    go_wp2_with fail
    with_reducible refine (sameBytes_any _ _ _ _ _ _ _ _ _ _ _ q4 q1).mono ?_
    rintro e w5 ⟨rfl, rfl⟩
    go_wp2_with fail
    with_reducible refine (tlvCheck_any _ _ _ _ _ q3).mono ?_
    rw [E3.out]
    rintro e w5 ⟨rfl, hb5⟩
    have HB5 := bel_call HB4 hb5
    replace q0 := q0.call hb5
    clear hb5 HB4 q1 q3 q4
    go_wp2_with fail
    with_reducible refine (tlvPut_any _ _ _ _ _ q0).mono ?_
    rintro e w6 ⟨v6, rfl, hown6, hb6⟩
    have HB6 := bel_call HB5 hb6
    replace q0 := q0.call hb6
    clear hb6 HB5
    by_cases hp : pE x0 = 0
    · obtain ⟨p1, p2, p3⟩ := pE_zero hp
      have P4 := hid (getR_put W0.out p1 p2)
      rw [p3] at hown6
      obtain ⟨A6, n6, c6, rfl, q6⟩ := hown6.formN
      clear p1 p2 p3 hown6
      go_wp2_with fail
      with_reducible refine (tlvGet_any _ _ _ _ _ q6).mono ?_
      rw [P4.out]
      rintro e w7 ⟨v7, rfl, hown7, hb7⟩
      obtain ⟨A7, n7, c7, rfl, q7⟩ := hown7.read
      have HB7 := bel_call HB6 hb7
      replace q0 := q0.call hb7
      clear hb7 HB6 hown7 q6
      have dd : decide (x0 = x0) = true := by simp
      go_wp2_with fail
      with_reducible refine (tlvSame_any _ _ _ _ _ _ _ _ _ q7 q0).mono ?_
      rintro e w8 ⟨rfl, hb8⟩
      have HB8 := bel_call HB7 hb8
      go_wp2
      go_ret
      exact ⟨rfl, HB8⟩
    · rw [pO_err hp] at hown6
      obtain ⟨A6, c6, rfl, q6⟩ := hown6.form
      have hne : (pE x0 != 0) = true := by simpa using hp
      clear hp hown6
      go_wp2
      go_ret
      exact ⟨rfl, HB6⟩
  · have hne : ((getR x1).2 == 0) = false := by simpa using hg
    clear hg
    go_wp2_with fail
    with_reducible refine (tlvPut_any _ _ _ _ _ q0).mono ?_
    rintro e w6 ⟨v6, rfl, hown6, hb6⟩
    have HB6 := bel_call HB3 hb6
    replace q0 := q0.call hb6
    clear hb6 HB3
    by_cases hp : pE x0 = 0
    · obtain ⟨p1, p2, p3⟩ := pE_zero hp
      have P4 := hid (getR_put W0.out p1 p2)
      rw [p3] at hown6
      obtain ⟨A6, n6, c6, rfl, q6⟩ := hown6.formN
      clear p1 p2 p3 hown6
      go_wp2_with fail
      with_reducible refine (tlvGet_any _ _ _ _ _ q6).mono ?_
      rw [P4.out]
      rintro e w7 ⟨v7, rfl, hown7, hb7⟩
      obtain ⟨A7, n7, c7, rfl, q7⟩ := hown7.read
      have HB7 := bel_call HB6 hb7
      replace q0 := q0.call hb7
      clear hb7 HB6 hown7 q6
      have dd : decide (x0 = x0) = true := by simp
      go_wp2_with fail
      with_reducible refine (tlvSame_any _ _ _ _ _ _ _ _ _ q7 q0).mono ?_
      rintro e w8 ⟨rfl, hb8⟩
      have HB8 := bel_call HB7 hb8
      go_wp2
      go_ret
      exact ⟨rfl, HB8⟩
    · rw [pO_err hp] at hown6
      obtain ⟨A6, c6, rfl, q6⟩ := hown6.form
      have hne : (pE x0 != 0) = true := by simpa using hp
      clear hp hown6
      go_wp2
      go_ret
      exact ⟨rfl, HB6⟩
end Go.Proofs.Ytajgjalcomhhcaa
