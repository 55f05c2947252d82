/-
  The contracts of the document's answers of layer 4.
-/
import Derived.Test.YtpkfejfdbjoehaaMoneyLive
namespace Go.Proofs.Ytpkfejfdbjoehaa
open Go.RowKit Go.WalkArith

theorem rd_twoB (w : World) (a c : Int) (b : Nat) (hb : b = w.heap.size) (ha : (Lit.int .u64 a).wf = true) (hc : (Lit.int .u64 c).wf = true) : Rd (w.alloc (.cells #[.int .u64 a, .int .u64 c] 24)) (w.alloc (.cells #[.int .u64 a, .int .u64 c] 24)).heap.size .u64 (some ⟨b, 0, none⟩) 2 2 [a, c] := by
  subst hb
  exact rd_two w a c ha hc

set_option maxHeartbeats 1000000 in
theorem rmCheck_any (A : Option Addr) (n c B : Nat) (xs : List Int) (w : World) (hr : Rd w B .u64 A n c xs) :
    Calls Try.prog 64 #[.slice A n c] w fun e w' => e = .returned (.int .i64 (chkM xs)) ∧ w = w' := by
  have hcap := hr.cap
  unfold maxLen at hcap
  have HL := hid hr.len
  go_enter Try.func64, Try.ntmps64
  go_wp2
  go_loop [7] (fun i => ∃ j : Nat, j ≤ n ∧ i = .int .i64 j ∧ allLe mMax (xs.take j) = true) (fun i => n - (intOf i).toNat)
  case atStart => exact ⟨0, Nat.zero_le _, rfl, rfl⟩
  case round =>
    obtain ⟨j, hj, rfl, hpre⟩ := hrel
    have HP := hid hpre
    clear hpre
    by_cases hlt : j < n
    · obtain ⟨b1, o1, rfl, hb1, hc1⟩ := hr.at_ (by omega)
      have q1 := hc1 j hlt
      clear hc1
      by_cases he : mMax < nth xs j
      · have HN := hid (show chkM xs = 1 from by rw [chkM, allLe_bad (by rw [HL.out]; exact hlt) he]; rfl)
        have hd : 4611686018427387904 < nth xs j := he
        clear he
        generalize nth xs j = x at *
        go_wp2
        go_ret
        exact ⟨ret_num HN.out.symm, rfl⟩
      · have HN := hid (allLe_take (by rw [HL.out]; exact hlt) HP.out (by omega : nth xs j ≤ mMax))
        have hd : decide (4611686018427387904 < nth xs j) = false := decide_eq_false he
        clear he
        generalize nth xs j = x at *
        go_wp2
        go_round
        case rel => exact ⟨j + 1, by omega, by go_num, HN.out⟩
        case measure => simp [intOf]; omega
    · have HN := hid (show chkM xs = 0 from by rw [chkM, allLe_all (by rw [HL.out]; omega) HP.out]; rfl)
      go_wp2
      go_ret
      exact ⟨ret_num HN.out.symm, rfl⟩

set_option maxHeartbeats 1000000 in
theorem rmAdd_any (A : Option Addr) (n c B : Nat) (xs : List Int) (w : World) (hr : Rd w B .u64 A n c xs) :
    Calls Try.prog 48 #[.slice A n c] w fun e w' => e = .returned (.tuple #[.int .u64 (addN xs), .int .i64 (addE xs)]) ∧ w = w' := by
  have hcap := hr.cap
  unfold maxLen at hcap
  have HL := hid hr.len
  have HX := hid (nonneg_u64 hr.wf)
  by_cases ha : allLe mMax xs = true
  · have HC := hid (show chkM xs = 0 from if_pos ha)
    have HA := hid ha
    clear ha
    go_enter Try.func48, Try.ntmps48
    go_wp2_with (go_at_call 64; go_must (refine (rmCheck_any _ _ _ _ xs _ hr).mono ?_; rw [HC.out]; rintro e w1 ⟨rfl, rfl⟩))
    go_loop [4, 12] (fun s i => ∃ j : Nat, j ≤ n ∧ i = .int .i64 j ∧ s = .int .u64 (upM xs j) ∧ upM xs j ≤ mMax) (fun _ i => n - (intOf i).toNat)
    case atStart => exact ⟨0, Nat.zero_le _, rfl, by rw [upM_zero], by rw [upM_zero]; decide⟩
    case round =>
      obtain ⟨j, hj, rfl, rfl, hle⟩ := hrel
      have h0 := upM_nonneg HX.out j
      change upM xs j ≤ 4611686018427387904 at hle
      by_cases hlt : j < n
      · obtain ⟨b1, o1, rfl, hb1, hc1⟩ := hr.at_ (by omega)
        have q1 := hc1 j hlt
        have hm := nth_mem (xs := xs) (j := j) (by rw [HL.out]; exact hlt)
        have hx0 := HX.out _ hm
        have hx1 : nth xs j ≤ 4611686018427387904 := allLe_iff.1 HA.out _ hm
        have HU := hid (upM_succ (ws := xs) (j := j) (by rw [HL.out]; exact hlt))
        have HV := hid (upM_le HX.out (j + 1))
        clear hc1 hm
        generalize upM xs j = s at *
        generalize nth xs j = x at *
        by_cases hs : s + x ≤ 4611686018427387904
        · have hd : decide (4611686018427387904 - s < x) = false := by simp; omega
          go_wp2
          go_round
          case rel => exact ⟨j + 1, by omega, by go_num, by rw [HU.out], by rw [HU.out]; exact hs⟩
          case measure => simp [intOf]; omega
        · have hE : addE xs = 8 := by rw [addE, if_pos HA.out, if_neg (by have := HU.out; have := HV.out; unfold mMax; omega)]
          have hN : addN xs = 0 := by rw [addN, if_neg (by rw [hE]; decide)]
          have HE := hid hE
          have HN := hid hN
          have hd : 4611686018427387904 - s < x := by omega
          clear hE hN hs
          go_wp2
          go_ret2
          exact ⟨by rw [HE.out, HN.out]; rfl, rfl⟩
      · have hE : addE xs = 0 := by rw [addE, if_pos HA.out, if_pos (by rw [upM_all (by rw [HL.out]; omega)] at hle; exact hle)]
        have hN : addN xs = upM xs j := by rw [addN, if_pos hE, upM_all (by rw [HL.out]; omega)]
        have HE := hid hE
        have HN := hid hN
        clear hE hN
        generalize upM xs j = s at *
        go_wp2
        go_ret2
        exact ⟨by rw [HE.out, HN.out]; rfl, rfl⟩
  · have HC := hid (show chkM xs = 1 from if_neg ha)
    have hE : addE xs = 1 := if_neg ha
    have hN : addN xs = 0 := if_neg (by rw [hE]; decide)
    have HE := hid hE
    have HN := hid hN
    clear ha hE hN
    go_enter Try.func48, Try.ntmps48
    go_wp2_with (go_at_call 64; go_must (refine (rmCheck_any _ _ _ _ xs _ hr).mono ?_; rw [HC.out]; rintro e w1 ⟨rfl, rfl⟩))
    go_ret2
    exact ⟨by rw [HE.out, HN.out]; rfl, rfl⟩

end Go.Proofs.Ytpkfejfdbjoehaa
