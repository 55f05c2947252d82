/-
  The contracts of the document's answers of layer 4.
-/
import Derived.Test.YtannjlejghmfpaaMoneyLive
namespace Go.Proofs.Ytannjlejghmfpaa
open Go.RowKit Go.WalkArith

theorem rd_twoB (w : World) (a c : Int) (b : Nat) (hb : b = w.heap.size) (ha : (Lit.int .u64 a).wf = true) (hc : (Lit.int .u64 c).wf = true) : Rd (w.alloc (.cells #[.int .u64 a, .int .u64 c] 23)) (w.alloc (.cells #[.int .u64 a, .int .u64 c] 23)).heap.size .u64 (some ⟨b, 0, none⟩) 2 2 [a, c] := by
  subst hb
  exact rd_two w a c ha hc

set_option maxHeartbeats 1000000 in
theorem rmCheck_any (A : Option Addr) (n c B : Nat) (xs : List Int) (w : World) (hr : Rd w B .u64 A n c xs) :
    Calls Try.prog 28 #[.slice A n c] w fun e w' => e = .returned (.int .i64 (chkM xs)) ∧ w = w' := by
  have hcap := hr.cap
  unfold maxLen at hcap
  have HL := hid hr.len
  go_enter Try.func28, Try.ntmps28
  go_wp2
  go_loop [7] (fun i => ∃ j : Nat, j ≤ n ∧ i = .int .i64 j ∧ allLe mMax (xs.take j) = true) (fun i => n - (intOf i).toNat)
  case atStart => exact ⟨0, Nat.zero_le _, rfl, rfl⟩
  case round =>
    obtain ⟨j, hj, rfl, hpre⟩ := hrel
    have HP := hid hpre
    clear hpre
    by_cases hlt : j < n
    · obtain ⟨b1, o1, rfl, hb1, hc1⟩ := hr.at_ (by omega)
      have q1 := hc1 j hlt
      clear hc1
      by_cases he : mMax < nth xs j
      · have HN := hid (show chkM xs = 1 from by rw [chkM, allLe_bad (by rw [HL.out]; exact hlt) he]; rfl)
        have hd : 4611686018427387904 < nth xs j := he
        clear he
        generalize nth xs j = x at *
        go_wp2
        go_ret
        exact ⟨ret_num HN.out.symm, rfl⟩
      · have HN := hid (allLe_take (by rw [HL.out]; exact hlt) HP.out (by omega : nth xs j ≤ mMax))
        have hd : decide (4611686018427387904 < nth xs j) = false := decide_eq_false he
        clear he
        generalize nth xs j = x at *
        go_wp2
        go_round
        case rel => exact ⟨j + 1, by omega, by go_num, HN.out⟩
        case measure => simp [intOf]; omega
    · have HN := hid (show chkM xs = 0 from by rw [chkM, allLe_all (by rw [HL.out]; omega) HP.out]; rfl)
      go_wp2
      go_ret
      exact ⟨ret_num HN.out.symm, rfl⟩

end Go.Proofs.Ytannjlejghmfpaa
