/-
  SameBytes, SameNumbers.
-/
import Derived.Test.YtpkfejfdbjoehaaBigsize
namespace Go.Proofs.Ytpkfejfdbjoehaa
open Go.RowKit Go.WalkArith

theorem take_same {xs ys : List Int} {j : Nat} (hx : j < xs.length) (hy : j < ys.length) (h : xs.take j = ys.take j) (e : nth xs j = nth ys j) : xs.take (j + 1) = ys.take (j + 1) := by
  rw [List.take_succ_eq_append_getElem hx, List.take_succ_eq_append_getElem hy, h, ← nth_get hx, ← nth_get hy, e]

set_option maxHeartbeats 1000000 in
theorem sameNumbers_any (A1 A2 : Option Addr) (n1 c1 n2 c2 : Nat) (xs ys : List Int) (w : World) (h1 : Rd w w.heap.size .u64 A1 n1 c1 xs) (h2 : Rd w w.heap.size .u64 A2 n2 c2 ys) :
    Calls Try.prog 22 #[.slice A1 n1 c1, .slice A2 n2 c2] w fun e w' => e = .returned (.bool (decide (xs = ys))) ∧ Below w.heap.size w w' := by
  have l1 := h1.len
  have l2 := h2.len
  have k1 := h1.cap
  have k2 := h2.cap
  unfold maxLen at k1 k2
  by_cases hl : n1 = n2
  · subst hl
    have hne : ((n1 : Int) != (n1 : Int)) = false := by simp
    have K1 := hid l1
    have K2 := hid l2
    clear l1 l2
    go_enter Try.func22, Try.ntmps22
    go_wp2
    go_loopw [13] (fun i wr => ∃ j : Nat, j ≤ n1 ∧ i = .int .i64 j ∧ xs.take j = ys.take j ∧ Below w.heap.size w wr) (fun i _ => n1 - (intOf i).toNat)
    case atStart => exact ⟨0, Nat.zero_le _, rfl, rfl, Below.refl _ _⟩
    case round =>
      obtain ⟨j, hj, rfl, hpre, hbel⟩ := hrel
      have HP := hid hpre
      clear hpre
      by_cases hlt : j < n1
      · obtain ⟨b1, o1, rfl, hb1, hc1⟩ := h1.at_ (by omega)
        obtain ⟨b2, o2, rfl, hb2, hc2⟩ := h2.at_ (by omega)
        have q1 := (hbel.cell (p := ⟨b1, o1 + j, none⟩) hb1).trans (hc1 j hlt)
        have q2 := (hbel.cell (p := ⟨b2, o2 + j, none⟩) hb2).trans (hc2 j hlt)
        clear hc1 hc2
        by_cases he : nth xs j = nth ys j
        · have HE := hid he
          have hnn : (nth xs j != nth ys j) = false := by simp [he]
          have HN := hid (take_same (by rw [K1.out]; exact hlt) (by rw [K2.out]; exact hlt) HP.out he)
          clear he
          go_wp2_with fail
          go_quiet (fail)
          go_wp2
          go_roundw
          case rel => exact ⟨j + 1, by omega, by go_num, HN.out, bel_drewN hbel _⟩
          case measure => simp [intOf]; omega
        · have hnn : (nth xs j != nth ys j) = true := by simpa using he
          have HN := hid (show decide (xs = ys) = false from by rw [decide_eq_false]; intro e; exact he (by rw [e]))
          clear he
          go_wp2_with fail
          go_quiet (fail)
          go_wp2
          go_ret
          exact ⟨ret_bool HN.out.symm, bel_drewN hbel _⟩
      · have HN := hid (show decide (xs = ys) = true from by
          have := HP.out
          rw [List.take_of_length_le (by rw [K1.out]; omega), List.take_of_length_le (by rw [K2.out]; omega)] at this
          exact decide_eq_true this)
        go_wp2
        go_ret
        exact ⟨ret_bool HN.out.symm, hbel⟩
  · have hne : ((n1 : Int) != (n2 : Int)) = true := by simp; omega
    have HN := hid (show decide (xs = ys) = false from by rw [decide_eq_false]; intro e; rw [e] at l1; omega)
    clear l1 l2
    go_enter Try.func22, Try.ntmps22
    go_wp2
    go_ret
    exact ⟨ret_bool HN.out.symm, Below.refl _ _⟩

end Go.Proofs.Ytpkfejfdbjoehaa
