/-
  The walk of RootsFull.
-/
import Derived.Test.YtlenoiaepanejaaRootsSpec
namespace Go.Proofs.Ytlenoiaepanejaa
open Go.RowKit Go.WalkArith

set_option maxRecDepth 100000 in
set_option maxHeartbeats 4000000 in
theorem rootsFull_walkH (HR : RootsSpec) (a0 a1 : Int) (w : World) (b0 : 0 ≤ a0 ∧ a0 ≤ 18446744073709551615) (b1 : 0 ≤ a1 ∧ a1 ≤ 255) :
    Calls Try.prog 6 #[.int .u64 a0, .int .u8 a1] w fun e w' => e = .returned (.bool true) ∧ Below w.heap.size w w' := by
  go_enter Try.func6, Try.ntmps6
  go_wp2_with fail
  refine (live8_any HR _).mono ?_
  rintro e w1 ⟨rfl, hb1⟩
  have HB := hb1
  clear hb1
  by_cases h0 : 1099511627776 < a0
  · go_wp2
    go_ret
    exact ⟨rfl, HB⟩
  have d0 : decide ((1099511627776 : Int) < a0) = false := by simp; omega
  by_cases h1 : 80 < a1
  · go_wp2
    go_ret
    exact ⟨rfl, HB⟩
  have d1 : decide ((80 : Int) < a1) = false := by simp; omega
  obtain ⟨m, rfl⟩ := Int.eq_ofNat_of_zero_le b1.1
  go_wp2
  go_loopw [5, 19] (fun u i wr => ∃ (j : Nat) (A : Option Addr) (n c : Nat), j ≤ m ∧ i = .int .u64 j ∧ u = .slice A n c ∧ Sl lay_RootKey wr (· < wr.heap.size) A n c (rtFull a0 (min j 64)) ∧ Below w.heap.size w wr) (fun _ i _ => m - (intOf i).toNat)
  case atStart => exact ⟨0, none, 0, 0, Nat.zero_le _, rfl, rfl, Sl.nil _ _ _, HB⟩
  case round =>
    obtain ⟨j, A, n, c, hj, rfl, rfl, hs, hbel⟩ := hrel
    clear HB
    by_cases hlt : j < m
    · have HA := hid (HR.add A n c (rtFull a0 (min j 64)) (a0 + j) (a0 + 2 * j) wr hs (wf_u64 (by omega)) (wf_u64 (by omega)))
      by_cases h64 : j < 64
      · have e1 : min j 64 = j := by omega
        rw [e1, full_add a0 (by omega) (Nat.le_refl _), if_neg (by omega), full_next a0 h64] at HA
        have e2 : min (j + 1) 64 = j + 1 := by omega
        have d2 : decide ((j : Int) < 64) = true := by simp; omega
        have E2 := hid e2
        clear e1 e2 hs
        go_wp2_with fail
        refine HA.out.mono ?_
        rintro e w2 ⟨v2, rfl, ho2, hb2⟩
        obtain ⟨A2, n2, c2, rfl, hs2⟩ := ho2.read
        have HB2 := bel_call hbel hb2
        clear ho2 hb2 hbel HA
        go_wp2
        go_roundw
        case rel => exact ⟨j + 1, A2, n2, c2, by omega, by go_num, rfl, by rw [E2.out]; exact hs2, HB2⟩
        case measure => simp [intOf]; omega
      · have e1 : min j 64 = 64 := by omega
        rw [e1, full_add a0 (Nat.le_refl _) (by omega), if_pos rfl] at HA
        rw [e1] at hs
        have e2 : min (j + 1) 64 = 64 := by omega
        have d2 : decide ((j : Int) < 64) = false := by simp; omega
        have E2 := hid e2
        clear e1 e2
        go_wp2_with fail
        refine HA.out.mono ?_
        rintro e w2 ⟨v2, rfl, ho2, hb2⟩
        obtain ⟨A2, n2, c2, rfl, hs2⟩ := ho2.read
        have HB2 := bel_call hbel hb2
        have hs3 := Sl.call hs hb2
        clear ho2 hb2 hbel HA hs2 hs
        go_wp2
        go_roundw
        case rel => exact ⟨j + 1, A, n, c, by omega, by go_num, rfl, by rw [E2.out]; exact hs3, HB2⟩
        case measure => simp [intOf]; omega
    · have hm : j = m := by omega
      subst hm
      have hn : n = min j 64 := by rw [← hs.len, rtFull_len]
      have HN := hid hn
      clear hn hs
      go_wp2
      all_goals
        go_ret
        exact ⟨ret_bool (by simp only [beq_iff_eq]; have := HN.out; omega), hbel⟩
end Go.Proofs.Ytlenoiaepanejaa
