/-
  The contracts of package money's Add, Sub, Share, Fee, and of its weigh.
-/
import Derived.Test.YtanlpcndbfmkiaaMoney1
namespace Go.Proofs.Ytanlpcndbfmkiaa
open Go.RowKit Go.WalkArith

set_option maxHeartbeats 1000000 in
theorem mAdd_any (A : Option Addr) (n c B : Nat) (xs : List Int) (w : World) (hr : Rd w B .u64 A n c xs) (hB : B ≤ w.heap.size) :
    Calls Try.prog 76 #[.slice A n c] w fun e w' => e = .returned (.tuple #[.int .u64 (addN xs), .int .i64 (addE xs)]) ∧ Below w.heap.size w w' := by
  have hcap := hr.cap
  unfold maxLen at hcap
  have HL := hid hr.len
  have HX := hid (nonneg_u64 hr.wf)
  by_cases ha : allLe mMax xs = true
  · have HC := hid (show chkM xs = 0 from if_pos ha)
    have HA := hid ha
    clear ha
    go_enter Try.func76, Try.ntmps76
    go_wp2_with (go_at_call 81; go_must (refine (mCheck_any _ _ _ _ xs _ hr hB).mono ?_; rw [HC.out]; rintro e w1 ⟨rfl, hb⟩))
    have hr1 := (hr.more hB).below hb
    go_loop [5, 15] (fun s i => ∃ j : Nat, j ≤ n ∧ i = .int .i64 j ∧ s = .int .u64 (upM xs j) ∧ upM xs j ≤ mMax) (fun _ i => n - (intOf i).toNat)
    case atStart => exact ⟨0, Nat.zero_le _, rfl, by rw [upM_zero], by rw [upM_zero]; decide⟩
    case round =>
      obtain ⟨j, hj, rfl, rfl, hle⟩ := hrel
      have h0 := upM_nonneg HX.out j
      change upM xs j ≤ 4611686018427387904 at hle
      by_cases hlt : j < n
      · obtain ⟨b1, o1, rfl, hb1, hc1⟩ := hr1.at_ (by omega)
        have q1 := hc1 j hlt
        have hm := nth_mem (xs := xs) (j := j) (by rw [HL.out]; exact hlt)
        have hx0 := HX.out _ hm
        have hx1 : nth xs j ≤ 4611686018427387904 := allLe_iff.1 HA.out _ hm
        have HU := hid (upM_succ (ws := xs) (j := j) (by rw [HL.out]; exact hlt))
        have HV := hid (upM_le HX.out (j + 1))
        clear hc1 hm
        generalize upM xs j = s at *
        generalize nth xs j = x at *
        by_cases hs : s + x ≤ 4611686018427387904
        · have hd : decide (4611686018427387904 < s + x) = false := by simp; omega
          go_wp2
          go_round
          case rel => exact ⟨j + 1, by omega, by go_num, by rw [HU.out], by rw [HU.out]; exact hs⟩
          case measure => simp [intOf]; omega
        · have hE : addE xs = 8 := by rw [addE, if_pos HA.out, if_neg (by have := HU.out; have := HV.out; unfold mMax; omega)]
          have hN : addN xs = 0 := by rw [addN, if_neg (by rw [hE]; decide)]
          have HE := hid hE
          have HN := hid hN
          have hd : 4611686018427387904 < s + x := by omega
          clear hE hN hs
          go_wp2
          go_ret2
          exact ⟨by rw [HE.out, HN.out]; rfl, hb⟩
      · have hE : addE xs = 0 := by rw [addE, if_pos HA.out, if_pos (by rw [upM_all (by rw [HL.out]; omega)] at hle; exact hle)]
        have hN : addN xs = upM xs j := by rw [addN, if_pos hE, upM_all (by rw [HL.out]; omega)]
        have HE := hid hE
        have HN := hid hN
        clear hE hN
        generalize upM xs j = s at *
        go_wp2
        go_ret2
        exact ⟨by rw [HE.out, HN.out]; rfl, hb⟩
  · have HC := hid (show chkM xs = 1 from if_neg ha)
    have hE : addE xs = 1 := if_neg ha
    have hN : addN xs = 0 := if_neg (by rw [hE]; decide)
    have HE := hid hE
    have HN := hid hN
    clear ha hE hN
    go_enter Try.func76, Try.ntmps76
    go_wp2_with (go_at_call 81; go_must (refine (mCheck_any _ _ _ _ xs _ hr hB).mono ?_; rw [HC.out]; rintro e w1 ⟨rfl, hb⟩))
    go_ret2
    exact ⟨by rw [HE.out, HN.out]; rfl, hb⟩

theorem rd_two (w : World) (a b : Int) (ha : (Lit.int .u64 a).wf = true) (hb : (Lit.int .u64 b).wf = true) : Rd (w.alloc (.cells #[.int .u64 a, .int .u64 b] 23)) (w.alloc (.cells #[.int .u64 a, .int .u64 b] 23)).heap.size .u64 (some ⟨w.heap.size, 0, none⟩) 2 2 [a, b] :=
  Rd.lit2 (by rw [World.cell?_alloc_at] <;> rfl) (by rw [World.cell?_alloc_at] <;> rfl) ha hb
theorem rd_one (w : World) (a : Int) (ha : (Lit.int .u64 a).wf = true) : Rd (w.alloc (.cells #[.int .u64 a] 23)) (w.alloc (.cells #[.int .u64 a] 23)).heap.size .u64 (some ⟨w.heap.size, 0, none⟩) 1 1 [a] :=
  Rd.lit1 (by rw [World.cell?_alloc_at] <;> rfl) ha

end Go.Proofs.Ytanlpcndbfmkiaa
