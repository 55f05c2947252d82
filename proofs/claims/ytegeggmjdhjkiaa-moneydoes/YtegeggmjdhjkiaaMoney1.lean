/-
  The contracts of package money's small functions.
-/
import Derived.Test.YtegeggmjdhjkiaaStd
import Derived.Test.YtegeggmjdhjkiaaRet
import Derived.Test.YtegeggmjdhjkiaaMoneyMath
namespace Go.Proofs.Ytegeggmjdhjkiaa
open Go.RowKit Go.WalkArith

theorem above1_any (x m : Int) (b : Nat) (w : World) (hc : w.cell? ⟨b, 0, none⟩ = some (.int .u64 m)) :
    Calls Try.prog 29 #[.int .u64 x, .pointer (some ⟨b, 0, none⟩)] w fun e w' => e = .returned (.bool (decide (m < x))) ∧ w = w' := by
  go_enter Try.func29, Try.ntmps29
  go_wp2
  go_ret
  exact ⟨rfl, rfl⟩

set_option maxHeartbeats 1000000 in
theorem indexAbove_any (A : Option Addr) (n c B : Nat) (xs : List Int) (m : Int) (b : Nat) (w : World) (hr : Rd w B .u64 A n c xs) (hc : w.cell? ⟨b, 0, none⟩ = some (.int .u64 m)) :
    Calls Try.prog 30 #[.slice A n c, .func (.func 29) #[] #[.pointer (some ⟨b, 0, none⟩)]] w fun e w' => ∃ r : Int, e = .returned (.int .i64 r) ∧ decide (0 ≤ r) = !(allLe m xs) ∧ w = w' := by
  have hcap := hr.cap
  unfold maxLen at hcap
  have HL := hid hr.len
  go_enter Try.func30, Try.ntmps30
  go_wp2
  go_loop [8] (fun i => ∃ j : Nat, j ≤ n ∧ i = .int .i64 j ∧ allLe m (xs.take j) = true) (fun i => n - (intOf i).toNat)
  case atStart => exact ⟨0, Nat.zero_le _, rfl, rfl⟩
  case round =>
    obtain ⟨j, hj, rfl, hpre⟩ := hrel
    have HP := hid hpre
    clear hpre
    by_cases hlt : j < n
    · obtain ⟨b1, o1, rfl, hb1, hc1⟩ := hr.at_ (by omega)
      have q1 := hc1 j hlt
      clear hc1
      by_cases he : m < nth xs j
      · have HN := hid (allLe_bad (by rw [HL.out]; exact hlt) he)
        have hd : decide (m < nth xs j) = true := decide_eq_true he
        clear he
        generalize nth xs j = x at *
        go_wp2_with (go_at_call 29; go_must (refine (above1_any x m b _ hc).mono ?_; rintro e w' ⟨rfl, rfl⟩))
        go_ret
        exact ⟨_, rfl, by rw [HN.out]; simp, rfl⟩
      · have HN := hid (allLe_take (by rw [HL.out]; exact hlt) HP.out (by omega : nth xs j ≤ m))
        have hd : decide (m < nth xs j) = false := decide_eq_false he
        clear he
        generalize nth xs j = x at *
        go_wp2_with (go_at_call 29; go_must (refine (above1_any x m b _ hc).mono ?_; rintro e w' ⟨rfl, rfl⟩))
        go_round
        case rel => exact ⟨j + 1, by omega, by go_num, HN.out⟩
        case measure => simp [intOf]; omega
    · have HN := hid (allLe_all (by rw [HL.out]; omega) HP.out)
      go_wp2
      go_ret
      exact ⟨_, rfl, by rw [HN.out]; simp, rfl⟩

set_option maxHeartbeats 1000000 in
theorem containsAbove_any (A : Option Addr) (n c B : Nat) (xs : List Int) (m : Int) (b : Nat) (w : World) (hr : Rd w B .u64 A n c xs) (hc : w.cell? ⟨b, 0, none⟩ = some (.int .u64 m)) :
    Calls Try.prog 28 #[.slice A n c, .func (.func 29) #[] #[.pointer (some ⟨b, 0, none⟩)]] w fun e w' => e = .returned (.bool (!(allLe m xs))) ∧ w = w' := by
  go_enter Try.func28, Try.ntmps28
  go_wp2_with (go_at_call 30; go_must (refine (indexAbove_any _ _ _ _ xs m b _ hr hc).mono ?_; rintro e w' ⟨r, rfl, hk, rfl⟩))
  go_ret
  exact ⟨rfl, rfl⟩

set_option maxHeartbeats 1000000 in
theorem anyAbove_any (A : Option Addr) (n c B : Nat) (xs : List Int) (m : Int) (w : World) (hr : Rd w B .u64 A n c xs) (hB : B ≤ w.heap.size) :
    Calls Try.prog 27 #[.int .u64 m, .slice A n c] w fun e w' => e = .returned (.bool (!(allLe m xs))) ∧ Below w.heap.size w w' := by
  have hr' := hr.alloc hB (.cells #[.int .u64 m] 23)
  have hc : (w.alloc (.cells #[.int .u64 m] 23)).cell? ⟨w.heap.size, 0, none⟩ = some (.int .u64 m) := by rw [World.cell?_alloc_at] <;> rfl
  go_enter Try.func27, Try.ntmps27
  go_wp2_with (go_at_call 28; go_must (refine (containsAbove_any _ _ _ _ xs m _ _ hr' hc).mono ?_; rintro e w' ⟨rfl, rfl⟩))
  go_ret
  exact ⟨rfl, bel_alloc (Below.refl _ _) _⟩

set_option maxHeartbeats 1000000 in
theorem mCheck_any (A : Option Addr) (n c B : Nat) (xs : List Int) (w : World) (hr : Rd w B .u64 A n c xs) (hB : B ≤ w.heap.size) :
    Calls Try.prog 21 #[.slice A n c] w fun e w' => e = .returned (.int .i64 (chkM xs)) ∧ Below w.heap.size w w' := by
  by_cases h : allLe mMax xs = true
  · have H := hid (show chkM xs = 0 from if_pos h)
    have h' : (!(allLe 4611686018427387904 xs)) = false := by change (!(allLe mMax xs)) = false; rw [h]; rfl
    clear h
    go_enter Try.func21, Try.ntmps21
    go_wp2_with (go_at_call 27; go_must (refine (anyAbove_any _ _ _ _ xs _ _ hr hB).mono ?_; rw [h']; rintro e w' ⟨rfl, hb⟩))
    go_ret
    exact ⟨ret_num H.out.symm, hb⟩
  · have H := hid (show chkM xs = 1 from if_neg h)
    have h' : (!(allLe 4611686018427387904 xs)) = true := by change (!(allLe mMax xs)) = true; simpa using h
    clear h
    go_enter Try.func21, Try.ntmps21
    go_wp2_with (go_at_call 27; go_must (refine (anyAbove_any _ _ _ _ xs _ _ hr hB).mono ?_; rw [h']; rintro e w' ⟨rfl, hb⟩))
    go_ret
    exact ⟨ret_num H.out.symm, hb⟩

set_option maxHeartbeats 1000000 in
theorem scale_any (a p q : Int) (w : World) (h0 : 0 ≤ a) (h1 : a ≤ mMax) (hp : 0 ≤ p) (hpq : p ≤ q) (hq : 0 < q) (hq2 : q ≤ 64000000) :
    Calls Try.prog 23 #[.int .u64 a, .int .u64 p, .int .u64 q] w fun e w' => e = .returned (.int .u64 (scl a p q)) ∧ ∃ m, w' = w.drewN m := by
  obtain ⟨k1, k2, k3, k4, k5, k6, k7⟩ := scl_bounds h0 hp hpq hq hq2
  have HS := hid (scl_apart a p q hq)
  have k8 : 0 ≤ a % q * p / q := Int.ediv_nonneg k6 (by omega)
  have k9 : a % q * p / q ≤ a % q * p := Int.ediv_le_self _ k6
  have k10 := Int.ediv_le_self q h0
  change a ≤ 4611686018427387904 at h1
  have hne : (q == 0) = false := by simp; omega
  have t1 : a.tdiv q = a / q := Int.tdiv_eq_ediv_of_nonneg h0
  have t2 : a.tmod q = a % q := Int.tmod_eq_emod_of_nonneg h0
  have t3 : (a % q * p).tdiv q = a % q * p / q := Int.tdiv_eq_ediv_of_nonneg k6
  have w1 : IntKind.u64.wrap (a / q) = a / q := IntWalk.u64_in _ (by omega)
  have w2 : IntKind.u64.wrap (a / q * p) = a / q * p := IntWalk.u64_in _ (by omega)
  have w3 : IntKind.u64.wrap (a % q) = a % q := IntWalk.u64_in _ (by omega)
  have w4 : IntKind.u64.wrap (a % q * p) = a % q * p := IntWalk.u64_in _ (by omega)
  have w5 : IntKind.u64.wrap (a % q * p / q) = a % q * p / q := IntWalk.u64_in _ (by omega)
  have w6 : IntKind.u64.wrap (a / q * p + a % q * p / q) = a / q * p + a % q * p / q := IntWalk.u64_in _ (by omega)
  go_enter Try.func23, Try.ntmps23
  go_wp2
  go_quiet (fail)
  go_wp2
  go_ret
  exact ⟨ret_num HS.out, _, rfl⟩
end Go.Proofs.Ytegeggmjdhjkiaa
