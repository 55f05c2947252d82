/-
  The contracts of the document's answers of layer 4.
-/
import Derived.Test.YtegeggmjdhjkiaaMoneyLive
namespace Go.Proofs.Ytegeggmjdhjkiaa
open Go.RowKit Go.WalkArith

theorem rd_twoB (w : World) (a c : Int) (b : Nat) (hb : b = w.heap.size) (ha : (Lit.int .u64 a).wf = true) (hc : (Lit.int .u64 c).wf = true) : Rd (w.alloc (.cells #[.int .u64 a, .int .u64 c] 23)) (w.alloc (.cells #[.int .u64 a, .int .u64 c] 23)).heap.size .u64 (some ⟨b, 0, none⟩) 2 2 [a, c] := by
  subst hb
  exact rd_two w a c ha hc

set_option maxHeartbeats 1000000 in
theorem rmCheck_any (A : Option Addr) (n c B : Nat) (xs : List Int) (w : World) (hr : Rd w B .u64 A n c xs) :
    Calls Try.prog 22 #[.slice A n c] w fun e w' => e = .returned (.int .i64 (chkM xs)) ∧ w = w' := by
  have hcap := hr.cap
  unfold maxLen at hcap
  have HL := hid hr.len
  go_enter Try.func22, Try.ntmps22
  go_wp2
  go_loop [7] (fun i => ∃ j : Nat, j ≤ n ∧ i = .int .i64 j ∧ allLe mMax (xs.take j) = true) (fun i => n - (intOf i).toNat)
  case atStart => exact ⟨0, Nat.zero_le _, rfl, rfl⟩
  case round =>
    obtain ⟨j, hj, rfl, hpre⟩ := hrel
    have HP := hid hpre
    clear hpre
    by_cases hlt : j < n
    · obtain ⟨b1, o1, rfl, hb1, hc1⟩ := hr.at_ (by omega)
      have q1 := hc1 j hlt
      clear hc1
      by_cases he : mMax < nth xs j
      · have HN := hid (show chkM xs = 1 from by rw [chkM, allLe_bad (by rw [HL.out]; exact hlt) he]; rfl)
        have hd : 4611686018427387904 < nth xs j := he
        clear he
        generalize nth xs j = x at *
        go_wp2
        go_ret
        exact ⟨ret_num HN.out.symm, rfl⟩
      · have HN := hid (allLe_take (by rw [HL.out]; exact hlt) HP.out (by omega : nth xs j ≤ mMax))
        have hd : decide (4611686018427387904 < nth xs j) = false := decide_eq_false he
        clear he
        generalize nth xs j = x at *
        go_wp2
        go_round
        case rel => exact ⟨j + 1, by omega, by go_num, HN.out⟩
        case measure => simp [intOf]; omega
    · have HN := hid (show chkM xs = 0 from by rw [chkM, allLe_all (by rw [HL.out]; omega) HP.out]; rfl)
      go_wp2
      go_ret
      exact ⟨ret_num HN.out.symm, rfl⟩

set_option maxHeartbeats 1000000 in
theorem rmAdd_any (A : Option Addr) (n c B : Nat) (xs : List Int) (w : World) (hr : Rd w B .u64 A n c xs) :
    Calls Try.prog 11 #[.slice A n c] w fun e w' => e = .returned (.tuple #[.int .u64 (addN xs), .int .i64 (addE xs)]) ∧ w = w' := by
  have hcap := hr.cap
  unfold maxLen at hcap
  have HL := hid hr.len
  have HX := hid (nonneg_u64 hr.wf)
  by_cases ha : allLe mMax xs = true
  · have HC := hid (show chkM xs = 0 from if_pos ha)
    have HA := hid ha
    clear ha
    go_enter Try.func11, Try.ntmps11
    go_wp2_with (go_at_call 22; go_must (refine (rmCheck_any _ _ _ _ xs _ hr).mono ?_; rw [HC.out]; rintro e w1 ⟨rfl, rfl⟩))
    go_loop [4, 12] (fun s i => ∃ j : Nat, j ≤ n ∧ i = .int .i64 j ∧ s = .int .u64 (upM xs j) ∧ upM xs j ≤ mMax) (fun _ i => n - (intOf i).toNat)
    case atStart => exact ⟨0, Nat.zero_le _, rfl, by rw [upM_zero], by rw [upM_zero]; decide⟩
    case round =>
      obtain ⟨j, hj, rfl, rfl, hle⟩ := hrel
      have h0 := upM_nonneg HX.out j
      change upM xs j ≤ 4611686018427387904 at hle
      by_cases hlt : j < n
      · obtain ⟨b1, o1, rfl, hb1, hc1⟩ := hr.at_ (by omega)
        have q1 := hc1 j hlt
        have hm := nth_mem (xs := xs) (j := j) (by rw [HL.out]; exact hlt)
        have hx0 := HX.out _ hm
        have hx1 : nth xs j ≤ 4611686018427387904 := allLe_iff.1 HA.out _ hm
        have HU := hid (upM_succ (ws := xs) (j := j) (by rw [HL.out]; exact hlt))
        have HV := hid (upM_le HX.out (j + 1))
        clear hc1 hm
        generalize upM xs j = s at *
        generalize nth xs j = x at *
        by_cases hs : s + x ≤ 4611686018427387904
        · have hd : decide (4611686018427387904 - s < x) = false := by simp; omega
          go_wp2
          go_round
          case rel => exact ⟨j + 1, by omega, by go_num, by rw [HU.out], by rw [HU.out]; exact hs⟩
          case measure => simp [intOf]; omega
        · have hE : addE xs = 8 := by rw [addE, if_pos HA.out, if_neg (by have := HU.out; have := HV.out; unfold mMax; omega)]
          have hN : addN xs = 0 := by rw [addN, if_neg (by rw [hE]; decide)]
          have HE := hid hE
          have HN := hid hN
          have hd : 4611686018427387904 - s < x := by omega
          clear hE hN hs
          go_wp2
          go_ret2
          exact ⟨by rw [HE.out, HN.out]; rfl, rfl⟩
      · have hE : addE xs = 0 := by rw [addE, if_pos HA.out, if_pos (by rw [upM_all (by rw [HL.out]; omega)] at hle; exact hle)]
        have hN : addN xs = upM xs j := by rw [addN, if_pos hE, upM_all (by rw [HL.out]; omega)]
        have HE := hid hE
        have HN := hid hN
        clear hE hN
        generalize upM xs j = s at *
        go_wp2
        go_ret2
        exact ⟨by rw [HE.out, HN.out]; rfl, rfl⟩
  · have HC := hid (show chkM xs = 1 from if_neg ha)
    have hE : addE xs = 1 := if_neg ha
    have hN : addN xs = 0 := if_neg (by rw [hE]; decide)
    have HE := hid hE
    have HN := hid hN
    clear ha hE hN
    go_enter Try.func11, Try.ntmps11
    go_wp2_with (go_at_call 22; go_must (refine (rmCheck_any _ _ _ _ xs _ hr).mono ?_; rw [HC.out]; rintro e w1 ⟨rfl, rfl⟩))
    go_ret2
    exact ⟨by rw [HE.out, HN.out]; rfl, rfl⟩

set_option maxHeartbeats 1000000 in
theorem rmSub_any (a b : Int) (w : World) (ha : (Lit.int .u64 a).wf = true) (hb : (Lit.int .u64 b).wf = true) :
    Calls Try.prog 13 #[.int .u64 a, .int .u64 b] w fun e w' => e = .returned (.tuple #[.int .u64 (subN a b), .int .i64 (subE a b)]) ∧ Below w.heap.size w w' := by
  have R := hid (rd_two w a b ha hb)
  have HB := hid (bel_alloc (Below.refl w.heap.size w) (.cells #[.int .u64 a, .int .u64 b] 23))
  have b1 := bounds_u64 ha
  have b2 := bounds_u64 hb
  by_cases h : a ≤ mMax ∧ b ≤ mMax
  · have HC := hid (show chkM [a, b] = 0 from by rw [chkM_two, if_pos h])
    by_cases h2 : b ≤ a
    · have hE : subE a b = 0 := by rw [subE, if_pos h, if_pos h2]
      have HN := hid (show subN a b = a - b from if_pos hE)
      have HE := hid hE
      have hd : decide (a < b) = false := by simp; omega
      clear h hE
      go_enter Try.func13, Try.ntmps13
      go_wp2_with (go_at_call 22; go_must (refine (rmCheck_any _ _ _ _ [a, b] _ R.out).mono ?_; rw [HC.out]; rintro e w1 ⟨rfl, rfl⟩))
      go_ret2
      exact ⟨by rw [HE.out, HN.out]; rfl, HB.out⟩
    · have hE : subE a b = 9 := by rw [subE, if_pos h, if_neg h2]
      have HN := hid (show subN a b = 0 from if_neg (by rw [hE]; decide))
      have HE := hid hE
      have hd : a < b := by omega
      clear h hE h2
      go_enter Try.func13, Try.ntmps13
      go_wp2_with (go_at_call 22; go_must (refine (rmCheck_any _ _ _ _ [a, b] _ R.out).mono ?_; rw [HC.out]; rintro e w1 ⟨rfl, rfl⟩))
      go_ret2
      exact ⟨by rw [HE.out, HN.out]; rfl, HB.out⟩
  · have HC := hid (show chkM [a, b] = 1 from by rw [chkM_two, if_neg h])
    have hE : subE a b = 1 := by rw [subE, if_neg h]
    have HN := hid (show subN a b = 0 from if_neg (by rw [hE]; decide))
    have HE := hid hE
    clear h hE
    go_enter Try.func13, Try.ntmps13
    go_wp2_with (go_at_call 22; go_must (refine (rmCheck_any _ _ _ _ [a, b] _ R.out).mono ?_; rw [HC.out]; rintro e w1 ⟨rfl, rfl⟩))
    go_ret2
    exact ⟨by rw [HE.out, HN.out]; rfl, HB.out⟩

set_option maxHeartbeats 1000000 in
theorem rmOf_any (a p q : Int) (w : World) (h0 : 0 ≤ a) (h1 : a ≤ mMax) (hp : 0 ≤ p) (hpq : p ≤ q) (hq : 0 < q) (hq2 : q ≤ 64000000) :
    Calls Try.prog 24 #[.int .u64 a, .int .u64 p, .int .u64 q] w fun e w' => e = .returned (.int .u64 (scl a p q)) ∧ w = w' := by
  obtain ⟨k1, k2, k3, k4, k5, k6, k7⟩ := scl_bounds h0 hp hpq hq hq2
  have HS := hid (scl_apart a p q hq)
  have k8 : 0 ≤ a % q * p / q := Int.ediv_nonneg k6 (by omega)
  have k9 : a % q * p / q ≤ a % q * p := Int.ediv_le_self _ k6
  have k10 := Int.ediv_le_self q h0
  change a ≤ 4611686018427387904 at h1
  have hne : (q == 0) = false := by simp; omega
  have t1 : a.tdiv q = a / q := Int.tdiv_eq_ediv_of_nonneg h0
  have t2 : a.tmod q = a % q := Int.tmod_eq_emod_of_nonneg h0
  have t3 : (a % q * p).tdiv q = a % q * p / q := Int.tdiv_eq_ediv_of_nonneg k6
  have w1 : IntKind.u64.wrap (a / q) = a / q := IntWalk.u64_in _ (by omega)
  have w2 : IntKind.u64.wrap (a / q * p) = a / q * p := IntWalk.u64_in _ (by omega)
  have w3 : IntKind.u64.wrap (a % q) = a % q := IntWalk.u64_in _ (by omega)
  have w4 : IntKind.u64.wrap (a % q * p) = a % q * p := IntWalk.u64_in _ (by omega)
  have w5 : IntKind.u64.wrap (a % q * p / q) = a % q * p / q := IntWalk.u64_in _ (by omega)
  have w6 : IntKind.u64.wrap (a / q * p + a % q * p / q) = a / q * p + a % q * p / q := IntWalk.u64_in _ (by omega)
  go_enter Try.func24, Try.ntmps24
  go_wp2
  go_ret
  exact ⟨ret_num HS.out, rfl⟩

set_option maxHeartbeats 1000000 in
theorem rmShare_any (a p : Int) (w : World) (ha : (Lit.int .u64 a).wf = true) (hp : (Lit.int .u64 p).wf = true) :
    Calls Try.prog 15 #[.int .u64 a, .int .u64 p] w fun e w' => e = .returned (.tuple #[.int .u64 (shareN a p), .int .i64 (shareE a p)]) ∧ Below w.heap.size w w' := by
  have R := hid (rd_one w a ha)
  have HB := hid (bel_alloc (Below.refl w.heap.size w) (.cells #[.int .u64 a] 23))
  have b1 := bounds_u64 ha
  have b2 := bounds_u64 hp
  by_cases h : a ≤ mMax
  · have HC := hid (show chkM [a] = 0 from by rw [chkM_one, if_pos h])
    have HM := hid h
    by_cases h2 : p ≤ 1000000
    · have hE : shareE a p = 0 := if_pos ⟨h, h2⟩
      have HN := hid (show shareN a p = scl a p 1000000 from if_pos hE)
      have HE := hid hE
      have hd : decide (1000000 < p) = false := by simp; omega
      clear h hE
      go_enter Try.func15, Try.ntmps15
      go_wp2_with (first | (go_at_call 22; go_must (refine (rmCheck_any _ _ _ _ [a] _ R.out).mono ?_; rw [HC.out]; rintro e w1 ⟨rfl, rfl⟩)) | (go_at_call 24; go_must (refine (rmOf_any a p 1000000 _ b1.1 HM.out b2.1 h2 (by decide) (by decide)).mono ?_; rintro e w2 ⟨rfl, rfl⟩)))
      go_ret2
      exact ⟨by rw [HE.out, HN.out]; rfl, HB.out⟩
    · have hE : shareE a p = 1 := if_neg fun h => h2 h.2
      have HN := hid (show shareN a p = 0 from if_neg (by rw [hE]; decide))
      have HE := hid hE
      have hd : 1000000 < p := by omega
      clear h hE h2
      go_enter Try.func15, Try.ntmps15
      go_wp2_with (go_at_call 22; go_must (refine (rmCheck_any _ _ _ _ [a] _ R.out).mono ?_; rw [HC.out]; rintro e w1 ⟨rfl, rfl⟩))
      go_ret2
      exact ⟨by rw [HE.out, HN.out]; rfl, HB.out⟩
  · have HC := hid (show chkM [a] = 1 from by rw [chkM_one, if_neg h])
    have hE : shareE a p = 1 := if_neg fun k => h k.1
    have HN := hid (show shareN a p = 0 from if_neg (by rw [hE]; decide))
    have HE := hid hE
    clear h hE
    go_enter Try.func15, Try.ntmps15
    go_wp2_with (go_at_call 22; go_must (refine (rmCheck_any _ _ _ _ [a] _ R.out).mono ?_; rw [HC.out]; rintro e w1 ⟨rfl, rfl⟩))
    go_ret2
    exact ⟨by rw [HE.out, HN.out]; rfl, HB.out⟩

set_option maxHeartbeats 1000000 in
theorem rmFee_any (b p a : Int) (w : World) (hb : (Lit.int .u64 b).wf = true) (hp : (Lit.int .u64 p).wf = true) (ha : (Lit.int .u64 a).wf = true) :
    Calls Try.prog 17 #[.int .u64 b, .int .u64 p, .int .u64 a] w fun e w' => e = .returned (.tuple #[.int .u64 (feeN b p a), .int .i64 (feeE b p a)]) ∧ Below w.heap.size w w' := by
  have hs := shareN_bd (bounds_u64 ha).1 (bounds_u64 hp).1
  have HS := hid (wf_u64 (n := shareN a p) (by have := hs.1; have := hs.2.2; unfold mMax at this; omega))
  rcases shareE_cases a p with ⟨h, -⟩ | ⟨h, -⟩
  · by_cases hbm : b ≤ mMax
    · have HF := hid (feeE_ok (b := b) h)
      have HE := hid h
      have HC := hid (show chkM [b] = 0 from by rw [chkM_one, if_pos hbm])
      clear h hs hbm
      go_enter Try.func17, Try.ntmps17
      go_wp2_with (first | (go_at_call 15; go_must (refine (rmShare_any a p _ ha hp).mono ?_; rw [HE.out]; rintro e w1 ⟨rfl, hb1⟩)) | (go_at_call 22; go_must (refine (rmCheck_any _ _ _ _ [b] _ (rd_one w1 b hb)).mono ?_; rw [HC.out]; rintro e w2 ⟨rfl, rfl⟩)) | (go_at_call 11; go_must (refine (rmAdd_any _ _ _ _ [b, shareN a p] _ (rd_twoB (w1.alloc (.cells #[.int .u64 b] 23)) b (shareN a p) (w1.heap.size + 1) (by simp) hb HS.out)).mono ?_; rintro e w2 ⟨rfl, rfl⟩)))
      go_ret2
      exact ⟨by rw [HF.out.1, HF.out.2]; rfl, bel_alloc (bel_alloc hb1 _) _⟩
    · have hE : feeE b p a = 1 ∧ feeN b p a = 0 := by
        obtain ⟨f1, f2⟩ := feeE_ok (b := b) h
        rcases addE_cases2 b (shareN a p) with ⟨-, -, h1, -⟩ | ⟨-, -, h1, -⟩ | ⟨h1, h2, -⟩
        · exact absurd h1 hbm
        · exact absurd h1 hbm
        · exact ⟨f1.trans h1, f2.trans h2⟩
      have HF := hid hE
      have HE := hid h
      have HC := hid (show chkM [b] = 1 from by rw [chkM_one, if_neg hbm])
      clear h hs hbm hE
      go_enter Try.func17, Try.ntmps17
      go_wp2_with (first | (go_at_call 15; go_must (refine (rmShare_any a p _ ha hp).mono ?_; rw [HE.out]; rintro e w1 ⟨rfl, hb1⟩)) | (go_at_call 22; go_must (refine (rmCheck_any _ _ _ _ [b] _ (rd_one w1 b hb)).mono ?_; rw [HC.out]; rintro e w2 ⟨rfl, rfl⟩)))
      go_ret2
      exact ⟨by rw [HF.out.1, HF.out.2]; rfl, bel_alloc hb1 _⟩
  · have HF := hid (feeE_no (b := b) h)
    have HE := hid h
    clear h hs
    go_enter Try.func17, Try.ntmps17
    go_wp2_with (go_at_call 15; go_must (refine (rmShare_any a p _ ha hp).mono ?_; rw [HE.out]; rintro e w1 ⟨rfl, hb1⟩))
    go_ret2
    exact ⟨by rw [HF.out.1, HF.out.2]; rfl, hb1⟩
end Go.Proofs.Ytegeggmjdhjkiaa
