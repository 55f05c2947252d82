/-
  The walk of RootsGone.
-/
import Derived.Test.YtlenoiaepanejaaRootsSpec
import Derived.Deep.RegionHeld3
namespace Go.Proofs.Ytlenoiaepanejaa
open Go.RowKit Go.WalkArith

set_option maxRecDepth 100000 in
set_option maxHeartbeats 16000000 in
theorem rootsGone_walkH (HR : RootsSpec) (A0 : Option Addr) (n0 c0 : Nat) (x0 : List Rtk) (a1 : Int) (A2 : Option Addr) (n2 c2 : Nat) (x2 : List Int) (A3 : Option Addr) (n3 c3 : Nat) (x3 : List Int) (A4 : Option Addr) (n4 c4 : Nat) (x4 : List Int) (w : World) (r0 : Sl lay_RootKey w (· < w.heap.size) A0 n0 c0 x0) (b1 : 0 ≤ a1 ∧ a1 ≤ 18446744073709551615) (r2 : Rd w w.heap.size .u8 A2 n2 c2 x2) (r3 : Rd w w.heap.size .u64 A3 n3 c3 x3) (r4 : Rd w w.heap.size .u64 A4 n4 c4 x4) :
    Calls Try.prog 4 #[.slice A0 n0 c0, .int .u64 a1, .slice A2 n2 c2, .slice A3 n3 c3, .slice A4 n4 c4] w fun e w' => e = .returned (.bool true) ∧ Below w.heap.size w w' := by
  have W1 := wf_u64 b1
  have hc0 := r0.cap
  have hc2 := r2.cap
  have hc3 := r3.cap
  have hc4 := r4.cap
  unfold maxLen at hc0 hc2 hc3 hc4
  have K0 := hid (fun (W : World) (h : Below w.heap.size w W) => Sl.call r0 h)
  have RR2 := hid r2
  have RR3 := hid r3
  have RR4 := hid r4
  clear r0 r2 r3 r4
  go_enter Try.func4, Try.ntmps4
  go_wp2_with fail
  refine (live8_any HR _).mono ?_
  rintro e w1 ⟨rfl, hb1⟩
  have HB := hb1
  clear hb1
  by_cases hbig : 70 < n0
  · have d1 : (70 : Int) < (n0 : Int) := by omega
    go_wp2
    go_ret
    exact ⟨rfl, HB⟩
  have d1 : decide ((70 : Int) < (n0 : Int)) = false := by simp; omega
  by_cases hbig2 : 40 < n2
  · have d2 : (40 : Int) < (n2 : Int) := by omega
    go_wp2
    go_ret
    exact ⟨rfl, HB⟩
  have d2 : decide ((40 : Int) < (n2 : Int)) = false := by simp; omega
  have HV := hid (HR.revoke _ _ _ x0 a1 _ (K0.out _ HB) W1)
  by_cases hE : kyE x0 a1 = 0
  rotate_left
  · rw [show rvL x0 a1 = [] from if_neg hE] at HV
    have hne : (kyE x0 a1 != 0) = true := by simpa using hE
    clear hE
    generalize kyE x0 a1 = ke at *
    go_wp2_with fail
    refine HV.out.mono ?_
    rintro e w2 ⟨v2, rfl, ho2, hb2⟩
    obtain ⟨A5, n5, c5, rfl, hs5⟩ := ho2.read
    have hn5 : n5 = 0 := hs5.len.symm.trans List.length_nil
    subst hn5
    go_wp2
    go_ret
    exact ⟨rfl, bel_call HB hb2⟩
  have HG0 := hid (revd_first hE)
  rw [hE] at HV
  clear hE
  generalize rvL x0 a1 = m0 at *
  go_wp2_with fail
  refine HV.out.mono ?_
  rintro e w2 ⟨v2, rfl, ho2, hb2⟩
  obtain ⟨A5, n5, c5, rfl, hs5⟩ := ho2.read
  replace HB := bel_call HB hb2
  clear hb2 ho2 HV
  go_wp2
  go_loopw [11, 42] (fun u i wr => ∃ (j : Nat) (A : Option Addr) (n c : Nat) (m : List Rtk), j ≤ n2 ∧ i = .int .i64 j ∧ u = .slice A n c ∧ Sl lay_RootKey wr (· < wr.heap.size) A n c m ∧ Hid (Revd m a1) ∧ Below w.heap.size w wr) (fun _ i _ => n2 - (intOf i).toNat)
  case atStart => exact ⟨0, A5, n5, c5, m0, Nat.zero_le _, rfl, rfl, hs5, HG0, HB⟩
  case round =>
    obtain ⟨j, A, n, c, m, hj, rfl, rfl, hs, HG, hbel⟩ := hrel
    clear HB hs5 HG0
    by_cases hlt : j < n2
    rotate_left
    · go_wp2
      go_ret
      exact ⟨rfl, hbel⟩
    obtain ⟨e2, o2, rfl, hb2, hcell2⟩ := RR2.out.at_ (by omega)
    have q2 := (hbel.cell (p := ⟨e2, o2 + j, none⟩) hb2).trans (hcell2 j hlt)
    have bk := bounds_u8 (RR2.out.wf (nth x2 j) (nth_mem (by rw [RR2.out.len]; exact hlt)))
    clear hcell2
    generalize nth x2 j = kd at *
    by_cases h3 : n3 ≤ j
    · have d3 : decide ((n3 : Int) ≤ (j : Int)) = true := by simp; omega
      go_wp2
      go_ret
      exact ⟨rfl, hbel⟩
    have d3 : decide ((n3 : Int) ≤ (j : Int)) = false := by simp; omega
    by_cases h4 : n4 ≤ j
    · have d4 : decide ((n4 : Int) ≤ (j : Int)) = true := by simp; omega
      go_wp2
      go_ret
      exact ⟨rfl, hbel⟩
    have d4 : decide ((n4 : Int) ≤ (j : Int)) = false := by simp; omega
    obtain ⟨e3, o3, rfl, hb3, hcell3⟩ := RR3.out.at_ (by omega)
    obtain ⟨e4, o4, rfl, hb4, hcell4⟩ := RR4.out.at_ (by omega)
    have q3' := hcell3 j (by omega)
    have q4' := hcell4 j (by omega)
    have w3 := RR3.out.wf (nth x3 j) (nth_mem (by rw [RR3.out.len]; omega))
    have w4 := RR4.out.wf (nth x4 j) (nth_mem (by rw [RR4.out.len]; omega))
    clear hcell3 hcell4
    generalize nth x3 j = id at *
    generalize nth x4 j = ky at *
    have KK := hid (fun (W : World) (h : Below w.heap.size w W) => (show W.cell? ⟨e3, o3 + j, none⟩ = some (.int .u64 id) ∧ W.cell? ⟨e4, o4 + j, none⟩ = some (.int .u64 ky) from ⟨(h.cell (p := ⟨e3, o3 + j, none⟩) hb3).trans q3', (h.cell (p := ⟨e4, o4 + j, none⟩) hb4).trans q4'⟩))
    clear q3' q4'
    obtain ⟨q3, q4⟩ := KK.out _ hbel
    have t1 : kd.tmod 3 = kd % 3 := Int.tmod_eq_emod_of_nonneg bk.1
    have t2 : IntKind.u8.wrap (kd % 3) = kd % 3 := by rw [IntKind.wrap_u8]; omega
    have i3 : (0 : Int) ≤ (j : Int) ∧ (j : Int) < (n3 : Int) := by omega
    have i4 : (0 : Int) ≤ (j : Int) ∧ (j : Int) < (n4 : Int) := by omega
    have l3 : j < n3 := by omega
    have l4 : j < n4 := by omega
    have HSS := hid (fun (W : World) (h : Below wr.heap.size wr W) => Sl.call hs h)
    rcases (show kd % 3 = 0 ∨ kd % 3 = 1 ∨ kd % 3 = 2 by omega) with hk | hk | hk
    · have HF := hid (fun (W : World) (h : Below wr.heap.size wr W) => HR.add _ _ _ m id ky W (HSS.out W h) w3 w4)
      go_upto_region 17 with (fail)
      have HH := Below.refl wr.heap.size wr
      go_region_held3 (fun W => W.cell? ⟨e3, o3 + j, none⟩ = some (.int .u64 id) ∧ W.cell? ⟨e4, o4 + j, none⟩ = some (.int .u64 ky))
        (first | exact KK.out _ hbel | exact KK.out _ hbel.drew | exact KK.out _ (bel_call hbel HH6))
        (first
          | (go_at_call 9; (with_reducible refine (HF.out _ HH.drew).mono ?_); rintro e w6 ⟨v6, rfl, ho6, hb6⟩; have HH6 := bel_call HH.drew hb6)
          | (go_at_call 9; (with_reducible refine (HF.out _ HH).mono ?_); rintro e w6 ⟨v6, rfl, ho6, hb6⟩; have HH6 := bel_call HH hb6))
      all_goals
        obtain ⟨A6, n6, c6, rfl, hs6⟩ := ho6.read
        have HBC := bel_call hbel HH6
        obtain ⟨p3, p4⟩ := KK.out _ HBC
        by_cases hf : adE m id ky = 0
        · obtain ⟨hg, hne⟩ := HG.out.ad hf
          obtain ⟨g1, g2⟩ := hg.key
          have HN := hid hg
          have d5 : (id == a1) = false := by simpa using hne
          rw [hf]
          have HK := hid (HR.key _ _ _ (adL m id ky) a1 _ hs6 W1)
          rw [g1] at HK
          have HC := hid (fun (W : World) (h : Below w6.heap.size w6 W) => HR.check _ _ _ (adL m id ky) W (Sl.call hs6 h))
          rw [g2] at HC
          clear hf hg hne g1 g2
          generalize adL m id ky = nl at *
          generalize kyV nl a1 = kv at *
          go_wp2_with fail
          refine HK.out.mono ?_
          rintro e w7 ⟨rfl, hb7⟩
          go_wp2_with fail
          refine (HC.out _ hb7).mono ?_
          rintro e w8 ⟨rfl, hb8⟩
          have hb78 := bel_call hb7 hb8
          have HB8 := bel_call HBC hb78
          obtain ⟨u3, u4⟩ := KK.out _ HB8
          have hs8 := Sl.call hs6 hb78
          clear hb7 hb8 HK HC p3 p4 q3 q4 hs6
          go_wp2
          go_roundw
          case rel => exact ⟨j + 1, A6, n6, c6, nl, by omega, by go_num, rfl, hs8, HN, HB8⟩
          case measure => simp [intOf]; omega
        · have d6 : (adE m id ky == 0) = false := by simpa using hf
          obtain ⟨g1, g2⟩ := HG.out.key
          have hsM := HSS.out _ HH6
          have HK := hid (HR.key _ _ _ m a1 _ hsM W1)
          rw [g1] at HK
          have HC := hid (fun (W : World) (h : Below w6.heap.size w6 W) => HR.check _ _ _ m W (Sl.call hsM h))
          rw [g2] at HC
          clear hf g1 g2
          generalize adE m id ky = fe at *
          generalize kyV m a1 = kv at *
          go_wp2_with fail
          refine HK.out.mono ?_
          rintro e w7 ⟨rfl, hb7⟩
          go_wp2_with fail
          refine (HC.out _ hb7).mono ?_
          rintro e w8 ⟨rfl, hb8⟩
          have hb78 := bel_call hb7 hb8
          have HB8 := bel_call HBC hb78
          have hs8 := Sl.call hsM hb78
          clear hb7 hb8 HK HC p3 p4 q3 q4 hs6
          go_wp2
          go_roundw
          case rel => exact ⟨j + 1, A, n, c, m, by omega, by go_num, rfl, hs8, HG, HB8⟩
          case measure => simp [intOf]; omega
    · have HF := hid (fun (W : World) (h : Below wr.heap.size wr W) => HR.turn _ _ _ m id ky W (HSS.out W h) w3 w4)
      go_upto_region 19 with (fail)
      have HH := Below.refl wr.heap.size wr
      go_region_held3 (fun W => W.cell? ⟨e3, o3 + j, none⟩ = some (.int .u64 id) ∧ W.cell? ⟨e4, o4 + j, none⟩ = some (.int .u64 ky))
        (first | exact KK.out _ hbel | exact KK.out _ hbel.drew | exact KK.out _ (bel_call hbel HH6))
        (first
          | (go_at_call 11; (with_reducible refine (HF.out _ HH.drew).mono ?_); rintro e w6 ⟨v6, rfl, ho6, hb6⟩; have HH6 := bel_call HH.drew hb6)
          | (go_at_call 11; (with_reducible refine (HF.out _ HH).mono ?_); rintro e w6 ⟨v6, rfl, ho6, hb6⟩; have HH6 := bel_call HH hb6))
      all_goals
        obtain ⟨A6, n6, c6, rfl, hs6⟩ := ho6.read
        have HBC := bel_call hbel HH6
        obtain ⟨p3, p4⟩ := KK.out _ HBC
        by_cases hf : tnE m id ky = 0
        · obtain ⟨hg, hne⟩ := HG.out.tn hf
          obtain ⟨g1, g2⟩ := hg.key
          have HN := hid hg
          have d5 : (id == a1) = false := by simpa using hne
          rw [hf]
          have HK := hid (HR.key _ _ _ (tnL m id ky) a1 _ hs6 W1)
          rw [g1] at HK
          have HC := hid (fun (W : World) (h : Below w6.heap.size w6 W) => HR.check _ _ _ (tnL m id ky) W (Sl.call hs6 h))
          rw [g2] at HC
          clear hf hg hne g1 g2
          generalize tnL m id ky = nl at *
          generalize kyV nl a1 = kv at *
          go_wp2_with fail
          refine HK.out.mono ?_
          rintro e w7 ⟨rfl, hb7⟩
          go_wp2_with fail
          refine (HC.out _ hb7).mono ?_
          rintro e w8 ⟨rfl, hb8⟩
          have hb78 := bel_call hb7 hb8
          have HB8 := bel_call HBC hb78
          obtain ⟨u3, u4⟩ := KK.out _ HB8
          have hs8 := Sl.call hs6 hb78
          clear hb7 hb8 HK HC p3 p4 q3 q4 hs6
          go_wp2
          go_roundw
          case rel => exact ⟨j + 1, A6, n6, c6, nl, by omega, by go_num, rfl, hs8, HN, HB8⟩
          case measure => simp [intOf]; omega
        · have d6 : (tnE m id ky == 0) = false := by simpa using hf
          obtain ⟨g1, g2⟩ := HG.out.key
          have hsM := HSS.out _ HH6
          have HK := hid (HR.key _ _ _ m a1 _ hsM W1)
          rw [g1] at HK
          have HC := hid (fun (W : World) (h : Below w6.heap.size w6 W) => HR.check _ _ _ m W (Sl.call hsM h))
          rw [g2] at HC
          clear hf g1 g2
          generalize tnE m id ky = fe at *
          generalize kyV m a1 = kv at *
          go_wp2_with fail
          refine HK.out.mono ?_
          rintro e w7 ⟨rfl, hb7⟩
          go_wp2_with fail
          refine (HC.out _ hb7).mono ?_
          rintro e w8 ⟨rfl, hb8⟩
          have hb78 := bel_call hb7 hb8
          have HB8 := bel_call HBC hb78
          have hs8 := Sl.call hsM hb78
          clear hb7 hb8 HK HC p3 p4 q3 q4 hs6
          go_wp2
          go_roundw
          case rel => exact ⟨j + 1, A, n, c, m, by omega, by go_num, rfl, hs8, HG, HB8⟩
          case measure => simp [intOf]; omega
    · have HF := hid (HR.revoke _ _ _ m id wr (HSS.out _ (Below.refl _ _)) w3)
      go_wp2_with fail
      refine HF.out.mono ?_
      rintro e w6 ⟨v6, rfl, ho6, hb6⟩
      have HH6 := hb6
      obtain ⟨A6, n6, c6, rfl, hs6⟩ := ho6.read
      have HBC := bel_call hbel HH6
      obtain ⟨p3, p4⟩ := KK.out _ HBC
      by_cases hf : kyE m id = 0
      · obtain ⟨hg, hne⟩ := HG.out.rv hf
        obtain ⟨g1, g2⟩ := hg.key
        have HN := hid hg
        have d5 : (id == a1) = false := by simpa using hne
        rw [hf]
        have HK := hid (HR.key _ _ _ (rvL m id) a1 _ hs6 W1)
        rw [g1] at HK
        have HC := hid (fun (W : World) (h : Below w6.heap.size w6 W) => HR.check _ _ _ (rvL m id) W (Sl.call hs6 h))
        rw [g2] at HC
        clear hf hg hne g1 g2
        generalize rvL m id = nl at *
        generalize kyV nl a1 = kv at *
        go_wp2_with fail
        refine HK.out.mono ?_
        rintro e w7 ⟨rfl, hb7⟩
        go_wp2_with fail
        refine (HC.out _ hb7).mono ?_
        rintro e w8 ⟨rfl, hb8⟩
        have hb78 := bel_call hb7 hb8
        have HB8 := bel_call HBC hb78
        obtain ⟨u3, u4⟩ := KK.out _ HB8
        have hs8 := Sl.call hs6 hb78
        clear hb7 hb8 HK HC p3 p4 q3 q4 hs6
        go_wp2
        go_roundw
        case rel => exact ⟨j + 1, A6, n6, c6, nl, by omega, by go_num, rfl, hs8, HN, HB8⟩
        case measure => simp [intOf]; omega
      · have d6 : (kyE m id == 0) = false := by simpa using hf
        obtain ⟨g1, g2⟩ := HG.out.key
        have hsM := HSS.out _ HH6
        have HK := hid (HR.key _ _ _ m a1 _ hsM W1)
        rw [g1] at HK
        have HC := hid (fun (W : World) (h : Below w6.heap.size w6 W) => HR.check _ _ _ m W (Sl.call hsM h))
        rw [g2] at HC
        clear hf g1 g2
        generalize kyE m id = fe at *
        generalize kyV m a1 = kv at *
        go_wp2_with fail
        refine HK.out.mono ?_
        rintro e w7 ⟨rfl, hb7⟩
        go_wp2_with fail
        refine (HC.out _ hb7).mono ?_
        rintro e w8 ⟨rfl, hb8⟩
        have hb78 := bel_call hb7 hb8
        have HB8 := bel_call HBC hb78
        have hs8 := Sl.call hsM hb78
        clear hb7 hb8 HK HC p3 p4 q3 q4 hs6
        go_wp2
        go_roundw
        case rel => exact ⟨j + 1, A, n, c, m, by omega, by go_num, rfl, hs8, HG, HB8⟩
        case measure => simp [intOf]; omega
end Go.Proofs.Ytlenoiaepanejaa
