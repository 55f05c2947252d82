/-
  The walk of FrameDoes.
-/
import Derived.Test.YtbcahbgdjoahaaaFrameBadWalk
import Derived.Test.YtbcahbgdjoahaaaScb
import Derived.Deep.Cut
import Derived.Deep.CutRange
namespace Go.Proofs.Ytbcahbgdjoahaaa
open Go.RowKit Go.WalkArith

set_option maxRecDepth 100000 in
set_option maxHeartbeats 4000000 in
theorem frameDoes_walk (s0 : Array Value) (x0 : Rdr) (s1 : Array Value) (x1 : Rdr) (A2 : Option Addr) (n2 c2 : Nat) (x2 : List Int) (w : World) (r0 : lay_Reader.rep w (· < w.heap.size) x0 s0.toList) (r1 : lay_Reader.rep w (· < w.heap.size) x1 s1.toList) (r2 : Rd w w.heap.size .u8 A2 n2 c2 x2) :
    Calls Try.prog 3 #[.agg s0, .agg s1, .slice A2 n2 c2] w fun e w' => e = .returned (.bool true) ∧ Below w.heap.size w w' := by
  obtain ⟨A0, n0, c0, hcs, hV⟩ := rep_Reader.1 r0
  obtain rfl : s0 = #[.slice A0 n0 c0, .bool x0.Bad] := Array.ext' hcs
  obtain ⟨A1, n1, c1, hcs1, hV1⟩ := rep_Reader.1 r1
  obtain rfl : s1 = #[.slice A1 n1 c1, .bool x1.Bad] := Array.ext' hcs1
  have hc0 := hV.cap
  have hc1 := hV1.cap
  have hc2 := r2.cap
  unfold maxLen at hc0 hc1 hc2
  have hb0 : Below w.heap.size w ((w.alloc (Obj.cells #[.slice A0 n0 c0, .bool x0.Bad] 24)).alloc (Obj.cells #[.slice A1 n1 c1, .bool x1.Bad] 24)) := bel_alloc (bel_alloc (Below.refl _ _) _) _
  have v0 : Var2 ((w.alloc (Obj.cells #[.slice A0 n0 c0, .bool x0.Bad] 24)).alloc (Obj.cells #[.slice A1 n1 c1, .bool x1.Bad] 24)) w.heap.size 24 (.slice A0 n0 c0) (.bool x0.Bad) := (Below.heap_alloc _ _ _ (by simp)).trans (heap_alloc_new _ _)
  have v1 : Var2 ((w.alloc (Obj.cells #[.slice A0 n0 c0, .bool x0.Bad] 24)).alloc (Obj.cells #[.slice A1 n1 c1, .bool x1.Bad] 24)) (w.heap.size + 1) 24 (.slice A1 n1 c1) (.bool x1.Bad) := alloc2_new _ _ _
  have P0 := hid (rep_at r0 hb0)
  have P1 := hid (rep_at r1 hb0)
  have R2 := hid ((r2.below hb0).more hb0.size)
  have RV := hid (((hV.rd (B := w.heap.size) fun _ h => h).below hb0).more hb0.size)
  clear r0 r1 r2 hV hV1 hcs hcs1
  go_enter Try.func3, Try.ntmps3
  go_wp2_with fail
  generalize (w.alloc (Obj.cells #[.slice A0 n0 c0, .bool x0.Bad] 24)).alloc (Obj.cells #[.slice A1 n1 c1, .bool x1.Bad] 24) = W0 at *
  have RW2 := hid (fun (W : World) (h : Below W0.heap.size W0 W) => (R2.out.below h).more h.size)
  have ST2 := hid (fun (W : World) (h : Below W0.heap.size W0 W) => (R2.out.below h).str (P := Try.prog) Try.underlying22 Try.underlying5 Try.underlying9)
  have STV := hid (fun (W : World) (h : Below W0.heap.size W0 W) => (RV.out.below h).str (P := Try.prog) Try.underlying22 Try.underlying5 Try.underlying9)
  have PW0 := hid (fun (W : World) (h : Below W0.heap.size W0 W) => rep_at P0.out h)
  have PW1 := hid (fun (W : World) (h : Below W0.heap.size W0 W) => rep_at P1.out h)
  have C0 := hid (fun (W : World) (h : Below W0.heap.size W0 W) => And.intro (v0.call h).c0 (v0.call h).c1)
  have C1 := hid (fun (W : World) (h : Below W0.heap.size W0 W) => And.intro (v1.call h).c0 (v1.call h).c1)
  have hg0 := v0.lt
  have hg1 := v1.lt
  clear P0 P1 R2 RV v0 v1
  with_reducible refine (live3_any _).mono ?_
  rintro e w1 ⟨rfl, hb1⟩
  have HB := hb1
  clear hb1
  have k0 := (C0.out _ HB).1
  have k1 := (C1.out _ HB).1
  have HBE := hid (bel_call hb0 HB)
  by_cases h5 : 200 < n0 ∨ 200 < n1 ∨ (5000 < n2 ∧ n2 ≤ 65535) ∨ 65540 < n2
  · rcases (show 200 < n0 ∨ (n0 ≤ 200 ∧ 200 < n1) ∨ (n0 ≤ 200 ∧ n1 ≤ 200 ∧ 5000 < n2 ∧ n2 ≤ 65535) ∨ (n0 ≤ 200 ∧ n1 ≤ 200 ∧ 65540 < n2) by omega) with h | h | h | h
    · have d1 : decide ((200 : Int) < (n0 : Int)) = true := by simp; omega
      go_wp2
      go_ret
      exact ⟨rfl, HBE.out⟩
    · have d1 : decide ((200 : Int) < (n0 : Int)) = false := by simp; omega
      have d2 : decide ((200 : Int) < (n1 : Int)) = true := by simp; omega
      go_wp2
      go_ret
      exact ⟨rfl, HBE.out⟩
    · have d1 : decide ((200 : Int) < (n0 : Int)) = false := by simp; omega
      have d2 : decide ((200 : Int) < (n1 : Int)) = false := by simp; omega
      have d3 : decide ((5000 : Int) < (n2 : Int)) = true := by simp; omega
      have d4 : decide ((n2 : Int) ≤ 65535) = true := by simp; omega
      go_wp2
      go_ret
      exact ⟨rfl, HBE.out⟩
    · have d1 : decide ((200 : Int) < (n0 : Int)) = false := by simp; omega
      have d2 : decide ((200 : Int) < (n1 : Int)) = false := by simp; omega
      have d3 : decide ((5000 : Int) < (n2 : Int)) = true := by simp; omega
      have d4 : decide ((n2 : Int) ≤ 65535) = false := by simp; omega
      have d5 : decide ((65540 : Int) < (n2 : Int)) = true := by simp; omega
      go_wp2
      go_ret
      exact ⟨rfl, HBE.out⟩
  have d1 : decide ((200 : Int) < (n0 : Int)) = false := by simp; omega
  have d2 : decide ((200 : Int) < (n1 : Int)) = false := by simp; omega
  have hcase : n2 ≤ 5000 ∨ (65535 < n2 ∧ n2 ≤ 65540) := by omega
  have t2 := ST2.out _ HB
  have tV := STV.out _ HB
  obtain ⟨rp, hrp⟩ : ∃ p, fdR x0 x2 = p := ⟨_, rfl⟩
  obtain ⟨lp, hlp⟩ : ∃ p, fdL x0 x2 = p := ⟨_, rfl⟩
  obtain ⟨ep, hep⟩ : ∃ p, fdE x0 x2 = p := ⟨_, rfl⟩
  have HRP := hid hrp
  have HLP := hid hlp
  have HEP := hid hep
  obtain ⟨dd, hdd⟩ : ∃ d, decide (x0 = x1) = d := ⟨_, rfl⟩
  have HDD := hid hdd
  clear h5 HBE hrp hlp hep hdd
  go_upto_region 3 with (fail)
  go_cut [53] from 29 to 53 (fun s wc => s = .bool false ∧ wc = w1)
  case first =>
    rcases hcase with hcase | hcase
    · have d5 : decide ((5000 : Int) < (n2 : Int)) = false := by simp; omega
      have d7 : decide ((65540 : Int) < (n2 : Int)) = false := by simp; omega
      go_wp2_with fail
      go_meet
      case rel => exact ⟨rfl, rfl⟩
    · have d5 : decide ((5000 : Int) < (n2 : Int)) = true := by simp; omega
      have d6 : decide ((n2 : Int) ≤ 65535) = false := by simp; omega
      have d7 : decide ((65540 : Int) < (n2 : Int)) = false := by simp; omega
      go_wp2_with fail
      go_meet
      case rel => exact ⟨rfl, rfl⟩
  case rest =>
  obtain ⟨rfl, rfl⟩ := hcut
  go_wp2_with fail
  with_reducible refine (framePut_any _ _ _ _ x2 _ (RW2.out _ HB) (Nat.le_refl _)).mono ?_
  rintro e w3 ⟨v3, rfl, hown3, hb3⟩
  obtain ⟨A3, n3, c3, rfl, q3⟩ := hown3.formN
  replace HB := bel_call HB hb3
  clear hb3 hown3 t2 tV k0 k1 hcase
  go_wp2_with fail
  with_reducible refine (refPutF_any _ _ _ _ x2 _ (RW2.out _ HB) (Nat.le_refl _)).mono ?_
  rintro e w4 ⟨v4, rfl, hown4, hb4⟩
  obtain ⟨A4, n4, c4, rfl, q4⟩ := hown4.formN
  replace HB := bel_call HB hb4
  have Q3 := hid ((q3.below hb4).more hb4.size)
  have Q4 := hid q4
  have HB4 := Below.refl w4.heap.size w4
  clear hb4 hown4 q3 q4
  obtain ⟨k0, k1⟩ := C0.out _ HB
  go_wp2_with fail
  with_reducible refine (frameFeed_any _ x0 _ _ _ x2 _ (PW0.out _ HB) (RW2.out _ HB)).mono ?_
  rintro e w5 ⟨A5, n5, c5, v5, rfl, hs5, hown5, hb5⟩
  have hlo := HB.size
  rw [HRP.out] at hs5
  rw [HLP.out] at hown5
  rw [HRP.out, HEP.out]
  obtain ⟨A6, n6, c6, rfl, q6⟩ := hown5.read
  have t5 := hown5.sl (Nat.le_refl _) (Nat.le_refl _)
  obtain ⟨A6', n6', c6', he6, q6n⟩ := t5
  injection he6 with e61 e62 e63
  subst e61 e62 e63
  have hba := bel_alloc (Below.refl w5.heap.size w5) (Obj.cells #[.slice A5 n5 c5, .bool rp.Bad] 24)
  have VP := Var2.new w5 24 (.slice A5 n5 c5) (.bool rp.Bad)
  have PP := hid (rep_at (show lay_Reader.rep w5 (· < w5.heap.size) rp (#[.slice A5 n5 c5, .bool rp.Bad] : Array Value).toList from rep_Reader.2 ⟨A5, n5, c5, rfl, hs5.wide fun _ hb => hb.2.1⟩) hba)
  have QN := hid ((q6n.keep fun p hp => hba.cell hp.2.1).wide fun b hb => hb.keep hba)
  have SN := hid ((hs5.keep fun p hp => hba.cell hp.2.1).wide fun b hb => hb.keep hba)
  have QL := hid (q6.call hba)
  replace HB := bel_call (bel_call HB hb5) hba
  replace HB4 := bel_call (bel_call HB4 hb5) hba
  have hgp := VP.lt
  clear hb5 hba hs5 hown5 q6 q6n k0 k1
  obtain ⟨k0, k1⟩ := C0.out _ HB
  have hgw5 : w.heap.size < w5.heap.size := by have h1 := hg0; have h2 := hlo; have h3 := HB4.size; simp at h3; omega
  go_wp2_with fail
  generalize (w5.alloc (Obj.cells #[.slice A5 n5 c5, .bool rp.Bad] 24)) = W5 at *
  generalize w5.heap.size = gp at *
  with_reducible refine (refFeed_any _ x0 _ _ _ x2 _ (PW0.out _ HB) (RW2.out _ HB)).mono ?_
  rintro e w6 ⟨A7, n7, c7, v7, rfl, hs7, hown7, hb7⟩
  rw [HRP.out] at hs7
  rw [HLP.out] at hown7
  rw [HRP.out, HEP.out]
  obtain ⟨A8, n8, c8, rfl, q8⟩ := hown7.read
  have hba := bel_alloc (Below.refl w6.heap.size w6) (Obj.cells #[.slice A7 n7 c7, .bool rp.Bad] 24)
  have VQ := Var2.new w6 24 (.slice A7 n7 c7) (.bool rp.Bad)
  have PQ := hid (rep_at (show lay_Reader.rep w6 (· < w6.heap.size) rp (#[.slice A7 n7 c7, .bool rp.Bad] : Array Value).toList from rep_Reader.2 ⟨A7, n7, c7, rfl, hs7.wide fun _ hb => hb.2.1⟩) hba)
  have QM := hid (q8.call hba)
  have HB5 := bel_call hb7 hba
  replace HB := bel_call HB HB5
  replace HB4 := bel_call HB4 HB5
  have hgq := VQ.lt
  have hgw6 : w.heap.size < w6.heap.size := Nat.lt_of_lt_of_le (Nat.lt_trans hgw5 hgp) hb7.size
  clear hb7 hba hs7 hown7 q8 k0 k1
  obtain ⟨k0, k1⟩ := C0.out _ HB
  go_wp2_with fail
  generalize (w6.alloc (Obj.cells #[.slice A7 n7 c7, .bool rp.Bad] 24)) = W6 at *
  generalize w6.heap.size = gq at *
  with_reducible refine (frameWants_any _ x0 _ (PW0.out _ HB)).mono ?_
  rintro e w7 ⟨rfl, hb7⟩
  have HB6 := hb7
  replace HB := bel_call HB hb7
  replace HB4 := bel_call HB4 hb7
  replace HB5 := bel_call HB5 hb7
  clear hb7 k0 k1
  obtain ⟨k0, k1⟩ := C0.out _ HB
  go_wp2_with fail
  with_reducible refine (refWants_any _ x0 _ (PW0.out _ HB)).mono ?_
  rintro e w8 ⟨rfl, hb8⟩
  replace HB := bel_call HB hb8
  replace HB4 := bel_call HB4 hb8
  replace HB5 := bel_call HB5 hb8
  replace HB6 := bel_call HB6 hb8
  clear hb8 k0 k1
  obtain ⟨k0, k1⟩ := C0.out _ HB
  obtain ⟨k2, k3⟩ := C1.out _ HB
  have k4 := (VP.call HB5).c0
  have k5 := (VP.call HB5).c1
  have k6 := (VQ.call HB6).c0
  have k7 := (VQ.call HB6).c1
  have KK := hid (fun (W : World) (h : Below w8.heap.size w8 W) => (show W.cell? ⟨w.heap.size, 0, none⟩ = some (.slice A0 n0 c0) ∧ W.cell? ⟨w.heap.size, 1, none⟩ = some (.bool x0.Bad) ∧ W.cell? ⟨w.heap.size + 1, 0, none⟩ = some (.slice A1 n1 c1) ∧ W.cell? ⟨w.heap.size + 1, 1, none⟩ = some (.bool x1.Bad) ∧
    W.cell? ⟨gp, 0, none⟩ = some (.slice A5 n5 c5) ∧ W.cell? ⟨gp, 1, none⟩ = some (.bool rp.Bad) ∧ W.cell? ⟨gq, 0, none⟩ = some (.slice A7 n7 c7) ∧ W.cell? ⟨gq, 1, none⟩ = some (.bool rp.Bad) from
    ⟨(C0.out _ (bel_call HB h)).1, (C0.out _ (bel_call HB h)).2, (C1.out _ (bel_call HB h)).1, (C1.out _ (bel_call HB h)).2, (VP.call (bel_call HB5 h)).c0, (VP.call (bel_call HB5 h)).c1, (VQ.call (bel_call HB6 h)).c0, (VQ.call (bel_call HB6 h)).c1⟩))
  have H8 := Below.refl w8.heap.size w8
  have S3 := hid (fun (W : World) (h : Below w8.heap.size w8 W) => Q3.out.below (bel_call HB4 h))
  have S4 := hid (fun (W : World) (h : Below w8.heap.size w8 W) => Q4.out.below (bel_call HB4 h))
  have SP := hid (fun (W : World) (h : Below w8.heap.size w8 W) => rep_at PP.out (bel_call HB5 h))
  have SQ := hid (fun (W : World) (h : Below w8.heap.size w8 W) => rep_at PQ.out (bel_call HB6 h))
  have SL := hid (fun (W : World) (h : Below w8.heap.size w8 W) => QL.out.call (bel_call HB5 h))
  have SM := hid (fun (W : World) (h : Below w8.heap.size w8 W) => QM.out.call (bel_call HB6 h))
  have S0 := hid (fun (W : World) (h : Below w8.heap.size w8 W) => PW0.out _ (bel_call HB h))
  have S1 := hid (fun (W : World) (h : Below w8.heap.size w8 W) => PW1.out _ (bel_call HB h))
  generalize waN x0 = wn at *
  generalize waE x0 = we at *
  generalize ptE x2 = pe at *
  go_upto_region 13 with (fail)
  go_cut [23] from 54 to 141 (fun s wc => s = .bool true ∧ Below w8.heap.size w8 wc)
  case first =>
    go_region_held3 (fun w' => w'.cell? ⟨w.heap.size, 0, none⟩ = some (.slice A0 n0 c0) ∧ w'.cell? ⟨w.heap.size, 1, none⟩ = some (.bool x0.Bad) ∧ w'.cell? ⟨w.heap.size + 1, 0, none⟩ = some (.slice A1 n1 c1) ∧ w'.cell? ⟨w.heap.size + 1, 1, none⟩ = some (.bool x1.Bad) ∧
      w'.cell? ⟨gp, 0, none⟩ = some (.slice A5 n5 c5) ∧ w'.cell? ⟨gp, 1, none⟩ = some (.bool rp.Bad) ∧ w'.cell? ⟨gq, 0, none⟩ = some (.slice A7 n7 c7) ∧ w'.cell? ⟨gq, 1, none⟩ = some (.bool rp.Bad))
      (first | exact KK.out _ H8 | exact KK.out _ H8.drew | exact KK.out _ HBA | exact KK.out _ HBB | exact KK.out _ HBC | exact KK.out _ HBD | exact KK.out _ HBEE | exact KK.out _ HBF)
      (first
        | (go_at_call 14; (with_reducible refine (sameBytes_any _ _ _ _ _ _ _ _ _ _ _ (S3.out _ H8.drew) (S4.out _ H8.drew)).mono ?_; rw [decide_eq_true (rfl : ptO x2 = ptO x2)]; rintro e w' ⟨rfl, rfl⟩))
        | (go_at_call 15; (with_reducible refine (refSameF_any _ _ rp rp _ (SP.out _ H8.drew) (SQ.out _ H8.drew)).mono ?_; rw [decide_eq_true (rfl : rp = rp)]; rintro e wA ⟨rfl, hbA⟩; have HBA := bel_call H8.drew hbA))
        | (go_at_call 16; (with_reducible refine (sameTexts_any _ _ _ _ _ _ _ _ _ (SL.out _ HBA) (SM.out _ HBA)).mono ?_; rw [decide_eq_true (rfl : lp = lp)]; rintro e wB ⟨rfl, hbB⟩; have HBB := bel_call HBA hbB))
        | (go_at_call 17; (with_reducible refine (frameCheck_any _ x0 _ (S0.out _ HBB)).mono ?_; rintro e wC ⟨rfl, hbC⟩; have HBC := bel_call HBB hbC))
        | (go_at_call 18; (with_reducible refine (refCheckF_any _ x0 _ (S0.out _ HBC)).mono ?_; rintro e wD ⟨rfl, hbD⟩; have HBD := bel_call HBC hbD))
        | (go_at_call 19; (with_reducible refine (frameSame_any _ _ x0 x1 _ (S0.out _ HBD) (S1.out _ HBD)).mono ?_; rw [HDD.out]; rintro e wE ⟨rfl, hbE⟩; have HBEE := bel_call HBD hbE))
        | (go_at_call 15; (with_reducible refine (refSameF_any _ _ x0 x1 _ (S0.out _ HBEE) (S1.out _ HBEE)).mono ?_; rw [HDD.out]; rintro e wF ⟨rfl, hbF⟩; have HBF := bel_call HBEE hbF)))
    go_wp2_with fail
    go_meet
    case rel => exact ⟨rfl, HBF⟩
  case rest =>
  obtain ⟨rfl, HBC⟩ := hcut
  have HBc := bel_call HB HBC
  have HB5c := bel_call HB5 HBC
  have QC := (QN.out.keep fun p hp => HB5c.cell hp.2.1).wide fun b hb => hb.keep HB5c
  have SC := (SN.out.keep fun p hp => HB5c.cell hp.2.1).wide fun b hb => hb.keep HB5c
  have kp := (VP.call HB5c).c0
  have hq6 := QC.cap
  have hs5 := SC.cap
  unfold maxLen at hq6 hs5
  have HQC := hid QC
  have HSC := hid SC
  have HBB := hid HBc
  clear HB HB4 HB5 HB6 HBC HB5c QC SC KK S3 S4 SP SQ SL SM S0 S1 QN SN QL QM PP PQ VP VQ k0 k1 k2 k3 k4 k5 k6 k7 Q3 Q4 HBc H8
  go_wp2
  go_loopw [144] (fun i wr => ∃ j : Nat, j ≤ n6 ∧ i = .int .i64 j ∧ Scb w4.heap.size wc wr) (fun i _ => n6 - (intOf i).toNat)
  case atStart => exact ⟨0, Nat.zero_le _, rfl, Scb.refl _ _⟩
  case round =>
    obtain ⟨j, hj, rfl, hscr⟩ := hrel
    by_cases hlt : j < n6
    · obtain ⟨b, off, A', n', c', hx, rfl, hb, e1, hV'⟩ := txt_at HQC.out hlt
      have hcv := hV'.cap
      unfold maxLen at hcv
      have e1' := hscr.sl e1
      have HV' := hid hV'
      clear hV'
      go_wp2
      go_loopw [152] (fun i wr' => ∃ k : Nat, k ≤ n' ∧ i = .int .i64 k ∧ Scb w4.heap.size wc wr') (fun i _ => n' - (intOf i).toNat)
      case atStart => exact ⟨0, Nat.zero_le _, rfl, hscr⟩
      case round =>
        obtain ⟨k, hk, rfl, hscr'⟩ := hrel
        have e2 := hscr'.sl e1
        by_cases hlk : k < n'
        · obtain ⟨b2, off2, rfl, hbl, hcells⟩ := nums_at HV'.out (by omega)
          obtain ⟨hfz, x, hx⟩ := hcells k hlk
          obtain ⟨y, hy⟩ := hscr'.ints b2 (off2 + k) _ x hx
          have hfz' := (hscr'.fz ⟨b2, off2 + k, none⟩).trans hfz
          have HX := hid hx
          clear hcells hfz hx e1 e1'
          go_wp2
          go_roundw
          case rel => exact ⟨k + 1, by omega, by go_num, hscr'.put hbl HX.out _⟩
          case measure => simp [intOf]; omega
        · go_wp2
          go_roundw
          case rel => exact ⟨j + 1, by omega, by go_num, hscr'⟩
          case measure => simp [intOf]; omega
    · have hj' : decide ((j : Int) < (n6 : Int)) = false := by simp; omega
      have p0 := hscr.sl kp
      go_wp2
      go_loopw [169] (fun i wr' => ∃ k : Nat, k ≤ n5 ∧ i = .int .i64 k ∧ Scb w4.heap.size wc wr') (fun i _ => n5 - (intOf i).toNat)
      case atStart => exact ⟨0, Nat.zero_le _, rfl, hscr⟩
      case round =>
        obtain ⟨k, hk, rfl, hscr'⟩ := hrel
        have p1 := hscr'.sl kp
        by_cases hlk : k < n5
        · obtain ⟨b2, off2, rfl, hbl, hcells⟩ := nums_at HSC.out (by omega)
          obtain ⟨hfz, x, hx⟩ := hcells k hlk
          obtain ⟨y, hy⟩ := hscr'.ints b2 (off2 + k) _ x hx
          have hfz' := (hscr'.fz ⟨b2, off2 + k, none⟩).trans hfz
          have HX := hid hx
          clear hcells hfz hx p0
          go_wp2
          go_roundw
          case rel => exact ⟨k + 1, by omega, by go_num, hscr'.put hbl HX.out _⟩
          case measure => simp [intOf]; omega
        · have HBw := HBB.out.trans (hscr'.bel.mono hlo)
          have k0 := (C0.out _ HBw).1
          have t2 := ST2.out _ HBw
          have tV := STV.out _ HBw
          have hlk' : decide ((k : Int) < (n5 : Int)) = false := by simp; omega
          have HBE := hid (bel_call hb0 HBw)
          go_wp2
          go_ret
          exact ⟨rfl, HBE.out⟩
end Go.Proofs.Ytbcahbgdjoahaaa
