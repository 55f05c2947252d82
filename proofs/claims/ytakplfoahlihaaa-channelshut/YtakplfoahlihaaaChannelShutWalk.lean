/-
  The walk of ChannelShut.
-/
import Derived.Test.YtakplfoahlihaaaChannelSpec
namespace Go.Proofs.Ytakplfoahlihaaa
open Go.RowKit Go.WalkArith

set_option maxRecDepth 100000 in
set_option maxHeartbeats 4000000 in
theorem channelShut_walkH (HC : ChannelSpec) (s0 : Array Value) (x0 : Chn) (a1 a2 : Int) (w : World) (r0 : lay_Channel.rep w (· < w.heap.size) x0 s0.toList) (b1 : 0 ≤ a1 ∧ a1 ≤ 18446744073709551615) (b2 : 0 ≤ a2 ∧ a2 ≤ 18446744073709551615) :
    Calls Try.prog 9 #[.agg s0, .int .u64 a1, .int .u64 a2] w fun e w' => e = .returned (.bool true) ∧ Below w.heap.size w w' := by
  have V1 := wf_u64 b1
  have V2 := wf_u64 b2
  obtain ⟨A0, n0, c0, rfl, hw0, hs0⟩ := agg_Channel r0
  clear r0
  have Z0 := hid hs0.len
  have hcap := hs0.cap
  unfold maxLen at hcap
  have hh0 := sl_hlds hs0
  have hb0 : Below w.heap.size w (w.alloc (Obj.cells #[.int .u64 x0.Id, .int .u64 x0.Local, .int .u64 x0.Remote, .int .u64 x0.Reserve, .int .u64 x0.Most, .slice A0 n0 c0, .bool x0.Open] 25)) := bel_alloc (Below.refl _ _) _
  have B0 := BoxC.new w x0 A0 n0 c0
  have S0 := Sl.call hs0 hb0
  clear hs0
  go_enter Try.func9, Try.ntmps9
  go_wp2_with fail
  generalize w.alloc (Obj.cells #[.int .u64 x0.Id, .int .u64 x0.Local, .int .u64 x0.Remote, .int .u64 x0.Reserve, .int .u64 x0.Most, .slice A0 n0 c0, .bool x0.Open] 25) = W0 at *
  have K0 := hid (fun (W : World) (h : Below W0.heap.size W0 W) => (B0.call h).all)
  have P0 := hid (fun (W : World) (h : Below W0.heap.size W0 W) => chan_in hw0 S0 h)
  refine (live9_any HC _).mono ?_
  rintro e w1 ⟨rfl, HB0⟩
  clear B0 S0
  by_cases hbig : 70 < n0
  · have d1 : decide ((70 : Int) < (n0 : Int)) = true := by simp; omega
    obtain ⟨p00, p01, p02, p03, p04, p05, p06⟩ := K0.out _ HB0
    go_wp2
    go_ret
    exact ⟨rfl, bel_call hb0 HB0⟩
  have d1 : decide ((70 : Int) < (n0 : Int)) = false := by simp; omega
  obtain ⟨pe, hpe⟩ : ∃ z, puE x0 a2 = z := ⟨_, rfl⟩
  have Qpe := hid hpe
  clear hpe
  obtain ⟨pc, hpc⟩ : ∃ z, puC x0 a2 = z := ⟨_, rfl⟩
  have Qpc := hid hpc
  clear hpc
  obtain ⟨ce, hce⟩ : ∃ z, clE x0 = z := ⟨_, rfl⟩
  have Qce := hid hce
  clear hce
  obtain ⟨d, hd⟩ : ∃ z, clC x0 = z := ⟨_, rfl⟩
  have Qd := hid hd
  clear hd
  obtain ⟨p00, p01, p02, p03, p04, p05, p06⟩ := K0.out _ HB0
  go_wp2_with fail
  refine (HC.push _ x0 a2 _ (P0.out _ HB0) V2).mono ?_
  rw [Qpe.out, Qpc.out]
  rintro e w2 ⟨v, rfl, hv, hb⟩
  replace HB0 := bel_call HB0 hb
  clear p00 p01 p02 p03 p04 p05 p06
  clear hb
  obtain ⟨A1, n1, c1, rfl, hs1⟩ := hv.read
  have hw1 : ChnWf pc := (by rw [← Qpc.out]; exact pu_wf hw0 hh0 b2.1)
  clear hv
  have Z1 := hid hs1.len
  have hh1 := sl_hlds hs1
  have hba := bel_alloc (Below.refl w2.heap.size w2) (Obj.cells #[.int .u64 pc.Id, .int .u64 pc.Local, .int .u64 pc.Remote, .int .u64 pc.Reserve, .int .u64 pc.Most, .slice A1 n1 c1, .bool pc.Open] 25)
  have B1 := BoxC.new w2 pc A1 n1 c1
  have S1 := Sl.call hs1 hba
  replace HB0 := bel_call HB0 hba
  clear hba hs1
  go_upto_region 6 with (fail)
  generalize w2.alloc (Obj.cells #[.int .u64 pc.Id, .int .u64 pc.Local, .int .u64 pc.Remote, .int .u64 pc.Reserve, .int .u64 pc.Most, .slice A1 n1 c1, .bool pc.Open] 25) = W1 at *
  generalize hg : w2.heap.size = g1 at *
  clear hg
  have K1 := hid (fun (W : World) (h : Below W1.heap.size W1 W) => (B1.call h).all)
  have P1 := hid (fun (W : World) (h : Below W1.heap.size W1 W) => chan_in hw1 S1 h)
  have HB1 := Below.refl W1.heap.size W1
  clear B1 S1
  have c1 := bounds_u64 hw0.loc
  have c3 := bounds_u64 hw0.rem
  obtain ⟨p00, p01, p02, p03, p04, p05, p06⟩ := K0.out _ HB0
  obtain ⟨p10, p11, p12, p13, p14, p15, p16⟩ := K1.out _ HB1
  go_cut [64] from 31 to 64 (fun q wc => q = .bool false ∧ wc = W1)
  case first =>
    by_cases hz : pe = 0
    · obtain ⟨j1, j2, j3, j4, j5, -, j6⟩ := pu_is hw0 hh0 b2.1 (by rw [Qpe.out]; exact hz)
      rw [Qpc.out] at j4 j5 j6
      have c4 := bounds_u64 j6.loc
      have hn : n1 = n0 := by rw [← Z1.out, ← Z0.out, j4]
      have f1 : pc.Remote = x0.Remote - a2 := by rw [j4]
      have f2 : pc.Local = x0.Local + a2 := by rw [j4]
      have f3 : pc.Open = true := by rw [j4]; exact j2
      have w1e : IntKind.u64.wrap (x0.Remote - a2) = x0.Remote - a2 := IntWalk.u64_in _ (by omega)
      have w2e : IntKind.u64.wrap (x0.Local + a2) = x0.Local + a2 := IntWalk.u64_in _ (by omega)
      have dR : (pc.Remote != x0.Remote - a2) = false := by rw [f1]; simp
      have dL : (pc.Local != x0.Local + a2) = false := by rw [f2]; simp
      have dn : ((n1 : Int) != (n0 : Int)) = false := by rw [hn]; simp
      rw [f3] at p16
      clear f1 f2 f3 j1 j2 j3 j4 j5 j6 hn c4
      subst hz
      go_wp2_with fail
      go_meet
      case rel => exact ⟨rfl, rfl⟩
    · have dz : (pe == 0) = false := by simpa using hz
      go_wp2_with fail
      go_meet
      case rel => exact ⟨rfl, rfl⟩
  case rest =>
  obtain ⟨rfl, rfl⟩ := hcut
  clear p00 p01 p02 p03 p04 p05 p06 p10 p11 p12 p13 p14 p15 p16
  go_upto_region 8 with (fail)
  obtain ⟨p00, p01, p02, p03, p04, p05, p06⟩ := K0.out _ HB0
  go_wp2_with fail
  refine (HC.close _ x0 _ (P0.out _ HB0)).mono ?_
  rw [Qce.out, Qd.out]
  rintro e w3 ⟨t, rfl, hv, hb⟩
  replace HB0 := bel_call HB0 hb
  replace HB1 := bel_call HB1 hb
  clear p00 p01 p02 p03 p04 p05 p06
  clear hb
  obtain ⟨A2, n2, c2, rfl, hw2, hs2⟩ := agg_Channel hv
  clear hv
  have Z2 := hid hs2.len
  have hh2 := sl_hlds hs2
  have hba := bel_alloc (Below.refl w3.heap.size w3) (Obj.cells #[.int .u64 d.Id, .int .u64 d.Local, .int .u64 d.Remote, .int .u64 d.Reserve, .int .u64 d.Most, .slice A2 n2 c2, .bool d.Open] 25)
  have B2 := BoxC.new w3 d A2 n2 c2
  have S2 := Sl.call hs2 hba
  replace HB0 := bel_call HB0 hba
  replace HB1 := bel_call HB1 hba
  clear hba hs2
  go_upto_region 9 with (fail)
  generalize w3.alloc (Obj.cells #[.int .u64 d.Id, .int .u64 d.Local, .int .u64 d.Remote, .int .u64 d.Reserve, .int .u64 d.Most, .slice A2 n2 c2, .bool d.Open] 25) = W2 at *
  generalize hg : w3.heap.size = g2 at *
  clear hg
  have K2 := hid (fun (W : World) (h : Below W2.heap.size W2 W) => (B2.call h).all)
  have P2 := hid (fun (W : World) (h : Below W2.heap.size W2 W) => chan_in hw2 S2 h)
  have HB2 := Below.refl W2.heap.size W2
  clear B2 S2
  by_cases hz : ce = 0
  rotate_left
  · have hne : (ce != 0) = true := by simpa using hz
    have hd : n2 = 0 := by rw [← Z2.out, ← Qd.out, cl_no (by rw [Qce.out]; exact hz)]; rfl
    subst hd
    obtain ⟨p20, p21, p22, p23, p24, p25, p26⟩ := K2.out _ HB2
    go_wp2
    go_ret
    exact ⟨rfl, bel_call hb0 HB0⟩
  subst hz
  obtain ⟨r1, r2, r3, r4, r5, r6, r7⟩ := shut_law (id := a1) Qce.out
  rw [Qd.out] at r1 r2 r3 r4 r5 r6 r7
  have dL : (d.Local == x0.Local) = true := by rw [r6]; simp
  have dR : (d.Remote == x0.Remote) = true := by rw [r7]; simp
  have R1 := hid r1
  have R2 := hid r2
  have R3 := hid r3
  have R4 := hid r4
  have R5 := hid r5
  clear r1 r2 r3 r4 r5 r6 r7
  obtain ⟨p20, p21, p22, p23, p24, p25, p26⟩ := K2.out _ HB2
  go_wp2_with fail
  refine (HC.room _ d _ (P2.out _ HB2)).mono ?_
  rw [R1.out, R2.out]
  rintro e w4 ⟨rfl, hb⟩
  replace HB0 := bel_call HB0 hb
  replace HB1 := bel_call HB1 hb
  replace HB2 := bel_call HB2 hb
  clear p20 p21 p22 p23 p24 p25 p26
  clear hb
  obtain ⟨p20, p21, p22, p23, p24, p25, p26⟩ := K2.out _ HB2
  go_wp2_with fail
  refine (HC.hold _ d a1 1 _ (P2.out _ HB2) V1 (by decide)).mono ?_
  rw [R3.out]
  rintro e w5 ⟨v, rfl, hv, hb⟩
  replace HB0 := bel_call HB0 hb
  replace HB1 := bel_call HB1 hb
  replace HB2 := bel_call HB2 hb
  clear p20 p21 p22 p23 p24 p25 p26
  clear hb
  obtain ⟨f1, hf1⟩ : ∃ z, hoC d a1 1 = z := ⟨_, rfl⟩
  have Qf1 := hid hf1
  clear hf1
  rw [Qf1.out] at hv
  obtain ⟨A3, n3, c3, rfl, hs3⟩ := hv.read
  have hw3 : ChnWf f1 := (by rw [← Qf1.out]; exact ho_wf hw2 (by decide))
  clear hv
  have Z3 := hid hs3.len
  have hh3 := sl_hlds hs3
  have hba := bel_alloc (Below.refl w5.heap.size w5) (Obj.cells #[.int .u64 f1.Id, .int .u64 f1.Local, .int .u64 f1.Remote, .int .u64 f1.Reserve, .int .u64 f1.Most, .slice A3 n3 c3, .bool f1.Open] 25)
  have B3 := BoxC.new w5 f1 A3 n3 c3
  have S3 := Sl.call hs3 hba
  replace HB0 := bel_call HB0 hba
  replace HB1 := bel_call HB1 hba
  replace HB2 := bel_call HB2 hba
  clear hba hs3
  go_upto_region 13 with (fail)
  generalize w5.alloc (Obj.cells #[.int .u64 f1.Id, .int .u64 f1.Local, .int .u64 f1.Remote, .int .u64 f1.Reserve, .int .u64 f1.Most, .slice A3 n3 c3, .bool f1.Open] 25) = W3 at *
  generalize hg : w5.heap.size = g3 at *
  clear hg
  have K3 := hid (fun (W : World) (h : Below W3.heap.size W3 W) => (B3.call h).all)
  have P3 := hid (fun (W : World) (h : Below W3.heap.size W3 W) => chan_in hw3 S3 h)
  have HB3 := Below.refl W3.heap.size W3
  clear B3 S3
  obtain ⟨p20, p21, p22, p23, p24, p25, p26⟩ := K2.out _ HB2
  go_wp2_with fail
  refine (HC.push _ d 0 _ (P2.out _ HB2) (by decide)).mono ?_
  rw [R4.out]
  rintro e w6 ⟨v, rfl, hv, hb⟩
  replace HB0 := bel_call HB0 hb
  replace HB1 := bel_call HB1 hb
  replace HB2 := bel_call HB2 hb
  replace HB3 := bel_call HB3 hb
  clear p20 p21 p22 p23 p24 p25 p26
  clear hb
  obtain ⟨f2, hf2⟩ : ∃ z, puC d 0 = z := ⟨_, rfl⟩
  have Qf2 := hid hf2
  clear hf2
  rw [Qf2.out] at hv
  obtain ⟨A4, n4, c4, rfl, hs4⟩ := hv.read
  have hw4 : ChnWf f2 := (by rw [← Qf2.out]; exact pu_wf hw2 hh2 (by decide))
  clear hv
  have Z4 := hid hs4.len
  have hh4 := sl_hlds hs4
  have hba := bel_alloc (Below.refl w6.heap.size w6) (Obj.cells #[.int .u64 f2.Id, .int .u64 f2.Local, .int .u64 f2.Remote, .int .u64 f2.Reserve, .int .u64 f2.Most, .slice A4 n4 c4, .bool f2.Open] 25)
  have B4 := BoxC.new w6 f2 A4 n4 c4
  have S4 := Sl.call hs4 hba
  replace HB0 := bel_call HB0 hba
  replace HB1 := bel_call HB1 hba
  replace HB2 := bel_call HB2 hba
  replace HB3 := bel_call HB3 hba
  clear hba hs4
  go_upto_region 14 with (fail)
  generalize w6.alloc (Obj.cells #[.int .u64 f2.Id, .int .u64 f2.Local, .int .u64 f2.Remote, .int .u64 f2.Reserve, .int .u64 f2.Most, .slice A4 n4 c4, .bool f2.Open] 25) = W4 at *
  generalize hg : w6.heap.size = g4 at *
  clear hg
  have K4 := hid (fun (W : World) (h : Below W4.heap.size W4 W) => (B4.call h).all)
  have P4 := hid (fun (W : World) (h : Below W4.heap.size W4 W) => chan_in hw4 S4 h)
  have HB4 := Below.refl W4.heap.size W4
  clear B4 S4
  obtain ⟨p20, p21, p22, p23, p24, p25, p26⟩ := K2.out _ HB2
  go_wp2_with fail
  refine (HC.close _ d _ (P2.out _ HB2)).mono ?_
  rw [R5.out]
  rintro e w7 ⟨t, rfl, hv, hb⟩
  replace HB0 := bel_call HB0 hb
  replace HB1 := bel_call HB1 hb
  replace HB2 := bel_call HB2 hb
  replace HB3 := bel_call HB3 hb
  replace HB4 := bel_call HB4 hb
  clear p20 p21 p22 p23 p24 p25 p26
  clear hb
  obtain ⟨f3, hf3⟩ : ∃ z, clC d = z := ⟨_, rfl⟩
  have Qf3 := hid hf3
  clear hf3
  rw [Qf3.out] at hv
  obtain ⟨A5, n5, c5, rfl, hw5, hs5⟩ := agg_Channel hv
  clear hv
  have Z5 := hid hs5.len
  have hh5 := sl_hlds hs5
  have hba := bel_alloc (Below.refl w7.heap.size w7) (Obj.cells #[.int .u64 f3.Id, .int .u64 f3.Local, .int .u64 f3.Remote, .int .u64 f3.Reserve, .int .u64 f3.Most, .slice A5 n5 c5, .bool f3.Open] 25)
  have B5 := BoxC.new w7 f3 A5 n5 c5
  have S5 := Sl.call hs5 hba
  replace HB0 := bel_call HB0 hba
  replace HB1 := bel_call HB1 hba
  replace HB2 := bel_call HB2 hba
  replace HB3 := bel_call HB3 hba
  replace HB4 := bel_call HB4 hba
  clear hba hs5
  go_upto_region 15 with (fail)
  generalize w7.alloc (Obj.cells #[.int .u64 f3.Id, .int .u64 f3.Local, .int .u64 f3.Remote, .int .u64 f3.Reserve, .int .u64 f3.Most, .slice A5 n5 c5, .bool f3.Open] 25) = W5 at *
  generalize hg : w7.heap.size = g5 at *
  clear hg
  have K5 := hid (fun (W : World) (h : Below W5.heap.size W5 W) => (B5.call h).all)
  have P5 := hid (fun (W : World) (h : Below W5.heap.size W5 W) => chan_in hw5 S5 h)
  have HB5 := Below.refl W5.heap.size W5
  clear B5 S5
  obtain ⟨p00, p01, p02, p03, p04, p05, p06⟩ := K0.out _ HB0
  obtain ⟨p20, p21, p22, p23, p24, p25, p26⟩ := K2.out _ HB2
  go_wp2
  go_ret
  exact ⟨rfl, bel_call hb0 HB0⟩
end Go.Proofs.Ytakplfoahlihaaa
