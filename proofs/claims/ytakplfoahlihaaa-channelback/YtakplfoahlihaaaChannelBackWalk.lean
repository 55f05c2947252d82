/-
  The walk of ChannelBack.
-/
import Derived.Test.YtakplfoahlihaaaChannelSpec
namespace Go.Proofs.Ytakplfoahlihaaa
open Go.RowKit Go.WalkArith

set_option maxRecDepth 100000 in
set_option maxHeartbeats 4000000 in
theorem channelBack_walkH (HC : ChannelSpec) (s0 : Array Value) (x0 : Chn) (a1 a2 : Int) (w : World) (r0 : lay_Channel.rep w (· < w.heap.size) x0 s0.toList) (b1 : 0 ≤ a1 ∧ a1 ≤ 18446744073709551615) (b2 : 0 ≤ a2 ∧ a2 ≤ 18446744073709551615) :
    Calls Try.prog 6 #[.agg s0, .int .u64 a1, .int .u64 a2] w fun e w' => e = .returned (.bool true) ∧ Below w.heap.size w w' := by
  have V1 := wf_u64 b1
  have V2 := wf_u64 b2
  obtain ⟨A0, n0, c0, rfl, hw0, hs0⟩ := agg_Channel r0
  clear r0
  have Z0 := hid hs0.len
  have hcap := hs0.cap
  unfold maxLen at hcap
  have hh0 := sl_hlds hs0
  have hb0 : Below w.heap.size w (w.alloc (Obj.cells #[.int .u64 x0.Id, .int .u64 x0.Local, .int .u64 x0.Remote, .int .u64 x0.Reserve, .int .u64 x0.Most, .slice A0 n0 c0, .bool x0.Open] 25)) := bel_alloc (Below.refl _ _) _
  have B0 := BoxC.new w x0 A0 n0 c0
  have S0 := Sl.call hs0 hb0
  clear hs0
  go_enter Try.func6, Try.ntmps6
  go_wp2_with fail
  generalize w.alloc (Obj.cells #[.int .u64 x0.Id, .int .u64 x0.Local, .int .u64 x0.Remote, .int .u64 x0.Reserve, .int .u64 x0.Most, .slice A0 n0 c0, .bool x0.Open] 25) = W0 at *
  have K0 := hid (fun (W : World) (h : Below W0.heap.size W0 W) => (B0.call h).all)
  have P0 := hid (fun (W : World) (h : Below W0.heap.size W0 W) => chan_in hw0 S0 h)
  refine (live9_any HC _).mono ?_
  rintro e w1 ⟨rfl, HB0⟩
  clear B0 S0
  by_cases hbig : 70 < n0
  · have d1 : decide ((70 : Int) < (n0 : Int)) = true := by simp; omega
    obtain ⟨p00, p01, p02, p03, p04, p05, p06⟩ := K0.out _ HB0
    go_wp2
    go_ret
    exact ⟨rfl, bel_call hb0 HB0⟩
  have d1 : decide ((70 : Int) < (n0 : Int)) = false := by simp; omega
  obtain ⟨e1, he1⟩ : ∃ z, hoE x0 a1 a2 = z := ⟨_, rfl⟩
  have Qe1 := hid he1
  clear he1
  obtain ⟨d, hd⟩ : ∃ z, hoC x0 a1 a2 = z := ⟨_, rfl⟩
  have Qd := hid hd
  clear hd
  obtain ⟨p00, p01, p02, p03, p04, p05, p06⟩ := K0.out _ HB0
  go_wp2_with fail
  refine (HC.hold _ x0 a1 a2 _ (P0.out _ HB0) V1 V2).mono ?_
  rw [Qe1.out, Qd.out]
  rintro e w2 ⟨v, rfl, hv, hb⟩
  replace HB0 := bel_call HB0 hb
  clear p00 p01 p02 p03 p04 p05 p06
  clear hb
  obtain ⟨A1, n1, c1, rfl, hs1⟩ := hv.read
  have hw1 : ChnWf d := (by rw [← Qd.out]; exact ho_wf hw0 b2.1)
  clear hv
  have Z1 := hid hs1.len
  have hh1 := sl_hlds hs1
  have hba := bel_alloc (Below.refl w2.heap.size w2) (Obj.cells #[.int .u64 d.Id, .int .u64 d.Local, .int .u64 d.Remote, .int .u64 d.Reserve, .int .u64 d.Most, .slice A1 n1 c1, .bool d.Open] 25)
  have B1 := BoxC.new w2 d A1 n1 c1
  have S1 := Sl.call hs1 hba
  replace HB0 := bel_call HB0 hba
  clear hba hs1
  go_upto_region 6 with (fail)
  generalize w2.alloc (Obj.cells #[.int .u64 d.Id, .int .u64 d.Local, .int .u64 d.Remote, .int .u64 d.Reserve, .int .u64 d.Most, .slice A1 n1 c1, .bool d.Open] 25) = W1 at *
  generalize hg : w2.heap.size = g1 at *
  clear hg
  have K1 := hid (fun (W : World) (h : Below W1.heap.size W1 W) => (B1.call h).all)
  have P1 := hid (fun (W : World) (h : Below W1.heap.size W1 W) => chan_in hw1 S1 h)
  have HB1 := Below.refl W1.heap.size W1
  clear B1 S1
  by_cases hz : e1 = 0
  rotate_left
  · have hne : (e1 != 0) = true := by simpa using hz
    have hd : n1 = 0 := by rw [← Z1.out, ← Qd.out, ho_no (by rw [Qe1.out]; exact hz)]; rfl
    subst hd
    obtain ⟨p10, p11, p12, p13, p14, p15, p16⟩ := K1.out _ HB1
    go_wp2
    go_ret
    exact ⟨rfl, bel_call hb0 HB0⟩
  subst hz
  obtain ⟨r1, r2, r3, r4, r5, r6, r7, r8⟩ := back_laws hw0 b2.1 V1 hh0 Qe1.out
  rw [Qd.out] at r1 r2 r3 r4 r5 r6 r8
  obtain ⟨s, hs⟩ : ∃ z, seC d a1 = z := ⟨_, rfl⟩
  have Qs := hid hs
  clear hs
  rw [Qs.out] at r4 r5 r6
  obtain ⟨-, -, -, -, -, -, j7, j8, -, -⟩ := ho_is Qe1.out
  have c1 := bounds_u64 hw0.loc
  have c2 := bounds_u64 hw0.res
  have c3 := bounds_u64 hw0.rem
  have ch := (ho_is Qe1.out).1
  have hm : mMax = 4611686018427387904 := rfl
  have cm := ch.2.2.2.2.2.2.2.2.2.1
  have cn := (ho_is Qe1.out).2.2.1
  have w1e : IntKind.u64.wrap (x0.Remote + a2) = x0.Remote + a2 := IntWalk.u64_in _ (by omega)
  have w2e : IntKind.u64.wrap (x0.Local - a2) = x0.Local - a2 := IntWalk.u64_in _ (by omega)
  have dR : (s.Remote != x0.Remote + a2) = false := by rw [r4]; simp
  have dL : (s.Local != x0.Local - a2) = false := by rw [r5]; simp
  have dn : (a2 != a2) = false := by simp
  have R1 := hid r1
  have R2 := hid r2
  have R3 := hid r3
  have R6 := hid r6
  have R7 := hid r7
  have R8 := hid r8
  clear r1 r2 r3 r4 r5 r6 r7 r8 j7 j8 ch cm cn hm
  obtain ⟨p10, p11, p12, p13, p14, p15, p16⟩ := K1.out _ HB1
  go_wp2_with fail
  refine (HC.fail _ d a1 _ (P1.out _ HB1) V1).mono ?_
  rw [R1.out, R2.out, R3.out]
  rintro e w3 ⟨v, rfl, hv, hb⟩
  replace HB0 := bel_call HB0 hb
  replace HB1 := bel_call HB1 hb
  clear p10 p11 p12 p13 p14 p15 p16
  clear hb
  obtain ⟨A2, n2, c2, rfl, hs2⟩ := hv.read
  have hw2 : ChnWf x0 := hw0
  clear hv
  have Z2 := hid hs2.len
  have hh2 := sl_hlds hs2
  have hba := bel_alloc (Below.refl w3.heap.size w3) (Obj.cells #[.int .u64 x0.Id, .int .u64 x0.Local, .int .u64 x0.Remote, .int .u64 x0.Reserve, .int .u64 x0.Most, .slice A2 n2 c2, .bool x0.Open] 25)
  have B2 := BoxC.new w3 x0 A2 n2 c2
  have S2 := Sl.call hs2 hba
  replace HB0 := bel_call HB0 hba
  replace HB1 := bel_call HB1 hba
  clear hba hs2
  go_upto_region 9 with (fail)
  generalize w3.alloc (Obj.cells #[.int .u64 x0.Id, .int .u64 x0.Local, .int .u64 x0.Remote, .int .u64 x0.Reserve, .int .u64 x0.Most, .slice A2 n2 c2, .bool x0.Open] 25) = W2 at *
  generalize hg : w3.heap.size = g2 at *
  clear hg
  have K2 := hid (fun (W : World) (h : Below W2.heap.size W2 W) => (B2.call h).all)
  have P2 := hid (fun (W : World) (h : Below W2.heap.size W2 W) => chan_in hw2 S2 h)
  have HB2 := Below.refl W2.heap.size W2
  clear B2 S2
  obtain ⟨p10, p11, p12, p13, p14, p15, p16⟩ := K1.out _ HB1
  go_wp2_with fail
  refine (HC.settle _ d a1 _ (P1.out _ HB1) V1).mono ?_
  rw [R1.out, R2.out, Qs.out]
  rintro e w4 ⟨v, rfl, hv, hb⟩
  replace HB0 := bel_call HB0 hb
  replace HB1 := bel_call HB1 hb
  replace HB2 := bel_call HB2 hb
  clear p10 p11 p12 p13 p14 p15 p16
  clear hb
  obtain ⟨A3, n3, c3, rfl, hs3⟩ := hv.read
  have hw3 : ChnWf s := (by rw [← Qs.out]; exact se_wf hw1 hh1)
  clear hv
  have Z3 := hid hs3.len
  have hh3 := sl_hlds hs3
  have hba := bel_alloc (Below.refl w4.heap.size w4) (Obj.cells #[.int .u64 s.Id, .int .u64 s.Local, .int .u64 s.Remote, .int .u64 s.Reserve, .int .u64 s.Most, .slice A3 n3 c3, .bool s.Open] 25)
  have B3 := BoxC.new w4 s A3 n3 c3
  have S3 := Sl.call hs3 hba
  replace HB0 := bel_call HB0 hba
  replace HB1 := bel_call HB1 hba
  replace HB2 := bel_call HB2 hba
  clear hba hs3
  go_upto_region 10 with (fail)
  generalize w4.alloc (Obj.cells #[.int .u64 s.Id, .int .u64 s.Local, .int .u64 s.Remote, .int .u64 s.Reserve, .int .u64 s.Most, .slice A3 n3 c3, .bool s.Open] 25) = W3 at *
  generalize hg : w4.heap.size = g3 at *
  clear hg
  have K3 := hid (fun (W : World) (h : Below W3.heap.size W3 W) => (B3.call h).all)
  have P3 := hid (fun (W : World) (h : Below W3.heap.size W3 W) => chan_in hw3 S3 h)
  have HB3 := Below.refl W3.heap.size W3
  clear B3 S3
  obtain ⟨p20, p21, p22, p23, p24, p25, p26⟩ := K2.out _ HB2
  obtain ⟨p00, p01, p02, p03, p04, p05, p06⟩ := K0.out _ HB0
  obtain ⟨p30, p31, p32, p33, p34, p35, p36⟩ := K3.out _ HB3
  go_wp2_with fail
  refine (HC.same _ _ x0 x0 _ (P2.out _ HB2) (P0.out _ HB0)).mono ?_
  rw [show decide (x0 = x0) = true from decide_eq_true rfl]
  rintro e w5 ⟨rfl, hb⟩
  replace HB0 := bel_call HB0 hb
  replace HB1 := bel_call HB1 hb
  replace HB2 := bel_call HB2 hb
  replace HB3 := bel_call HB3 hb
  clear p20 p21 p22 p23 p24 p25 p26 p00 p01 p02 p03 p04 p05 p06 p30 p31 p32 p33 p34 p35 p36
  clear hb
  obtain ⟨p00, p01, p02, p03, p04, p05, p06⟩ := K0.out _ HB0
  obtain ⟨p30, p31, p32, p33, p34, p35, p36⟩ := K3.out _ HB3
  go_upto_region 12 with (fail)
  clear p00 p01 p02 p03 p04 p05 p06 p30 p31 p32 p33 p34 p35 p36
  obtain ⟨p30, p31, p32, p33, p34, p35, p36⟩ := K3.out _ HB3
  go_wp2_with fail
  refine (HC.fail _ s a1 _ (P3.out _ HB3) V1).mono ?_
  rw [R6.out]
  rintro e w6 ⟨v, rfl, hv, hb⟩
  replace HB0 := bel_call HB0 hb
  replace HB1 := bel_call HB1 hb
  replace HB2 := bel_call HB2 hb
  replace HB3 := bel_call HB3 hb
  clear p30 p31 p32 p33 p34 p35 p36
  clear hb
  obtain ⟨f5, hf5⟩ : ∃ z, faC s a1 = z := ⟨_, rfl⟩
  have Qf5 := hid hf5
  clear hf5
  rw [Qf5.out] at hv
  obtain ⟨A4, n4, c4, rfl, hs4⟩ := hv.read
  have hw4 : ChnWf f5 := (by rw [← Qf5.out]; exact fa_wf hw3 hh3)
  clear hv
  have Z4 := hid hs4.len
  have hh4 := sl_hlds hs4
  have hba := bel_alloc (Below.refl w6.heap.size w6) (Obj.cells #[.int .u64 f5.Id, .int .u64 f5.Local, .int .u64 f5.Remote, .int .u64 f5.Reserve, .int .u64 f5.Most, .slice A4 n4 c4, .bool f5.Open] 25)
  have B4 := BoxC.new w6 f5 A4 n4 c4
  have S4 := Sl.call hs4 hba
  replace HB0 := bel_call HB0 hba
  replace HB1 := bel_call HB1 hba
  replace HB2 := bel_call HB2 hba
  replace HB3 := bel_call HB3 hba
  clear hba hs4
  go_upto_region 13 with (fail)
  generalize w6.alloc (Obj.cells #[.int .u64 f5.Id, .int .u64 f5.Local, .int .u64 f5.Remote, .int .u64 f5.Reserve, .int .u64 f5.Most, .slice A4 n4 c4, .bool f5.Open] 25) = W4 at *
  generalize hg : w6.heap.size = g4 at *
  clear hg
  have K4 := hid (fun (W : World) (h : Below W4.heap.size W4 W) => (B4.call h).all)
  have P4 := hid (fun (W : World) (h : Below W4.heap.size W4 W) => chan_in hw4 S4 h)
  have HB4 := Below.refl W4.heap.size W4
  clear B4 S4
  obtain ⟨p20, p21, p22, p23, p24, p25, p26⟩ := K2.out _ HB2
  go_wp2_with fail
  refine (HC.settle _ x0 a1 _ (P2.out _ HB2) V1).mono ?_
  rw [R7.out]
  rintro e w7 ⟨v, rfl, hv, hb⟩
  replace HB0 := bel_call HB0 hb
  replace HB1 := bel_call HB1 hb
  replace HB2 := bel_call HB2 hb
  replace HB3 := bel_call HB3 hb
  replace HB4 := bel_call HB4 hb
  clear p20 p21 p22 p23 p24 p25 p26
  clear hb
  obtain ⟨f6, hf6⟩ : ∃ z, seC x0 a1 = z := ⟨_, rfl⟩
  have Qf6 := hid hf6
  clear hf6
  rw [Qf6.out] at hv
  obtain ⟨A5, n5, c5, rfl, hs5⟩ := hv.read
  have hw5 : ChnWf f6 := (by rw [← Qf6.out]; exact se_wf hw0 hh0)
  clear hv
  have Z5 := hid hs5.len
  have hh5 := sl_hlds hs5
  have hba := bel_alloc (Below.refl w7.heap.size w7) (Obj.cells #[.int .u64 f6.Id, .int .u64 f6.Local, .int .u64 f6.Remote, .int .u64 f6.Reserve, .int .u64 f6.Most, .slice A5 n5 c5, .bool f6.Open] 25)
  have B5 := BoxC.new w7 f6 A5 n5 c5
  have S5 := Sl.call hs5 hba
  replace HB0 := bel_call HB0 hba
  replace HB1 := bel_call HB1 hba
  replace HB2 := bel_call HB2 hba
  replace HB3 := bel_call HB3 hba
  replace HB4 := bel_call HB4 hba
  clear hba hs5
  go_upto_region 14 with (fail)
  generalize w7.alloc (Obj.cells #[.int .u64 f6.Id, .int .u64 f6.Local, .int .u64 f6.Remote, .int .u64 f6.Reserve, .int .u64 f6.Most, .slice A5 n5 c5, .bool f6.Open] 25) = W5 at *
  generalize hg : w7.heap.size = g5 at *
  clear hg
  have K5 := hid (fun (W : World) (h : Below W5.heap.size W5 W) => (B5.call h).all)
  have P5 := hid (fun (W : World) (h : Below W5.heap.size W5 W) => chan_in hw5 S5 h)
  have HB5 := Below.refl W5.heap.size W5
  clear B5 S5
  obtain ⟨p10, p11, p12, p13, p14, p15, p16⟩ := K1.out _ HB1
  go_wp2_with fail
  refine (HC.hold _ d a1 a2 _ (P1.out _ HB1) V1 V2).mono ?_
  rw [R8.out]
  rintro e w8 ⟨v, rfl, hv, hb⟩
  replace HB0 := bel_call HB0 hb
  replace HB1 := bel_call HB1 hb
  replace HB2 := bel_call HB2 hb
  replace HB3 := bel_call HB3 hb
  replace HB4 := bel_call HB4 hb
  replace HB5 := bel_call HB5 hb
  clear p10 p11 p12 p13 p14 p15 p16
  clear hb
  obtain ⟨f7, hf7⟩ : ∃ z, hoC d a1 a2 = z := ⟨_, rfl⟩
  have Qf7 := hid hf7
  clear hf7
  rw [Qf7.out] at hv
  obtain ⟨A6, n6, c6, rfl, hs6⟩ := hv.read
  have hw6 : ChnWf f7 := (by rw [← Qf7.out]; exact ho_wf hw1 b2.1)
  clear hv
  have Z6 := hid hs6.len
  have hh6 := sl_hlds hs6
  have hba := bel_alloc (Below.refl w8.heap.size w8) (Obj.cells #[.int .u64 f7.Id, .int .u64 f7.Local, .int .u64 f7.Remote, .int .u64 f7.Reserve, .int .u64 f7.Most, .slice A6 n6 c6, .bool f7.Open] 25)
  have B6 := BoxC.new w8 f7 A6 n6 c6
  have S6 := Sl.call hs6 hba
  replace HB0 := bel_call HB0 hba
  replace HB1 := bel_call HB1 hba
  replace HB2 := bel_call HB2 hba
  replace HB3 := bel_call HB3 hba
  replace HB4 := bel_call HB4 hba
  replace HB5 := bel_call HB5 hba
  clear hba hs6
  go_upto_region 15 with (fail)
  generalize w8.alloc (Obj.cells #[.int .u64 f7.Id, .int .u64 f7.Local, .int .u64 f7.Remote, .int .u64 f7.Reserve, .int .u64 f7.Most, .slice A6 n6 c6, .bool f7.Open] 25) = W6 at *
  generalize hg : w8.heap.size = g6 at *
  clear hg
  have K6 := hid (fun (W : World) (h : Below W6.heap.size W6 W) => (B6.call h).all)
  have P6 := hid (fun (W : World) (h : Below W6.heap.size W6 W) => chan_in hw6 S6 h)
  have HB6 := Below.refl W6.heap.size W6
  clear B6 S6
  go_wp2
  go_ret
  exact ⟨rfl, bel_call hb0 HB0⟩
end Go.Proofs.Ytakplfoahlihaaa
