/-
  The walk of ChannelApart.
-/
import Derived.Test.YtakplfoahlihaaaChannelSpec
namespace Go.Proofs.Ytakplfoahlihaaa
open Go.RowKit Go.WalkArith

set_option maxRecDepth 100000 in
set_option maxHeartbeats 4000000 in
theorem en_any (HC : ChannelSpec) (s : Array Value) (c : Chn) (id : Int) (yes : Bool) (w : World) (r : lay_Channel.rep w (· < w.heap.size) c s.toList) (hi : (Lit.int .u64 id).wf = true) :
    Calls Try.prog 32 #[.agg s, .int .u64 id, .bool yes] w fun e w' => ∃ v, e = .returned (.tuple #[v, .int .u64 (wtN c id), .int .i64 (wtE c id)]) ∧ OwnC w' w.heap.size v (enC c id yes) ∧ Below w.heap.size w w' := by
  obtain ⟨A, n, k, rfl, hw, hs⟩ := agg_Channel r
  clear r
  have hb0 : Below w.heap.size w ((w.alloc (Obj.cells #[.int .u64 c.Id, .int .u64 c.Local, .int .u64 c.Remote, .int .u64 c.Reserve, .int .u64 c.Most, .slice A n k, .bool c.Open] 25)).alloc (Obj.cells #[.int .u64 0, .int .u64 0, .int .u64 0, .int .u64 0, .int .u64 0, .slice none 0 0, .bool false] 25)) := bel_alloc (bel_alloc (Below.refl _ _) _) _
  have BR : BoxC ((w.alloc (Obj.cells #[.int .u64 c.Id, .int .u64 c.Local, .int .u64 c.Remote, .int .u64 c.Reserve, .int .u64 c.Most, .slice A n k, .bool c.Open] 25)).alloc (Obj.cells #[.int .u64 0, .int .u64 0, .int .u64 0, .int .u64 0, .int .u64 0, .slice none 0 0, .bool false] 25)) (w.heap.size + 1) zeroCh none 0 0 := alloc2_new _ _ _
  have HZ := hid (show ((w.alloc (Obj.cells #[.int .u64 c.Id, .int .u64 c.Local, .int .u64 c.Remote, .int .u64 c.Reserve, .int .u64 c.Most, .slice A n k, .bool c.Open] 25)).alloc (Obj.cells #[.int .u64 0, .int .u64 0, .int .u64 0, .int .u64 0, .int .u64 0, .slice none 0 0, .bool false] 25)).heap.size = w.heap.size + 2 from by simp)
  cases yes
  · have HE := hid (show enC c id false = faC c id from rfl)
    obtain ⟨d, hd⟩ : ∃ z, faC c id = z := ⟨_, rfl⟩
    have HD := hid hd
    clear hd
    go_enter Try.func32, Try.ntmps32
    go_wp2_with fail
    generalize ((w.alloc (Obj.cells #[.int .u64 c.Id, .int .u64 c.Local, .int .u64 c.Remote, .int .u64 c.Reserve, .int .u64 c.Most, .slice A n k, .bool c.Open] 25)).alloc (Obj.cells #[.int .u64 0, .int .u64 0, .int .u64 0, .int .u64 0, .int .u64 0, .slice none 0 0, .bool false] 25)) = W0 at *
    refine (HC.fail _ c id _ (chan_in hw hs hb0) hi).mono ?_
    rw [HD.out]
    rintro e w1 ⟨v, rfl, ⟨u, rfl, ho⟩, hb1⟩
    obtain ⟨A1, n1, c1, rfl, hs1⟩ := ho.read
    have BR1 := BR.call hb1
    have B9 := hid (BR1.set d A1 n1 c1)
    have HB9 := hid (Below.setBox (bel_call hb0 hb1) (g := w.heap.size + 1) (Nat.le_succ _) d A1 n1 c1)
    have HO := hid ((OwnL.setBox ho (g := w.heap.size + 1) (by rw [HZ.out]; omega) d A1 n1 c1).lows (base' := w.heap.size) (lo' := w.heap.size) (by rw [HZ.out]; omega) (by rw [HZ.out]; omega))
    obtain ⟨k0, k1, k2, k3, k4, k5, k6⟩ := BR1.all
    have f0 := BR1.f 0
    have f1 := BR1.f 1
    have f2 := BR1.f 2
    have f3 := BR1.f 3
    have f4 := BR1.f 4
    have f5 := BR1.f 5
    have f6 := BR1.f 6
    clear BR1 hs1 ho hb1
    go_wp2
    refine bodyPost_ret_by (results_ctt rfl _ _ (w.heap.size + 1) 0 rfl [.int .u64 d.Id, .int .u64 d.Local, .int .u64 d.Remote, .int .u64 d.Reserve, .int .u64 d.Most, .slice A1 n1 c1, .bool d.Open] _ (range7 B9.out) Try.underlying25 rfl (by kernel_rfl)) rfl ?_
    exact ⟨_, rfl, by rw [HE.out, HD.out]; exact ⟨_, rfl, HO.out⟩, HB9.out⟩
  · have HE := hid (show enC c id true = seC c id from rfl)
    obtain ⟨d, hd⟩ : ∃ z, seC c id = z := ⟨_, rfl⟩
    have HD := hid hd
    clear hd
    go_enter Try.func32, Try.ntmps32
    go_wp2_with fail
    generalize ((w.alloc (Obj.cells #[.int .u64 c.Id, .int .u64 c.Local, .int .u64 c.Remote, .int .u64 c.Reserve, .int .u64 c.Most, .slice A n k, .bool c.Open] 25)).alloc (Obj.cells #[.int .u64 0, .int .u64 0, .int .u64 0, .int .u64 0, .int .u64 0, .slice none 0 0, .bool false] 25)) = W0 at *
    refine (HC.settle _ c id _ (chan_in hw hs hb0) hi).mono ?_
    rw [HD.out]
    rintro e w1 ⟨v, rfl, ⟨u, rfl, ho⟩, hb1⟩
    obtain ⟨A1, n1, c1, rfl, hs1⟩ := ho.read
    have BR1 := BR.call hb1
    have B9 := hid (BR1.set d A1 n1 c1)
    have HB9 := hid (Below.setBox (bel_call hb0 hb1) (g := w.heap.size + 1) (Nat.le_succ _) d A1 n1 c1)
    have HO := hid ((OwnL.setBox ho (g := w.heap.size + 1) (by rw [HZ.out]; omega) d A1 n1 c1).lows (base' := w.heap.size) (lo' := w.heap.size) (by rw [HZ.out]; omega) (by rw [HZ.out]; omega))
    obtain ⟨k0, k1, k2, k3, k4, k5, k6⟩ := BR1.all
    have f0 := BR1.f 0
    have f1 := BR1.f 1
    have f2 := BR1.f 2
    have f3 := BR1.f 3
    have f4 := BR1.f 4
    have f5 := BR1.f 5
    have f6 := BR1.f 6
    clear BR1 hs1 ho hb1
    go_wp2
    refine bodyPost_ret_by (results_ctt rfl _ _ (w.heap.size + 1) 0 rfl [.int .u64 d.Id, .int .u64 d.Local, .int .u64 d.Remote, .int .u64 d.Reserve, .int .u64 d.Most, .slice A1 n1 c1, .bool d.Open] _ (range7 B9.out) Try.underlying25 rfl (by kernel_rfl)) rfl ?_
    exact ⟨_, rfl, by rw [HE.out, HD.out]; exact ⟨_, rfl, HO.out⟩, HB9.out⟩

set_option maxRecDepth 100000 in
set_option maxHeartbeats 4000000 in
theorem channelApart_walkH (HC : ChannelSpec) (s0 : Array Value) (x0 : Chn) (a1 a2 : Int) (a3 a4 : Bool) (w : World) (r0 : lay_Channel.rep w (· < w.heap.size) x0 s0.toList) (b1 : 0 ≤ a1 ∧ a1 ≤ 18446744073709551615) (b2 : 0 ≤ a2 ∧ a2 ≤ 18446744073709551615) :
    Calls Try.prog 8 #[.agg s0, .int .u64 a1, .int .u64 a2, .bool a3, .bool a4] w fun e w' => e = .returned (.bool true) ∧ Below w.heap.size w w' := by
  have V1 := wf_u64 b1
  have V2 := wf_u64 b2
  obtain ⟨A0, n0, c0, rfl, hw0, hs0⟩ := agg_Channel r0
  clear r0
  have Z0 := hid hs0.len
  have hcap := hs0.cap
  unfold maxLen at hcap
  have hh0 := sl_hlds hs0
  have hb0 : Below w.heap.size w (w.alloc (Obj.cells #[.int .u64 x0.Id, .int .u64 x0.Local, .int .u64 x0.Remote, .int .u64 x0.Reserve, .int .u64 x0.Most, .slice A0 n0 c0, .bool x0.Open] 25)) := bel_alloc (Below.refl _ _) _
  have B0 := BoxC.new w x0 A0 n0 c0
  have S0 := Sl.call hs0 hb0
  clear hs0
  go_enter Try.func8, Try.ntmps8
  go_wp2_with fail
  generalize w.alloc (Obj.cells #[.int .u64 x0.Id, .int .u64 x0.Local, .int .u64 x0.Remote, .int .u64 x0.Reserve, .int .u64 x0.Most, .slice A0 n0 c0, .bool x0.Open] 25) = W0 at *
  have K0 := hid (fun (W : World) (h : Below W0.heap.size W0 W) => (B0.call h).all)
  have P0 := hid (fun (W : World) (h : Below W0.heap.size W0 W) => chan_in hw0 S0 h)
  refine (live9_any HC _).mono ?_
  rintro e w1 ⟨rfl, HB0⟩
  clear B0 S0
  by_cases hbig : 70 < n0
  · have d1 : decide ((70 : Int) < (n0 : Int)) = true := by simp; omega
    obtain ⟨p00, p01, p02, p03, p04, p05, p06⟩ := K0.out _ HB0
    go_wp2
    go_ret
    exact ⟨rfl, bel_call hb0 HB0⟩
  have d1 : decide ((70 : Int) < (n0 : Int)) = false := by simp; omega
  by_cases hab : a1 = a2
  · have dab : (a1 == a2) = true := by simpa using hab
    clear hab
    obtain ⟨p00, p01, p02, p03, p04, p05, p06⟩ := K0.out _ HB0
    go_wp2
    go_ret
    exact ⟨rfl, bel_call hb0 HB0⟩
  have dab : (a1 == a2) = false := by simpa using hab
  obtain ⟨ea, hea⟩ : ∃ z, wtE x0 a1 = z := ⟨_, rfl⟩
  have Qea := hid hea
  clear hea
  obtain ⟨na, hna⟩ : ∃ z, wtN x0 a1 = z := ⟨_, rfl⟩
  have Qna := hid hna
  clear hna
  obtain ⟨xa, hxa⟩ : ∃ z, enC x0 a1 a3 = z := ⟨_, rfl⟩
  have Qxa := hid hxa
  clear hxa
  obtain ⟨eb, heb⟩ : ∃ z, wtE x0 a2 = z := ⟨_, rfl⟩
  have Qeb := hid heb
  clear heb
  obtain ⟨nb, hnb⟩ : ∃ z, wtN x0 a2 = z := ⟨_, rfl⟩
  have Qnb := hid hnb
  clear hnb
  obtain ⟨xb, hxb⟩ : ∃ z, enC x0 a2 a4 = z := ⟨_, rfl⟩
  have Qxb := hid hxb
  clear hxb
  have HAB := hid hab
  clear hab
  obtain ⟨p00, p01, p02, p03, p04, p05, p06⟩ := K0.out _ HB0
  go_wp2_with fail
  refine (en_any HC _ x0 a1 a3 _ (P0.out _ HB0) V1).mono ?_
  rw [Qea.out, Qna.out, Qxa.out]
  rintro e w2 ⟨v, rfl, hv, hb⟩
  replace HB0 := bel_call HB0 hb
  clear p00 p01 p02 p03 p04 p05 p06
  clear hb
  obtain ⟨A1, n1, c1, rfl, hs1⟩ := hv.read
  have hw1 : ChnWf xa := (by rw [← Qxa.out]; exact en_wf hw0 hh0)
  clear hv
  have Z1 := hid hs1.len
  have hh1 := sl_hlds hs1
  have hba := bel_alloc (Below.refl w2.heap.size w2) (Obj.cells #[.int .u64 xa.Id, .int .u64 xa.Local, .int .u64 xa.Remote, .int .u64 xa.Reserve, .int .u64 xa.Most, .slice A1 n1 c1, .bool xa.Open] 25)
  have B1 := BoxC.new w2 xa A1 n1 c1
  have S1 := Sl.call hs1 hba
  replace HB0 := bel_call HB0 hba
  clear hba hs1
  go_upto_region 7 with (fail)
  generalize w2.alloc (Obj.cells #[.int .u64 xa.Id, .int .u64 xa.Local, .int .u64 xa.Remote, .int .u64 xa.Reserve, .int .u64 xa.Most, .slice A1 n1 c1, .bool xa.Open] 25) = W1 at *
  generalize hg : w2.heap.size = g1 at *
  clear hg
  have K1 := hid (fun (W : World) (h : Below W1.heap.size W1 W) => (B1.call h).all)
  have P1 := hid (fun (W : World) (h : Below W1.heap.size W1 W) => chan_in hw1 S1 h)
  have HB1 := Below.refl W1.heap.size W1
  clear B1 S1
  obtain ⟨p00, p01, p02, p03, p04, p05, p06⟩ := K0.out _ HB0
  go_wp2_with fail
  refine (en_any HC _ x0 a2 a4 _ (P0.out _ HB0) V2).mono ?_
  rw [Qeb.out, Qnb.out, Qxb.out]
  rintro e w3 ⟨v, rfl, hv, hb⟩
  replace HB0 := bel_call HB0 hb
  replace HB1 := bel_call HB1 hb
  clear p00 p01 p02 p03 p04 p05 p06
  clear hb
  obtain ⟨A2, n2, c2, rfl, hs2⟩ := hv.read
  have hw2 : ChnWf xb := (by rw [← Qxb.out]; exact en_wf hw0 hh0)
  clear hv
  have Z2 := hid hs2.len
  have hh2 := sl_hlds hs2
  have hba := bel_alloc (Below.refl w3.heap.size w3) (Obj.cells #[.int .u64 xb.Id, .int .u64 xb.Local, .int .u64 xb.Remote, .int .u64 xb.Reserve, .int .u64 xb.Most, .slice A2 n2 c2, .bool xb.Open] 25)
  have B2 := BoxC.new w3 xb A2 n2 c2
  have S2 := Sl.call hs2 hba
  replace HB0 := bel_call HB0 hba
  replace HB1 := bel_call HB1 hba
  clear hba hs2
  go_upto_region 8 with (fail)
  generalize w3.alloc (Obj.cells #[.int .u64 xb.Id, .int .u64 xb.Local, .int .u64 xb.Remote, .int .u64 xb.Reserve, .int .u64 xb.Most, .slice A2 n2 c2, .bool xb.Open] 25) = W2 at *
  generalize hg : w3.heap.size = g2 at *
  clear hg
  have K2 := hid (fun (W : World) (h : Below W2.heap.size W2 W) => (B2.call h).all)
  have P2 := hid (fun (W : World) (h : Below W2.heap.size W2 W) => chan_in hw2 S2 h)
  have HB2 := Below.refl W2.heap.size W2
  clear B2 S2
  by_cases ha : ea = 0
  rotate_left
  · have d1 : (ea != 0) = true := by simpa using ha
    have d2 : (ea == 0) = false := by simpa using ha
    have hn : na = 0 := by rw [← Qna.out]; exact (wt_no (by rw [Qea.out]; exact ha)).1
    subst hn
    clear ha
    go_wp2
    go_ret
    exact ⟨rfl, bel_call hb0 HB0⟩
  subst ha
  by_cases hbz : eb = 0
  rotate_left
  · have d1 : (eb != 0) = true := by simpa using hbz
    clear hbz
    go_wp2
    go_ret
    exact ⟨rfl, bel_call hb0 HB0⟩
  subst hbz
  obtain ⟨r1, r2, r3, r4, r5, r6⟩ := apart_chan (p := a3) (d := a4) HAB.out hw0 hh0 Qea.out Qeb.out
  rw [Qxa.out] at r1 r2 r5 r6
  rw [Qxb.out] at r3 r4 r5
  rw [Qnb.out] at r2
  rw [Qna.out] at r4
  obtain ⟨pp, hpp⟩ : ∃ z, enC xa a2 a4 = z := ⟨_, rfl⟩
  have Qpp := hid hpp
  clear hpp
  obtain ⟨qq, hqq⟩ : ∃ z, enC xb a1 a3 = z := ⟨_, rfl⟩
  have Qqq := hid hqq
  clear hqq
  rw [Qpp.out] at r5 r6
  rw [Qqq.out] at r5
  have R1 := hid r1
  have R2 := hid r2
  have R3 := hid r3
  have R4 := hid r4
  have R5 := hid r5
  have R6 := hid r6
  clear r1 r2 r3 r4 r5 r6
  obtain ⟨p10, p11, p12, p13, p14, p15, p16⟩ := K1.out _ HB1
  go_wp2_with fail
  refine (en_any HC _ xa a2 a4 _ (P1.out _ HB1) V2).mono ?_
  rw [R1.out, R2.out, Qpp.out]
  rintro e w4 ⟨v, rfl, hv, hb⟩
  replace HB0 := bel_call HB0 hb
  replace HB1 := bel_call HB1 hb
  replace HB2 := bel_call HB2 hb
  clear p10 p11 p12 p13 p14 p15 p16
  clear hb
  obtain ⟨A3, n3, c3, rfl, hs3⟩ := hv.read
  have hw3 : ChnWf pp := (by rw [← Qpp.out]; exact en_wf hw1 hh1)
  clear hv
  have Z3 := hid hs3.len
  have hh3 := sl_hlds hs3
  have hba := bel_alloc (Below.refl w4.heap.size w4) (Obj.cells #[.int .u64 pp.Id, .int .u64 pp.Local, .int .u64 pp.Remote, .int .u64 pp.Reserve, .int .u64 pp.Most, .slice A3 n3 c3, .bool pp.Open] 25)
  have B3 := BoxC.new w4 pp A3 n3 c3
  have S3 := Sl.call hs3 hba
  replace HB0 := bel_call HB0 hba
  replace HB1 := bel_call HB1 hba
  replace HB2 := bel_call HB2 hba
  clear hba hs3
  go_upto_region 11 with (fail)
  generalize w4.alloc (Obj.cells #[.int .u64 pp.Id, .int .u64 pp.Local, .int .u64 pp.Remote, .int .u64 pp.Reserve, .int .u64 pp.Most, .slice A3 n3 c3, .bool pp.Open] 25) = W3 at *
  generalize hg : w4.heap.size = g3 at *
  clear hg
  have K3 := hid (fun (W : World) (h : Below W3.heap.size W3 W) => (B3.call h).all)
  have P3 := hid (fun (W : World) (h : Below W3.heap.size W3 W) => chan_in hw3 S3 h)
  have HB3 := Below.refl W3.heap.size W3
  clear B3 S3
  obtain ⟨p20, p21, p22, p23, p24, p25, p26⟩ := K2.out _ HB2
  go_wp2_with fail
  refine (en_any HC _ xb a1 a3 _ (P2.out _ HB2) V1).mono ?_
  rw [R3.out, R4.out, Qqq.out]
  rintro e w5 ⟨v, rfl, hv, hb⟩
  replace HB0 := bel_call HB0 hb
  replace HB1 := bel_call HB1 hb
  replace HB2 := bel_call HB2 hb
  replace HB3 := bel_call HB3 hb
  clear p20 p21 p22 p23 p24 p25 p26
  clear hb
  obtain ⟨A4, n4, c4, rfl, hs4⟩ := hv.read
  have hw4 : ChnWf qq := (by rw [← Qqq.out]; exact en_wf hw2 hh2)
  clear hv
  have Z4 := hid hs4.len
  have hh4 := sl_hlds hs4
  have hba := bel_alloc (Below.refl w5.heap.size w5) (Obj.cells #[.int .u64 qq.Id, .int .u64 qq.Local, .int .u64 qq.Remote, .int .u64 qq.Reserve, .int .u64 qq.Most, .slice A4 n4 c4, .bool qq.Open] 25)
  have B4 := BoxC.new w5 qq A4 n4 c4
  have S4 := Sl.call hs4 hba
  replace HB0 := bel_call HB0 hba
  replace HB1 := bel_call HB1 hba
  replace HB2 := bel_call HB2 hba
  replace HB3 := bel_call HB3 hba
  clear hba hs4
  go_upto_region 12 with (fail)
  generalize w5.alloc (Obj.cells #[.int .u64 qq.Id, .int .u64 qq.Local, .int .u64 qq.Remote, .int .u64 qq.Reserve, .int .u64 qq.Most, .slice A4 n4 c4, .bool qq.Open] 25) = W4 at *
  generalize hg : w5.heap.size = g4 at *
  clear hg
  have K4 := hid (fun (W : World) (h : Below W4.heap.size W4 W) => (B4.call h).all)
  have P4 := hid (fun (W : World) (h : Below W4.heap.size W4 W) => chan_in hw4 S4 h)
  have HB4 := Below.refl W4.heap.size W4
  clear B4 S4
  have dn1 : (nb == nb) = true := by simp
  have dn2 : (na == na) = true := by simp
  have hn3 : (n3 : Int) = (n0 : Int) - 2 := by have h1 := R6.out; have h2 := Z3.out; have h3 := Z0.out; omega
  have w3 : IntKind.i64.wrap ((n0 : Int) - 2) = (n0 : Int) - 2 := IntWalk.i64_in _ (by omega)
  have dn3 : ((n3 : Int) == (n0 : Int) - 2) = true := by simpa using hn3
  clear hn3
  obtain ⟨p30, p31, p32, p33, p34, p35, p36⟩ := K3.out _ HB3
  obtain ⟨p40, p41, p42, p43, p44, p45, p46⟩ := K4.out _ HB4
  go_wp2_with fail
  refine (HC.same _ _ pp qq _ (P3.out _ HB3) (P4.out _ HB4)).mono ?_
  rw [show decide (pp = qq) = true from decide_eq_true R5.out]
  rintro e w6 ⟨rfl, hb⟩
  replace HB0 := bel_call HB0 hb
  replace HB1 := bel_call HB1 hb
  replace HB2 := bel_call HB2 hb
  replace HB3 := bel_call HB3 hb
  replace HB4 := bel_call HB4 hb
  clear p30 p31 p32 p33 p34 p35 p36 p40 p41 p42 p43 p44 p45 p46
  clear hb
  obtain ⟨p30, p31, p32, p33, p34, p35, p36⟩ := K3.out _ HB3
  obtain ⟨p00, p01, p02, p03, p04, p05, p06⟩ := K0.out _ HB0
  go_wp2
  go_ret
  exact ⟨rfl, bel_call hb0 HB0⟩
end Go.Proofs.Ytakplfoahlihaaa
