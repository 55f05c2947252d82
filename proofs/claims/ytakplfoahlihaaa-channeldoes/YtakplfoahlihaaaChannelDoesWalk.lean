/-
  The walk of ChannelDoes.
-/
import Derived.Test.YtakplfoahlihaaaChannelRef6
import Derived.Test.YtakplfoahlihaaaScb
namespace Go.Proofs.Ytakplfoahlihaaa
open Go.RowKit Go.WalkArith

theorem Sl.fromC {α : Type} {L : Lay α} {w w' : World} {l : Nat} {A : Option Addr} {n c : Nat} {xs : List α} (h : Sl L w (From w l) A n c xs) (hb : Below w.heap.size w w') : Sl L w' (From w' l) A n c xs := (h.keep fun _ hp => hb.cell hp.2.1).wide fun _ hp => hp.keep hb
theorem OwnC.readF {w : World} {base : Nat} {v : Value} {t : Chn} (h : OwnC w base v t) : ∃ A n c, v = .agg #[.int .u64 t.Id, .int .u64 t.Local, .int .u64 t.Remote, .int .u64 t.Reserve, .int .u64 t.Most, .slice A n c, .bool t.Open] ∧ Sl lay_Hold w (· < w.heap.size) A n c t.Holds ∧ Sl lay_Hold w (From w base) A n c t.Holds := by
  obtain ⟨u, rfl, ho⟩ := h
  obtain ⟨A, n, c, rfl, hs⟩ := ho.sl (Nat.le_refl _) (Nat.le_refl _)
  exact ⟨A, n, c, rfl, hs.wide fun _ hp => hp.2.1, hs⟩
/-- Where the amounts of new holds lie. -/
theorem holds_at {w : World} {lo : Nat} {A : Option Addr} {n c : Nat} {xs : List Hld} (h : Sl lay_Hold w (From w lo) A n c xs) (hn : 0 < n) : ∃ b off, A = some ⟨b, off, none⟩ ∧ lo ≤ b ∧ ∀ i, i < n → w.frozen? ⟨b, off + i * 2 + 1, none⟩ = false ∧ ∃ x, w.cell? ⟨b, off + i * 2 + 1, none⟩ = some (.int .u64 x) := by
  obtain ⟨b, off, hx, rfl, hb, -, -, -⟩ := hld_at h hn
  refine ⟨b, off, rfl, hb.1, fun i hi => ?_⟩
  obtain ⟨b', off', hx', he, hb', -, t2, -⟩ := hld_at h hi
  injection he with he
  injection he with e1 e2
  subst e1 e2
  exact ⟨hb.2.2 _, _, t2⟩

set_option maxRecDepth 100000 in
set_option maxHeartbeats 4000000 in
theorem channelDoes_walkH (HC : ChannelSpec) (s0 : Array Value) (x0 : Chn) (a1 a2 : Int) (w : World) (r0 : lay_Channel.rep w (· < w.heap.size) x0 s0.toList) (b1 : 0 ≤ a1 ∧ a1 ≤ 18446744073709551615) (b2 : 0 ≤ a2 ∧ a2 ≤ 18446744073709551615) :
    Calls Try.prog 3 #[.agg s0, .int .u64 a1, .int .u64 a2] w fun e w' => e = .returned (.bool true) ∧ Below w.heap.size w w' := by
  have V1 := wf_u64 b1
  have V2 := wf_u64 b2
  obtain ⟨A0, n0, c0, rfl, hw0, hs0⟩ := agg_Channel r0
  clear r0
  have Z0 := hid hs0.len
  have hcap := hs0.cap
  unfold maxLen at hcap
  have hh0 := sl_hlds hs0
  have hb0 : Below w.heap.size w (w.alloc (Obj.cells #[.int .u64 x0.Id, .int .u64 x0.Local, .int .u64 x0.Remote, .int .u64 x0.Reserve, .int .u64 x0.Most, .slice A0 n0 c0, .bool x0.Open] 25)) := bel_alloc (Below.refl _ _) _
  have B0 := BoxC.new w x0 A0 n0 c0
  have S0 := Sl.call hs0 hb0
  clear hs0
  go_enter Try.func3, Try.ntmps3
  go_wp2_with fail
  generalize w.alloc (Obj.cells #[.int .u64 x0.Id, .int .u64 x0.Local, .int .u64 x0.Remote, .int .u64 x0.Reserve, .int .u64 x0.Most, .slice A0 n0 c0, .bool x0.Open] 25) = W0 at *
  have K0 := hid (fun (W : World) (h : Below W0.heap.size W0 W) => (B0.call h).all)
  have P0 := hid (fun (W : World) (h : Below W0.heap.size W0 W) => chan_in hw0 S0 h)
  refine (live9_any HC _).mono ?_
  rintro e w1 ⟨rfl, HB0⟩
  clear B0 S0
  by_cases hbig : 70 < n0
  · have d1 : decide ((70 : Int) < (n0 : Int)) = true := by simp; omega
    obtain ⟨p00, p01, p02, p03, p04, p05, p06⟩ := K0.out _ HB0
    go_wp2
    go_ret
    exact ⟨rfl, bel_call hb0 HB0⟩
  have d1 : decide ((70 : Int) < (n0 : Int)) = false := by simp; omega
  obtain ⟨eH, heH⟩ : ∃ z, hoE x0 a1 a2 = z := ⟨_, rfl⟩
  have QeH := hid heH
  clear heH
  obtain ⟨cH, hcH⟩ : ∃ z, hoC x0 a1 a2 = z := ⟨_, rfl⟩
  have QcH := hid hcH
  clear hcH
  obtain ⟨nS, hnS⟩ : ∃ z, wtN x0 a1 = z := ⟨_, rfl⟩
  have QnS := hid hnS
  clear hnS
  obtain ⟨eS, heS⟩ : ∃ z, wtE x0 a1 = z := ⟨_, rfl⟩
  have QeS := hid heS
  clear heS
  obtain ⟨cS, hcS⟩ : ∃ z, seC x0 a1 = z := ⟨_, rfl⟩
  have QcS := hid hcS
  clear hcS
  obtain ⟨cF, hcF⟩ : ∃ z, faC x0 a1 = z := ⟨_, rfl⟩
  have QcF := hid hcF
  clear hcF
  obtain ⟨eP, heP⟩ : ∃ z, puE x0 a2 = z := ⟨_, rfl⟩
  have QeP := hid heP
  clear heP
  obtain ⟨cP, hcP⟩ : ∃ z, puC x0 a2 = z := ⟨_, rfl⟩
  have QcP := hid hcP
  clear hcP
  obtain ⟨eC, heC⟩ : ∃ z, clE x0 = z := ⟨_, rfl⟩
  have QeC := hid heC
  clear heC
  obtain ⟨cC, hcC⟩ : ∃ z, clC x0 = z := ⟨_, rfl⟩
  have QcC := hid hcC
  clear hcC
  have hl0 : x0.Holds.length ≤ 1000 := by rw [Z0.out]; omega
  obtain ⟨p00, p01, p02, p03, p04, p05, p06⟩ := K0.out _ HB0
  go_wp2_with fail
  refine (refCopy9_any _ x0 _ (P0.out _ HB0) hl0).mono ?_
  rintro e w2 ⟨v, rfl, hv, hb⟩
  replace HB0 := bel_call HB0 hb
  clear p00 p01 p02 p03 p04 p05 p06
  clear hb
  obtain ⟨A1, n1, c1, rfl, hs1⟩ := hv.read
  have hw1 : ChnWf x0 := hw0
  clear hv
  have Z1 := hid hs1.len
  have hh1 := sl_hlds hs1
  have hba := bel_alloc (Below.refl w2.heap.size w2) (Obj.cells #[.int .u64 x0.Id, .int .u64 x0.Local, .int .u64 x0.Remote, .int .u64 x0.Reserve, .int .u64 x0.Most, .slice A1 n1 c1, .bool x0.Open] 25)
  have B1 := BoxC.new w2 x0 A1 n1 c1
  have S1 := Sl.call hs1 hba
  replace HB0 := bel_call HB0 hba
  clear hba hs1
  go_upto_region 6 with (fail)
  generalize w2.alloc (Obj.cells #[.int .u64 x0.Id, .int .u64 x0.Local, .int .u64 x0.Remote, .int .u64 x0.Reserve, .int .u64 x0.Most, .slice A1 n1 c1, .bool x0.Open] 25) = W1 at *
  generalize hg : w2.heap.size = g1 at *
  clear hg
  have K1 := hid (fun (W : World) (h : Below W1.heap.size W1 W) => (B1.call h).all)
  have P1 := hid (fun (W : World) (h : Below W1.heap.size W1 W) => chan_in hw1 S1 h)
  have HB1 := Below.refl W1.heap.size W1
  clear B1 S1
  have hz01 := HB0.size
  obtain ⟨p00, p01, p02, p03, p04, p05, p06⟩ := K0.out _ HB0
  go_wp2_with fail
  refine (HC.hold _ x0 a1 a2 _ (P0.out _ HB0) V1 V2).mono ?_
  rw [QeH.out, QcH.out]
  rintro e w3 ⟨v, rfl, hv, hb⟩
  replace HB0 := bel_call HB0 hb
  replace HB1 := bel_call HB1 hb
  clear p00 p01 p02 p03 p04 p05 p06
  clear hb
  obtain ⟨A2, n2, c2, rfl, hs2, hF2⟩ := hv.readF
  have hw2 : ChnWf cH := (by rw [← QcH.out]; exact ho_wf hw0 b2.1)
  clear hv
  have hba := bel_alloc (Below.refl w3.heap.size w3) (Obj.cells #[.int .u64 cH.Id, .int .u64 cH.Local, .int .u64 cH.Remote, .int .u64 cH.Reserve, .int .u64 cH.Most, .slice A2 n2 c2, .bool cH.Open] 25)
  have B2 := BoxC.new w3 cH A2 n2 c2
  have S2 := Sl.call hs2 hba
  have T2 := Sl.fromC hF2 hba
  have X2 := hs2.cap
  unfold maxLen at X2
  replace HB0 := bel_call HB0 hba
  replace HB1 := bel_call HB1 hba
  clear hba hs2 hF2
  go_upto_region 7 with (fail)
  generalize w3.alloc (Obj.cells #[.int .u64 cH.Id, .int .u64 cH.Local, .int .u64 cH.Remote, .int .u64 cH.Reserve, .int .u64 cH.Most, .slice A2 n2 c2, .bool cH.Open] 25) = W2 at *
  generalize hg : w3.heap.size = g2 at *
  clear hg
  have K2 := hid (fun (W : World) (h : Below W2.heap.size W2 W) => (B2.call h).all)
  have P2 := hid (fun (W : World) (h : Below W2.heap.size W2 W) => chan_in hw2 S2 h)
  have R2 := hid (fun (W : World) (h : Below W2.heap.size W2 W) => Sl.fromC T2 h)
  have HB2 := Below.refl W2.heap.size W2
  clear B2 S2 T2
  obtain ⟨p00, p01, p02, p03, p04, p05, p06⟩ := K0.out _ HB0
  go_wp2_with fail
  refine (refHold9_any _ x0 a1 a2 _ (P0.out _ HB0) V1 V2).mono ?_
  rw [QeH.out, QcH.out]
  rintro e w4 ⟨v, rfl, hv, hb⟩
  replace HB0 := bel_call HB0 hb
  replace HB1 := bel_call HB1 hb
  replace HB2 := bel_call HB2 hb
  clear p00 p01 p02 p03 p04 p05 p06
  clear hb
  obtain ⟨A3, n3, c3, rfl, hs3⟩ := hv.read
  have hw3 : ChnWf cH := hw2
  clear hv
  have Z3 := hid hs3.len
  have hh3 := sl_hlds hs3
  have hba := bel_alloc (Below.refl w4.heap.size w4) (Obj.cells #[.int .u64 cH.Id, .int .u64 cH.Local, .int .u64 cH.Remote, .int .u64 cH.Reserve, .int .u64 cH.Most, .slice A3 n3 c3, .bool cH.Open] 25)
  have B3 := BoxC.new w4 cH A3 n3 c3
  have S3 := Sl.call hs3 hba
  replace HB0 := bel_call HB0 hba
  replace HB1 := bel_call HB1 hba
  replace HB2 := bel_call HB2 hba
  clear hba hs3
  go_upto_region 8 with (fail)
  generalize w4.alloc (Obj.cells #[.int .u64 cH.Id, .int .u64 cH.Local, .int .u64 cH.Remote, .int .u64 cH.Reserve, .int .u64 cH.Most, .slice A3 n3 c3, .bool cH.Open] 25) = W3 at *
  generalize hg : w4.heap.size = g3 at *
  clear hg
  have K3 := hid (fun (W : World) (h : Below W3.heap.size W3 W) => (B3.call h).all)
  have P3 := hid (fun (W : World) (h : Below W3.heap.size W3 W) => chan_in hw3 S3 h)
  have HB3 := Below.refl W3.heap.size W3
  clear B3 S3
  obtain ⟨p00, p01, p02, p03, p04, p05, p06⟩ := K0.out _ HB0
  go_wp2_with fail
  refine (HC.settle _ x0 a1 _ (P0.out _ HB0) V1).mono ?_
  rw [QnS.out, QeS.out, QcS.out]
  rintro e w5 ⟨v, rfl, hv, hb⟩
  replace HB0 := bel_call HB0 hb
  replace HB1 := bel_call HB1 hb
  replace HB2 := bel_call HB2 hb
  replace HB3 := bel_call HB3 hb
  clear p00 p01 p02 p03 p04 p05 p06
  clear hb
  obtain ⟨A4, n4, c4, rfl, hs4⟩ := hv.read
  have hw4 : ChnWf cS := (by rw [← QcS.out]; exact se_wf hw0 hh0)
  clear hv
  have Z4 := hid hs4.len
  have hh4 := sl_hlds hs4
  have hba := bel_alloc (Below.refl w5.heap.size w5) (Obj.cells #[.int .u64 cS.Id, .int .u64 cS.Local, .int .u64 cS.Remote, .int .u64 cS.Reserve, .int .u64 cS.Most, .slice A4 n4 c4, .bool cS.Open] 25)
  have B4 := BoxC.new w5 cS A4 n4 c4
  have S4 := Sl.call hs4 hba
  replace HB0 := bel_call HB0 hba
  replace HB1 := bel_call HB1 hba
  replace HB2 := bel_call HB2 hba
  replace HB3 := bel_call HB3 hba
  clear hba hs4
  go_upto_region 9 with (fail)
  generalize w5.alloc (Obj.cells #[.int .u64 cS.Id, .int .u64 cS.Local, .int .u64 cS.Remote, .int .u64 cS.Reserve, .int .u64 cS.Most, .slice A4 n4 c4, .bool cS.Open] 25) = W4 at *
  generalize hg : w5.heap.size = g4 at *
  clear hg
  have K4 := hid (fun (W : World) (h : Below W4.heap.size W4 W) => (B4.call h).all)
  have P4 := hid (fun (W : World) (h : Below W4.heap.size W4 W) => chan_in hw4 S4 h)
  have HB4 := Below.refl W4.heap.size W4
  clear B4 S4
  obtain ⟨p00, p01, p02, p03, p04, p05, p06⟩ := K0.out _ HB0
  go_wp2_with fail
  refine (refSettle9_any _ x0 a1 _ (P0.out _ HB0)).mono ?_
  rw [QnS.out, QeS.out, QcS.out]
  rintro e w6 ⟨v, rfl, hv, hb⟩
  replace HB0 := bel_call HB0 hb
  replace HB1 := bel_call HB1 hb
  replace HB2 := bel_call HB2 hb
  replace HB3 := bel_call HB3 hb
  replace HB4 := bel_call HB4 hb
  clear p00 p01 p02 p03 p04 p05 p06
  clear hb
  obtain ⟨A5, n5, c5, rfl, hs5⟩ := hv.read
  have hw5 : ChnWf cS := hw4
  clear hv
  have Z5 := hid hs5.len
  have hh5 := sl_hlds hs5
  have hba := bel_alloc (Below.refl w6.heap.size w6) (Obj.cells #[.int .u64 cS.Id, .int .u64 cS.Local, .int .u64 cS.Remote, .int .u64 cS.Reserve, .int .u64 cS.Most, .slice A5 n5 c5, .bool cS.Open] 25)
  have B5 := BoxC.new w6 cS A5 n5 c5
  have S5 := Sl.call hs5 hba
  replace HB0 := bel_call HB0 hba
  replace HB1 := bel_call HB1 hba
  replace HB2 := bel_call HB2 hba
  replace HB3 := bel_call HB3 hba
  replace HB4 := bel_call HB4 hba
  clear hba hs5
  go_upto_region 10 with (fail)
  generalize w6.alloc (Obj.cells #[.int .u64 cS.Id, .int .u64 cS.Local, .int .u64 cS.Remote, .int .u64 cS.Reserve, .int .u64 cS.Most, .slice A5 n5 c5, .bool cS.Open] 25) = W5 at *
  generalize hg : w6.heap.size = g5 at *
  clear hg
  have K5 := hid (fun (W : World) (h : Below W5.heap.size W5 W) => (B5.call h).all)
  have P5 := hid (fun (W : World) (h : Below W5.heap.size W5 W) => chan_in hw5 S5 h)
  have HB5 := Below.refl W5.heap.size W5
  clear B5 S5
  obtain ⟨p00, p01, p02, p03, p04, p05, p06⟩ := K0.out _ HB0
  go_wp2_with fail
  refine (HC.fail _ x0 a1 _ (P0.out _ HB0) V1).mono ?_
  rw [QnS.out, QeS.out, QcF.out]
  rintro e w7 ⟨v, rfl, hv, hb⟩
  replace HB0 := bel_call HB0 hb
  replace HB1 := bel_call HB1 hb
  replace HB2 := bel_call HB2 hb
  replace HB3 := bel_call HB3 hb
  replace HB4 := bel_call HB4 hb
  replace HB5 := bel_call HB5 hb
  clear p00 p01 p02 p03 p04 p05 p06
  clear hb
  obtain ⟨A6, n6, c6, rfl, hs6⟩ := hv.read
  have hw6 : ChnWf cF := (by rw [← QcF.out]; exact fa_wf hw0 hh0)
  clear hv
  have Z6 := hid hs6.len
  have hh6 := sl_hlds hs6
  have hba := bel_alloc (Below.refl w7.heap.size w7) (Obj.cells #[.int .u64 cF.Id, .int .u64 cF.Local, .int .u64 cF.Remote, .int .u64 cF.Reserve, .int .u64 cF.Most, .slice A6 n6 c6, .bool cF.Open] 25)
  have B6 := BoxC.new w7 cF A6 n6 c6
  have S6 := Sl.call hs6 hba
  replace HB0 := bel_call HB0 hba
  replace HB1 := bel_call HB1 hba
  replace HB2 := bel_call HB2 hba
  replace HB3 := bel_call HB3 hba
  replace HB4 := bel_call HB4 hba
  replace HB5 := bel_call HB5 hba
  clear hba hs6
  go_upto_region 11 with (fail)
  generalize w7.alloc (Obj.cells #[.int .u64 cF.Id, .int .u64 cF.Local, .int .u64 cF.Remote, .int .u64 cF.Reserve, .int .u64 cF.Most, .slice A6 n6 c6, .bool cF.Open] 25) = W6 at *
  generalize hg : w7.heap.size = g6 at *
  clear hg
  have K6 := hid (fun (W : World) (h : Below W6.heap.size W6 W) => (B6.call h).all)
  have P6 := hid (fun (W : World) (h : Below W6.heap.size W6 W) => chan_in hw6 S6 h)
  have HB6 := Below.refl W6.heap.size W6
  clear B6 S6
  obtain ⟨p00, p01, p02, p03, p04, p05, p06⟩ := K0.out _ HB0
  go_wp2_with fail
  refine (refFail9_any _ x0 a1 _ (P0.out _ HB0)).mono ?_
  rw [QnS.out, QeS.out, QcF.out]
  rintro e w8 ⟨v, rfl, hv, hb⟩
  replace HB0 := bel_call HB0 hb
  replace HB1 := bel_call HB1 hb
  replace HB2 := bel_call HB2 hb
  replace HB3 := bel_call HB3 hb
  replace HB4 := bel_call HB4 hb
  replace HB5 := bel_call HB5 hb
  replace HB6 := bel_call HB6 hb
  clear p00 p01 p02 p03 p04 p05 p06
  clear hb
  obtain ⟨A7, n7, c7, rfl, hs7⟩ := hv.read
  have hw7 : ChnWf cF := hw6
  clear hv
  have Z7 := hid hs7.len
  have hh7 := sl_hlds hs7
  have hba := bel_alloc (Below.refl w8.heap.size w8) (Obj.cells #[.int .u64 cF.Id, .int .u64 cF.Local, .int .u64 cF.Remote, .int .u64 cF.Reserve, .int .u64 cF.Most, .slice A7 n7 c7, .bool cF.Open] 25)
  have B7 := BoxC.new w8 cF A7 n7 c7
  have S7 := Sl.call hs7 hba
  replace HB0 := bel_call HB0 hba
  replace HB1 := bel_call HB1 hba
  replace HB2 := bel_call HB2 hba
  replace HB3 := bel_call HB3 hba
  replace HB4 := bel_call HB4 hba
  replace HB5 := bel_call HB5 hba
  replace HB6 := bel_call HB6 hba
  clear hba hs7
  go_upto_region 12 with (fail)
  generalize w8.alloc (Obj.cells #[.int .u64 cF.Id, .int .u64 cF.Local, .int .u64 cF.Remote, .int .u64 cF.Reserve, .int .u64 cF.Most, .slice A7 n7 c7, .bool cF.Open] 25) = W7 at *
  generalize hg : w8.heap.size = g7 at *
  clear hg
  have K7 := hid (fun (W : World) (h : Below W7.heap.size W7 W) => (B7.call h).all)
  have P7 := hid (fun (W : World) (h : Below W7.heap.size W7 W) => chan_in hw7 S7 h)
  have HB7 := Below.refl W7.heap.size W7
  clear B7 S7
  have hz18 := HB1.size
  obtain ⟨p00, p01, p02, p03, p04, p05, p06⟩ := K0.out _ HB0
  go_wp2_with fail
  refine (HC.push _ x0 a2 _ (P0.out _ HB0) V2).mono ?_
  rw [QeP.out, QcP.out]
  rintro e w9 ⟨v, rfl, hv, hb⟩
  replace HB0 := bel_call HB0 hb
  replace HB1 := bel_call HB1 hb
  replace HB2 := bel_call HB2 hb
  replace HB3 := bel_call HB3 hb
  replace HB4 := bel_call HB4 hb
  replace HB5 := bel_call HB5 hb
  replace HB6 := bel_call HB6 hb
  replace HB7 := bel_call HB7 hb
  clear p00 p01 p02 p03 p04 p05 p06
  clear hb
  obtain ⟨A8, n8, c8, rfl, hs8, hF8⟩ := hv.readF
  have hw8 : ChnWf cP := (by rw [← QcP.out]; exact pu_wf hw0 hh0 b2.1)
  clear hv
  have hba := bel_alloc (Below.refl w9.heap.size w9) (Obj.cells #[.int .u64 cP.Id, .int .u64 cP.Local, .int .u64 cP.Remote, .int .u64 cP.Reserve, .int .u64 cP.Most, .slice A8 n8 c8, .bool cP.Open] 25)
  have B8 := BoxC.new w9 cP A8 n8 c8
  have S8 := Sl.call hs8 hba
  have T8 := Sl.fromC hF8 hba
  have X8 := hs8.cap
  unfold maxLen at X8
  replace HB0 := bel_call HB0 hba
  replace HB1 := bel_call HB1 hba
  replace HB2 := bel_call HB2 hba
  replace HB3 := bel_call HB3 hba
  replace HB4 := bel_call HB4 hba
  replace HB5 := bel_call HB5 hba
  replace HB6 := bel_call HB6 hba
  replace HB7 := bel_call HB7 hba
  clear hba hs8 hF8
  go_upto_region 13 with (fail)
  generalize w9.alloc (Obj.cells #[.int .u64 cP.Id, .int .u64 cP.Local, .int .u64 cP.Remote, .int .u64 cP.Reserve, .int .u64 cP.Most, .slice A8 n8 c8, .bool cP.Open] 25) = W8 at *
  generalize hg : w9.heap.size = g8 at *
  clear hg
  have K8 := hid (fun (W : World) (h : Below W8.heap.size W8 W) => (B8.call h).all)
  have P8 := hid (fun (W : World) (h : Below W8.heap.size W8 W) => chan_in hw8 S8 h)
  have R8 := hid (fun (W : World) (h : Below W8.heap.size W8 W) => Sl.fromC T8 h)
  have HB8 := Below.refl W8.heap.size W8
  clear B8 S8 T8
  obtain ⟨p00, p01, p02, p03, p04, p05, p06⟩ := K0.out _ HB0
  go_wp2_with fail
  refine (refPush9_any _ x0 a2 _ (P0.out _ HB0) V2).mono ?_
  rw [QeP.out, QcP.out]
  rintro e w10 ⟨v, rfl, hv, hb⟩
  replace HB0 := bel_call HB0 hb
  replace HB1 := bel_call HB1 hb
  replace HB2 := bel_call HB2 hb
  replace HB3 := bel_call HB3 hb
  replace HB4 := bel_call HB4 hb
  replace HB5 := bel_call HB5 hb
  replace HB6 := bel_call HB6 hb
  replace HB7 := bel_call HB7 hb
  replace HB8 := bel_call HB8 hb
  clear p00 p01 p02 p03 p04 p05 p06
  clear hb
  obtain ⟨A9, n9, c9, rfl, hs9⟩ := hv.read
  have hw9 : ChnWf cP := hw8
  clear hv
  have Z9 := hid hs9.len
  have hh9 := sl_hlds hs9
  have hba := bel_alloc (Below.refl w10.heap.size w10) (Obj.cells #[.int .u64 cP.Id, .int .u64 cP.Local, .int .u64 cP.Remote, .int .u64 cP.Reserve, .int .u64 cP.Most, .slice A9 n9 c9, .bool cP.Open] 25)
  have B9 := BoxC.new w10 cP A9 n9 c9
  have S9 := Sl.call hs9 hba
  replace HB0 := bel_call HB0 hba
  replace HB1 := bel_call HB1 hba
  replace HB2 := bel_call HB2 hba
  replace HB3 := bel_call HB3 hba
  replace HB4 := bel_call HB4 hba
  replace HB5 := bel_call HB5 hba
  replace HB6 := bel_call HB6 hba
  replace HB7 := bel_call HB7 hba
  replace HB8 := bel_call HB8 hba
  clear hba hs9
  go_upto_region 14 with (fail)
  generalize w10.alloc (Obj.cells #[.int .u64 cP.Id, .int .u64 cP.Local, .int .u64 cP.Remote, .int .u64 cP.Reserve, .int .u64 cP.Most, .slice A9 n9 c9, .bool cP.Open] 25) = W9 at *
  generalize hg : w10.heap.size = g9 at *
  clear hg
  have K9 := hid (fun (W : World) (h : Below W9.heap.size W9 W) => (B9.call h).all)
  have P9 := hid (fun (W : World) (h : Below W9.heap.size W9 W) => chan_in hw9 S9 h)
  have HB9 := Below.refl W9.heap.size W9
  clear B9 S9
  obtain ⟨p00, p01, p02, p03, p04, p05, p06⟩ := K0.out _ HB0
  go_wp2_with fail
  refine (HC.close _ x0 _ (P0.out _ HB0)).mono ?_
  rw [QeC.out, QcC.out]
  rintro e w11 ⟨t, rfl, hv, hb⟩
  replace HB0 := bel_call HB0 hb
  replace HB1 := bel_call HB1 hb
  replace HB2 := bel_call HB2 hb
  replace HB3 := bel_call HB3 hb
  replace HB4 := bel_call HB4 hb
  replace HB5 := bel_call HB5 hb
  replace HB6 := bel_call HB6 hb
  replace HB7 := bel_call HB7 hb
  replace HB8 := bel_call HB8 hb
  replace HB9 := bel_call HB9 hb
  clear p00 p01 p02 p03 p04 p05 p06
  clear hb
  obtain ⟨A10, n10, c10, rfl, hw10, hs10⟩ := agg_Channel hv
  clear hv
  have Z10 := hid hs10.len
  have hh10 := sl_hlds hs10
  have hba := bel_alloc (Below.refl w11.heap.size w11) (Obj.cells #[.int .u64 cC.Id, .int .u64 cC.Local, .int .u64 cC.Remote, .int .u64 cC.Reserve, .int .u64 cC.Most, .slice A10 n10 c10, .bool cC.Open] 25)
  have B10 := BoxC.new w11 cC A10 n10 c10
  have S10 := Sl.call hs10 hba
  replace HB0 := bel_call HB0 hba
  replace HB1 := bel_call HB1 hba
  replace HB2 := bel_call HB2 hba
  replace HB3 := bel_call HB3 hba
  replace HB4 := bel_call HB4 hba
  replace HB5 := bel_call HB5 hba
  replace HB6 := bel_call HB6 hba
  replace HB7 := bel_call HB7 hba
  replace HB8 := bel_call HB8 hba
  replace HB9 := bel_call HB9 hba
  clear hba hs10
  go_upto_region 15 with (fail)
  generalize w11.alloc (Obj.cells #[.int .u64 cC.Id, .int .u64 cC.Local, .int .u64 cC.Remote, .int .u64 cC.Reserve, .int .u64 cC.Most, .slice A10 n10 c10, .bool cC.Open] 25) = W10 at *
  generalize hg : w11.heap.size = g10 at *
  clear hg
  have K10 := hid (fun (W : World) (h : Below W10.heap.size W10 W) => (B10.call h).all)
  have P10 := hid (fun (W : World) (h : Below W10.heap.size W10 W) => chan_in hw10 S10 h)
  have HB10 := Below.refl W10.heap.size W10
  clear B10 S10
  obtain ⟨p00, p01, p02, p03, p04, p05, p06⟩ := K0.out _ HB0
  go_wp2_with fail
  refine (refClose9_any _ x0 _ (P0.out _ HB0)).mono ?_
  rw [QeC.out, QcC.out]
  rintro e w12 ⟨v, rfl, hv, hb⟩
  replace HB0 := bel_call HB0 hb
  replace HB1 := bel_call HB1 hb
  replace HB2 := bel_call HB2 hb
  replace HB3 := bel_call HB3 hb
  replace HB4 := bel_call HB4 hb
  replace HB5 := bel_call HB5 hb
  replace HB6 := bel_call HB6 hb
  replace HB7 := bel_call HB7 hb
  replace HB8 := bel_call HB8 hb
  replace HB9 := bel_call HB9 hb
  replace HB10 := bel_call HB10 hb
  clear p00 p01 p02 p03 p04 p05 p06
  clear hb
  obtain ⟨A11, n11, c11, rfl, hs11⟩ := hv.read
  have hw11 : ChnWf cC := hw10
  clear hv
  have Z11 := hid hs11.len
  have hh11 := sl_hlds hs11
  have hba := bel_alloc (Below.refl w12.heap.size w12) (Obj.cells #[.int .u64 cC.Id, .int .u64 cC.Local, .int .u64 cC.Remote, .int .u64 cC.Reserve, .int .u64 cC.Most, .slice A11 n11 c11, .bool cC.Open] 25)
  have B11 := BoxC.new w12 cC A11 n11 c11
  have S11 := Sl.call hs11 hba
  replace HB0 := bel_call HB0 hba
  replace HB1 := bel_call HB1 hba
  replace HB2 := bel_call HB2 hba
  replace HB3 := bel_call HB3 hba
  replace HB4 := bel_call HB4 hba
  replace HB5 := bel_call HB5 hba
  replace HB6 := bel_call HB6 hba
  replace HB7 := bel_call HB7 hba
  replace HB8 := bel_call HB8 hba
  replace HB9 := bel_call HB9 hba
  replace HB10 := bel_call HB10 hba
  clear hba hs11
  go_upto_region 16 with (fail)
  generalize w12.alloc (Obj.cells #[.int .u64 cC.Id, .int .u64 cC.Local, .int .u64 cC.Remote, .int .u64 cC.Reserve, .int .u64 cC.Most, .slice A11 n11 c11, .bool cC.Open] 25) = W11 at *
  generalize hg : w12.heap.size = g11 at *
  clear hg
  have K11 := hid (fun (W : World) (h : Below W11.heap.size W11 W) => (B11.call h).all)
  have P11 := hid (fun (W : World) (h : Below W11.heap.size W11 W) => chan_in hw11 S11 h)
  have HB11 := Below.refl W11.heap.size W11
  clear B11 S11
  have t1 : (eH == eH) = true := by simp
  have t2 : (nS == nS) = true := by simp
  have t3 : (eS == eS) = true := by simp
  have t4 : (eP == eP) = true := by simp
  have t5 : (eC == eC) = true := by simp
  obtain ⟨p20, p21, p22, p23, p24, p25, p26⟩ := K2.out _ HB2
  obtain ⟨p30, p31, p32, p33, p34, p35, p36⟩ := K3.out _ HB3
  go_wp2_with fail
  refine (refSame9_any _ _ cH cH _ (P2.out _ HB2) (P3.out _ HB3)).mono ?_
  rw [show decide (cH = cH) = true from decide_eq_true rfl]
  rintro e w13 ⟨rfl, hb⟩
  replace HB0 := bel_call HB0 hb
  replace HB1 := bel_call HB1 hb
  replace HB2 := bel_call HB2 hb
  replace HB3 := bel_call HB3 hb
  replace HB4 := bel_call HB4 hb
  replace HB5 := bel_call HB5 hb
  replace HB6 := bel_call HB6 hb
  replace HB7 := bel_call HB7 hb
  replace HB8 := bel_call HB8 hb
  replace HB9 := bel_call HB9 hb
  replace HB10 := bel_call HB10 hb
  replace HB11 := bel_call HB11 hb
  clear p20 p21 p22 p23 p24 p25 p26 p30 p31 p32 p33 p34 p35 p36
  clear hb
  obtain ⟨p40, p41, p42, p43, p44, p45, p46⟩ := K4.out _ HB4
  obtain ⟨p50, p51, p52, p53, p54, p55, p56⟩ := K5.out _ HB5
  go_wp2_with fail
  refine (refSame9_any _ _ cS cS _ (P4.out _ HB4) (P5.out _ HB5)).mono ?_
  rw [show decide (cS = cS) = true from decide_eq_true rfl]
  rintro e w14 ⟨rfl, hb⟩
  replace HB0 := bel_call HB0 hb
  replace HB1 := bel_call HB1 hb
  replace HB2 := bel_call HB2 hb
  replace HB3 := bel_call HB3 hb
  replace HB4 := bel_call HB4 hb
  replace HB5 := bel_call HB5 hb
  replace HB6 := bel_call HB6 hb
  replace HB7 := bel_call HB7 hb
  replace HB8 := bel_call HB8 hb
  replace HB9 := bel_call HB9 hb
  replace HB10 := bel_call HB10 hb
  replace HB11 := bel_call HB11 hb
  clear p40 p41 p42 p43 p44 p45 p46 p50 p51 p52 p53 p54 p55 p56
  clear hb
  obtain ⟨p60, p61, p62, p63, p64, p65, p66⟩ := K6.out _ HB6
  obtain ⟨p70, p71, p72, p73, p74, p75, p76⟩ := K7.out _ HB7
  go_wp2_with fail
  refine (refSame9_any _ _ cF cF _ (P6.out _ HB6) (P7.out _ HB7)).mono ?_
  rw [show decide (cF = cF) = true from decide_eq_true rfl]
  rintro e w15 ⟨rfl, hb⟩
  replace HB0 := bel_call HB0 hb
  replace HB1 := bel_call HB1 hb
  replace HB2 := bel_call HB2 hb
  replace HB3 := bel_call HB3 hb
  replace HB4 := bel_call HB4 hb
  replace HB5 := bel_call HB5 hb
  replace HB6 := bel_call HB6 hb
  replace HB7 := bel_call HB7 hb
  replace HB8 := bel_call HB8 hb
  replace HB9 := bel_call HB9 hb
  replace HB10 := bel_call HB10 hb
  replace HB11 := bel_call HB11 hb
  clear p60 p61 p62 p63 p64 p65 p66 p70 p71 p72 p73 p74 p75 p76
  clear hb
  obtain ⟨p80, p81, p82, p83, p84, p85, p86⟩ := K8.out _ HB8
  obtain ⟨p90, p91, p92, p93, p94, p95, p96⟩ := K9.out _ HB9
  go_wp2_with fail
  refine (refSame9_any _ _ cP cP _ (P8.out _ HB8) (P9.out _ HB9)).mono ?_
  rw [show decide (cP = cP) = true from decide_eq_true rfl]
  rintro e w16 ⟨rfl, hb⟩
  replace HB0 := bel_call HB0 hb
  replace HB1 := bel_call HB1 hb
  replace HB2 := bel_call HB2 hb
  replace HB3 := bel_call HB3 hb
  replace HB4 := bel_call HB4 hb
  replace HB5 := bel_call HB5 hb
  replace HB6 := bel_call HB6 hb
  replace HB7 := bel_call HB7 hb
  replace HB8 := bel_call HB8 hb
  replace HB9 := bel_call HB9 hb
  replace HB10 := bel_call HB10 hb
  replace HB11 := bel_call HB11 hb
  clear p80 p81 p82 p83 p84 p85 p86 p90 p91 p92 p93 p94 p95 p96
  clear hb
  obtain ⟨p100, p101, p102, p103, p104, p105, p106⟩ := K10.out _ HB10
  obtain ⟨p110, p111, p112, p113, p114, p115, p116⟩ := K11.out _ HB11
  go_wp2_with fail
  refine (refSame9_any _ _ cC cC _ (P10.out _ HB10) (P11.out _ HB11)).mono ?_
  rw [show decide (cC = cC) = true from decide_eq_true rfl]
  rintro e w17 ⟨rfl, hb⟩
  replace HB0 := bel_call HB0 hb
  replace HB1 := bel_call HB1 hb
  replace HB2 := bel_call HB2 hb
  replace HB3 := bel_call HB3 hb
  replace HB4 := bel_call HB4 hb
  replace HB5 := bel_call HB5 hb
  replace HB6 := bel_call HB6 hb
  replace HB7 := bel_call HB7 hb
  replace HB8 := bel_call HB8 hb
  replace HB9 := bel_call HB9 hb
  replace HB10 := bel_call HB10 hb
  replace HB11 := bel_call HB11 hb
  clear p100 p101 p102 p103 p104 p105 p106 p110 p111 p112 p113 p114 p115 p116
  clear hb
  obtain ⟨-, -, -, -, -, u5, -⟩ := K2.out _ HB2
  obtain ⟨-, -, -, -, -, v5, -⟩ := K8.out _ HB8
  have SA := R2.out _ HB2
  have SU := R8.out _ HB8
  go_wp2
  go_loopw [168] (fun i wr => ∃ j : Nat, j ≤ n2 ∧ i = .int .i64 j ∧ Scb W1.heap.size w17 wr) (fun i _ => n2 - (intOf i).toNat)
  case atStart => exact ⟨0, Nat.zero_le _, rfl, Scb.refl _ _⟩
  case round =>
  obtain ⟨j, hj, rfl, hsc⟩ := hrel
  by_cases hlt : j < n2
  · obtain ⟨ba, oa, hAA, hlo, hat⟩ := holds_at SA (by omega)
    subst hAA
    obtain ⟨hf, x, hx⟩ := hat j hlt
    obtain ⟨y, hy⟩ := hsc.ints _ _ _ _ hx
    have hfz := (hsc.fz ⟨ba, oa + j * 2 + 1, none⟩).trans hf
    have z5 := hsc.sl u5
    clear hat
    go_wp2
    go_roundw
    case rel => exact ⟨j + 1, by omega, by go_num, hsc.put (Nat.le_trans (Nat.le_refl _) hlo) hx _⟩
    case measure => simp [intOf]; omega
  have v5s := hsc.sl v5
  go_wp2
  clear v5s
  obtain ⟨wq, hwq⟩ : ∃ z, z = wr := ⟨_, rfl⟩
  subst hwq
  go_loopw [184] (fun i wr => ∃ j : Nat, j ≤ n8 ∧ i = .int .i64 j ∧ Scb W1.heap.size w17 wr) (fun i _ => n8 - (intOf i).toNat)
  case atStart => exact ⟨0, Nat.zero_le _, rfl, hsc⟩
  case round =>
  obtain ⟨j, hj, rfl, hsd⟩ := hrel
  by_cases hlt : j < n8
  · obtain ⟨ba, oa, hAA, hlo, hat⟩ := holds_at SU (by omega)
    subst hAA
    obtain ⟨hf, x, hx⟩ := hat j hlt
    obtain ⟨y, hy⟩ := hsd.ints _ _ _ _ hx
    have hfz := (hsd.fz ⟨ba, oa + j * 2 + 1, none⟩).trans hf
    have z5 := hsd.sl v5
    clear hat
    go_wp2
    go_roundw
    case rel => exact ⟨j + 1, by omega, by go_num, hsd.put (Nat.le_trans hz18 hlo) hx _⟩
    case measure => simp [intOf]; omega
  have HE0 := HB0.trans (hsd.bel.mono hz01)
  have HE1 := HB1.trans hsd.bel
  obtain ⟨p00, p01, p02, p03, p04, p05, p06⟩ := K0.out _ HE0
  obtain ⟨p10, p11, p12, p13, p14, p15, p16⟩ := K1.out _ HE1
  go_wp2_with fail
  refine (refSame9_any _ _ x0 x0 _ (P0.out _ HE0) (P1.out _ HE1)).mono ?_
  rw [show decide (x0 = x0) = true from decide_eq_true rfl]
  rintro e w99 ⟨rfl, hb⟩
  have HEE := bel_call hb0 (bel_call HE0 hb)
  clear p00 p01 p02 p03 p04 p05 p06 p10 p11 p12 p13 p14 p15 p16
  go_wp2
  go_ret
  exact ⟨rfl, HEE⟩
end Go.Proofs.Ytakplfoahlihaaa
