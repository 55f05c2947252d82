/-
  The walk of LedgerOpens.
-/
import Derived.Test.YtanlpcndbfmkiaaLedgerOursWalk
namespace Go.Proofs.Ytanlpcndbfmkiaa
open Go.RowKit Go.WalkArith

set_option maxRecDepth 100000 in
set_option maxHeartbeats 4000000 in
theorem ledgerOpens_walkH (HG : LedgerSpec) (HT : ChanTwo) (A0 : Option Addr) (n0 c0 : Nat) (x0 : List Chn) (s1 : Array Value) (x1 : Chn) (s2 : Array Value) (x2 : Chn) (w : World) (r0 : Sl lay_Channel w (· < w.heap.size) A0 n0 c0 x0) (r1 : lay_Channel.rep w (· < w.heap.size) x1 s1.toList) (r2 : lay_Channel.rep w (· < w.heap.size) x2 s2.toList) :
    Calls Try.prog 8 #[.slice A0 n0 c0, .agg s1, .agg s2] w fun e w' => e = .returned (.bool true) ∧ Below w.heap.size w w' := by
  obtain ⟨A1, n1, c1, rfl, hw1, hs1⟩ := agg_Channel r1
  obtain ⟨A2, n2, c2, rfl, hw2, hs2⟩ := agg_Channel r2
  clear r1 r2
  have hb0 : Below w.heap.size w ((w.alloc (Obj.cells #[.int .u64 x1.Id, .int .u64 x1.Local, .int .u64 x1.Remote, .int .u64 x1.Reserve, .int .u64 x1.Most, .slice A1 n1 c1, .bool x1.Open] 26)).alloc (Obj.cells #[.int .u64 x2.Id, .int .u64 x2.Local, .int .u64 x2.Remote, .int .u64 x2.Reserve, .int .u64 x2.Most, .slice A2 n2 c2, .bool x2.Open] 26)) := bel_alloc (bel_alloc (Below.refl _ _) _) _
  have BX : BoxC ((w.alloc (Obj.cells #[.int .u64 x1.Id, .int .u64 x1.Local, .int .u64 x1.Remote, .int .u64 x1.Reserve, .int .u64 x1.Most, .slice A1 n1 c1, .bool x1.Open] 26)).alloc (Obj.cells #[.int .u64 x2.Id, .int .u64 x2.Local, .int .u64 x2.Remote, .int .u64 x2.Reserve, .int .u64 x2.Most, .slice A2 n2 c2, .bool x2.Open] 26)) w.heap.size x1 A1 n1 c1 := heap_alloc2_old _ _ _
  have BY : BoxC ((w.alloc (Obj.cells #[.int .u64 x1.Id, .int .u64 x1.Local, .int .u64 x1.Remote, .int .u64 x1.Reserve, .int .u64 x1.Most, .slice A1 n1 c1, .bool x1.Open] 26)).alloc (Obj.cells #[.int .u64 x2.Id, .int .u64 x2.Local, .int .u64 x2.Remote, .int .u64 x2.Reserve, .int .u64 x2.Most, .slice A2 n2 c2, .bool x2.Open] 26)) (w.heap.size + 1) x2 A2 n2 c2 := alloc2_new _ _ _
  have hk1 := hs1.cap
  have hk2 := hs2.cap
  unfold maxLen at hk1 hk2
  have S1 := Sl.call hs1 hb0
  have S2 := Sl.call hs2 hb0
  have S0 := Sl.call r0 hb0
  clear hs1 hs2 r0
  go_enter Try.func8, Try.ntmps8
  go_wp2_with fail
  generalize ((w.alloc (Obj.cells #[.int .u64 x1.Id, .int .u64 x1.Local, .int .u64 x1.Remote, .int .u64 x1.Reserve, .int .u64 x1.Most, .slice A1 n1 c1, .bool x1.Open] 26)).alloc (Obj.cells #[.int .u64 x2.Id, .int .u64 x2.Local, .int .u64 x2.Remote, .int .u64 x2.Reserve, .int .u64 x2.Most, .slice A2 n2 c2, .bool x2.Open] 26)) = W0 at *
  have K1 := hid (fun (W : World) (h : Below W0.heap.size W0 W) => (BX.call h).all)
  have K2 := hid (fun (W : World) (h : Below W0.heap.size W0 W) => (BY.call h).all)
  have P1 := hid (fun (W : World) (h : Below W0.heap.size W0 W) => chan_in hw1 S1 h)
  have P2 := hid (fun (W : World) (h : Below W0.heap.size W0 W) => chan_in hw2 S2 h)
  have K0 := hid (fun (W : World) (h : Below W0.heap.size W0 W) => Sl.call S0 h)
  refine (live10_any HG _).mono ?_
  rintro e w1 ⟨rfl, HB⟩
  clear BX BY S0 S1 S2
  go_wp2_with fail
  refine (refFew10_any _ _ _ x0 _ (K0.out _ HB)).mono ?_
  rintro e w2 ⟨rfl, hb⟩
  replace HB := bel_call HB hb
  clear hb
  obtain ⟨p10, p11, p12, p13, p14, p15, p16⟩ := K1.out _ HB
  obtain ⟨p20, p21, p22, p23, p24, p25, p26⟩ := K2.out _ HB
  cases hfew : fewL x0
  · go_wp2
    go_ret
    exact ⟨rfl, bel_call hb0 HB⟩
  clear hfew
  by_cases g1 : 20 < n1
  · have d1 : decide ((20 : Int) < (n1 : Int)) = true := by simp; omega
    go_wp2
    go_ret
    exact ⟨rfl, bel_call hb0 HB⟩
  have d1 : decide ((20 : Int) < (n1 : Int)) = false := by simp; omega
  by_cases g2 : 20 < n2
  · have d2 : decide ((20 : Int) < (n2 : Int)) = true := by simp; omega
    go_wp2
    go_ret
    exact ⟨rfl, bel_call hb0 HB⟩
  have d2 : decide ((20 : Int) < (n2 : Int)) = false := by simp; omega
  by_cases g3 : x1.Id = x2.Id
  · have d3 : (x1.Id == x2.Id) = true := by simpa using g3
    clear g3
    go_wp2
    go_ret
    exact ⟨rfl, bel_call hb0 HB⟩
  have d3 : (x1.Id == x2.Id) = false := by simpa using g3
  have HNE := hid g3
  clear g3
  go_upto_region 5 with (fail)
  obtain ⟨e1, he1⟩ : ∃ z, opE x0 x1 = z := ⟨_, rfl⟩
  have Qe1 := hid he1
  clear he1
  obtain ⟨l1, hl1⟩ : ∃ z, opL x0 x1 = z := ⟨_, rfl⟩
  have Ql1 := hid hl1
  clear hl1
  obtain ⟨e2, he2⟩ : ∃ z, opE x0 x2 = z := ⟨_, rfl⟩
  have Qe2 := hid he2
  clear he2
  obtain ⟨l2, hl2⟩ : ∃ z, opL x0 x2 = z := ⟨_, rfl⟩
  have Ql2 := hid hl2
  clear hl2
  go_wp2_with fail
  refine (HG.open_ _ _ _ x0 _ x1 _ (K0.out _ HB) (P1.out _ HB)).mono ?_
  rw [Qe1.out, Ql1.out]
  rintro e w3 ⟨v, rfl, hv, hb⟩
  replace HB := bel_call HB hb
  clear hb
  clear p10 p11 p12 p13 p14 p15 p16 p20 p21 p22 p23 p24 p25 p26
  obtain ⟨A3, n3, c3, rfl, hs3⟩ := hv.read
  have HR3 := Below.refl w3.heap.size w3
  clear hv
  obtain ⟨p20, p21, p22, p23, p24, p25, p26⟩ := K2.out _ HB
  go_wp2_with fail
  refine (HG.open_ _ _ _ x0 _ x2 _ (K0.out _ HB) (P2.out _ HB)).mono ?_
  rw [Qe2.out, Ql2.out]
  rintro e w4 ⟨v, rfl, hv, hb⟩
  replace HB := bel_call HB hb
  replace HR3 := bel_call HR3 hb
  clear hb
  clear p20 p21 p22 p23 p24 p25 p26
  obtain ⟨A4, n4, c4, rfl, hs4⟩ := hv.read
  have HR4 := Below.refl w4.heap.size w4
  clear hv
  by_cases z1 : e1 = 0
  rotate_left
  · have d4 : (e1 != 0) = true := by simpa using z1
    clear z1
    go_wp2
    go_ret
    exact ⟨rfl, bel_call hb0 HB⟩
  subst z1
  by_cases z2 : e2 = 0
  rotate_left
  · have d4 : (e2 != 0) = true := by simpa using z2
    clear z2
    go_wp2
    go_ret
    exact ⟨rfl, bel_call hb0 HB⟩
  subst z2
  obtain ⟨o1, o2, o3, o4, o5⟩ := opens_law HNE.out Qe1.out Qe2.out
  rw [Ql1.out] at o1 o2 o3 o4 o5
  rw [Ql2.out] at o1 o2
  obtain ⟨e3, he3⟩ : ∃ z, opE l1 x2 = z := ⟨_, rfl⟩
  have Qe3 := hid he3
  clear he3
  obtain ⟨l3, hl3⟩ : ∃ z, opL l1 x2 = z := ⟨_, rfl⟩
  have Ql3 := hid hl3
  clear hl3
  rw [Qe3.out] at o1 o3
  rw [Ql3.out] at o2
  have R1 := hid o1.symm
  have R2 := hid o2.symm
  have R4 := hid (And.intro o4 o5)
  clear o1 o2 o4 o5
  obtain ⟨p20, p21, p22, p23, p24, p25, p26⟩ := K2.out _ HB
  go_wp2_with fail
  refine (HG.open_ _ _ _ l1 _ x2 _ (Sl.call hs3 HR3) (P2.out _ HB)).mono ?_
  rw [Qe3.out, Ql3.out]
  rintro e w5 ⟨v, rfl, hv, hb⟩
  replace HB := bel_call HB hb
  replace HR3 := bel_call HR3 hb
  replace HR4 := bel_call HR4 hb
  clear hb
  clear p20 p21 p22 p23 p24 p25 p26
  obtain ⟨A5, n5, c5, rfl, hs5⟩ := hv.read
  have HR5 := Below.refl w5.heap.size w5
  clear hv
  obtain ⟨p10, p11, p12, p13, p14, p15, p16⟩ := K1.out _ HB
  go_wp2_with fail
  refine (HG.open_ _ _ _ l2 _ x1 _ (Sl.call hs4 HR4) (P1.out _ HB)).mono ?_
  rw [R1.out, R2.out]
  rintro e w6 ⟨v, rfl, hv, hb⟩
  replace HB := bel_call HB hb
  replace HR3 := bel_call HR3 hb
  replace HR4 := bel_call HR4 hb
  replace HR5 := bel_call HR5 hb
  clear hb
  clear p10 p11 p12 p13 p14 p15 p16
  obtain ⟨A6, n6, c6, rfl, hs6⟩ := hv.read
  have HR6 := Below.refl w6.heap.size w6
  clear hv
  obtain ⟨p10, p11, p12, p13, p14, p15, p16⟩ := K1.out _ HB
  go_wp2_with fail
  refine (HG.get _ _ _ l1 x1.Id _ (Sl.call hs3 HR3) hw1.id).mono ?_
  rw [R4.out.1, R4.out.2]
  rintro e w7 ⟨v, rfl, hv, hb⟩
  replace HB := bel_call HB hb
  replace HR3 := bel_call HR3 hb
  replace HR4 := bel_call HR4 hb
  replace HR5 := bel_call HR5 hb
  replace HR6 := bel_call HR6 hb
  clear hb
  clear p10 p11 p12 p13 p14 p15 p16
  obtain ⟨A7, n7, c7, rfl, hs7⟩ := hv.read
  have hw7 : ChnWf x1 := hw1
  clear hv
  have Z7 := hid hs7.len
  have hh7 := sl_hlds hs7
  have hba := bel_alloc (Below.refl w7.heap.size w7) (Obj.cells #[.int .u64 x1.Id, .int .u64 x1.Local, .int .u64 x1.Remote, .int .u64 x1.Reserve, .int .u64 x1.Most, .slice A7 n7 c7, .bool x1.Open] 26)
  have B7 := BoxC.new w7 x1 A7 n7 c7
  have S7 := Sl.call hs7 hba
  replace HB := bel_call HB hba
  replace HR3 := bel_call HR3 hba
  replace HR4 := bel_call HR4 hba
  replace HR5 := bel_call HR5 hba
  replace HR6 := bel_call HR6 hba
  clear hba hs7
  go_upto_region 12 with (fail)
  generalize w7.alloc (Obj.cells #[.int .u64 x1.Id, .int .u64 x1.Local, .int .u64 x1.Remote, .int .u64 x1.Reserve, .int .u64 x1.Most, .slice A7 n7 c7, .bool x1.Open] 26) = W7 at *
  generalize hg : w7.heap.size = g7 at *
  clear hg
  have K7 := hid (fun (W : World) (h : Below W7.heap.size W7 W) => (B7.call h).all)
  have P7 := hid (fun (W : World) (h : Below W7.heap.size W7 W) => chan_in hw7 S7 h)
  have HB7 := Below.refl W7.heap.size W7
  clear B7 S7
  have t1 : (e3 == e3) = true := by simp
  go_wp2_with fail
  refine (HG.same _ _ _ _ _ _ l3 l3 _ (Sl.call hs5 HR5) (Sl.call hs6 HR6)).mono ?_
  rw [show decide (l3 = l3) = true from decide_eq_true rfl]
  rintro e w8 ⟨rfl, hb⟩
  replace HB := bel_call HB hb
  replace HB7 := bel_call HB7 hb
  replace HR3 := bel_call HR3 hb
  replace HR4 := bel_call HR4 hb
  replace HR5 := bel_call HR5 hb
  replace HR6 := bel_call HR6 hb
  clear hb
  rcases o3 with rfl | rfl | rfl
  · skip
    obtain ⟨p10, p11, p12, p13, p14, p15, p16⟩ := K1.out _ HB
    obtain ⟨p70, p71, p72, p73, p74, p75, p76⟩ := K7.out _ HB7
    go_wp2_with fail
    refine (HT.same _ _ x1 x1 _ (P7.out _ HB7) (P1.out _ HB)).mono ?_
    rw [show decide (x1 = x1) = true from decide_eq_true rfl]
    rintro e w99 ⟨rfl, hb⟩
    replace HB := bel_call HB hb
    clear p70 p71 p72 p73 p74 p75 p76
    clear p10 p11 p12 p13 p14 p15 p16
    go_wp2
    go_ret
    exact ⟨rfl, bel_call hb0 HB⟩
  · skip
    obtain ⟨p10, p11, p12, p13, p14, p15, p16⟩ := K1.out _ HB
    obtain ⟨p70, p71, p72, p73, p74, p75, p76⟩ := K7.out _ HB7
    go_wp2_with fail
    refine (HT.same _ _ x1 x1 _ (P7.out _ HB7) (P1.out _ HB)).mono ?_
    rw [show decide (x1 = x1) = true from decide_eq_true rfl]
    rintro e w99 ⟨rfl, hb⟩
    replace HB := bel_call HB hb
    clear p70 p71 p72 p73 p74 p75 p76
    clear p10 p11 p12 p13 p14 p15 p16
    go_wp2
    go_ret
    exact ⟨rfl, bel_call hb0 HB⟩
  · skip
    obtain ⟨p10, p11, p12, p13, p14, p15, p16⟩ := K1.out _ HB
    obtain ⟨p70, p71, p72, p73, p74, p75, p76⟩ := K7.out _ HB7
    go_wp2_with fail
    refine (HT.same _ _ x1 x1 _ (P7.out _ HB7) (P1.out _ HB)).mono ?_
    rw [show decide (x1 = x1) = true from decide_eq_true rfl]
    rintro e w99 ⟨rfl, hb⟩
    replace HB := bel_call HB hb
    clear p70 p71 p72 p73 p74 p75 p76
    clear p10 p11 p12 p13 p14 p15 p16
    go_wp2
    go_ret
    exact ⟨rfl, bel_call hb0 HB⟩
end Go.Proofs.Ytanlpcndbfmkiaa
