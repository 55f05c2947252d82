/-
  The walk of LedgerOne.
-/
import Derived.Test.YtanlpcndbfmkiaaLedgerOursWalk
namespace Go.Proofs.Ytanlpcndbfmkiaa
open Go.RowKit Go.WalkArith

set_option maxRecDepth 100000 in
set_option maxHeartbeats 4000000 in
theorem ledgerOne_walkH (HG : LedgerSpec) (HT : ChanTwo) (A0 : Option Addr) (n0 c0 : Nat) (x0 : List Chn) (a1 a2 a3 a4 : Int) (w : World) (r0 : Sl lay_Channel w (· < w.heap.size) A0 n0 c0 x0) (b1 : 0 ≤ a1 ∧ a1 ≤ 18446744073709551615) (b2 : 0 ≤ a2 ∧ a2 ≤ 18446744073709551615) (b3 : 0 ≤ a3 ∧ a3 ≤ 18446744073709551615) (b4 : 0 ≤ a4 ∧ a4 ≤ 18446744073709551615) :
    Calls Try.prog 6 #[.slice A0 n0 c0, .int .u64 a1, .int .u64 a2, .int .u64 a3, .int .u64 a4] w fun e w' => e = .returned (.bool true) ∧ Below w.heap.size w w' := by
  have V1 := wf_u64 b1
  have V2 := wf_u64 b2
  have V3 := wf_u64 b3
  have V4 := wf_u64 b4
  have hw0 := sl_chns r0
  have K0 := hid (fun (W : World) (h : Below w.heap.size w W) => Sl.call r0 h)
  clear r0
  go_enter Try.func6, Try.ntmps6
  go_wp2_with fail
  refine (live10_any HG _).mono ?_
  rintro e w1 ⟨rfl, HB⟩
  go_wp2_with fail
  refine (refFew10_any _ _ _ x0 _ (K0.out _ HB)).mono ?_
  rintro e w2 ⟨rfl, hb⟩
  replace HB := bel_call HB hb
  clear hb
  cases hfew : fewL x0
  · go_wp2
    go_ret
    exact ⟨rfl, HB⟩
  clear hfew
  obtain ⟨e1, he1⟩ : ∃ z, gtE x0 a2 = z := ⟨_, rfl⟩
  have Qe1 := hid he1
  clear he1
  obtain ⟨d1, hd1⟩ : ∃ z, gtC x0 a2 = z := ⟨_, rfl⟩
  have Qd1 := hid hd1
  clear hd1
  obtain ⟨fe, hfe⟩ : ∃ z, lhoE x0 a1 a3 a4 = z := ⟨_, rfl⟩
  have Qfe := hid hfe
  clear hfe
  obtain ⟨m, hm⟩ : ∃ z, lhoL x0 a1 a3 a4 = z := ⟨_, rfl⟩
  have Qm := hid hm
  clear hm
  go_wp2_with fail
  refine (HG.get _ _ _ x0 a2 _ (K0.out _ HB) V2).mono ?_
  rw [Qe1.out, Qd1.out]
  rintro e w3 ⟨v, rfl, hv, hb⟩
  replace HB := bel_call HB hb
  clear hb
  have hwd1 : ChnWf d1 := by
    rw [← Qd1.out]
    by_cases q : gtE x0 a2 = 0
    · exact (hw0 _ (gt_is q).2.2.1).1
    · have : gtC x0 a2 = zeroCh := by
        unfold gtC
        by_cases g : LgOk x0
        · rw [if_pos g]
          cases hf : chanF x0 a2 with
          | none => rfl
          | some z => exact absurd (by unfold gtE; rw [if_pos g, hf]) q
        · rw [if_neg g]
      rw [this]; exact zero_wf
  obtain ⟨A1, n1, c1, rfl, hs1⟩ := hv.read
  have hw1 : ChnWf d1 := hwd1
  clear hv
  have Z1 := hid hs1.len
  have hh1 := sl_hlds hs1
  have hba := bel_alloc (Below.refl w3.heap.size w3) (Obj.cells #[.int .u64 d1.Id, .int .u64 d1.Local, .int .u64 d1.Remote, .int .u64 d1.Reserve, .int .u64 d1.Most, .slice A1 n1 c1, .bool d1.Open] 26)
  have B1 := BoxC.new w3 d1 A1 n1 c1
  have S1 := Sl.call hs1 hba
  replace HB := bel_call HB hba
  clear hba hs1
  go_upto_region 6 with (fail)
  generalize w3.alloc (Obj.cells #[.int .u64 d1.Id, .int .u64 d1.Local, .int .u64 d1.Remote, .int .u64 d1.Reserve, .int .u64 d1.Most, .slice A1 n1 c1, .bool d1.Open] 26) = W1 at *
  generalize hg : w3.heap.size = g1 at *
  clear hg
  have K1 := hid (fun (W : World) (h : Below W1.heap.size W1 W) => (B1.call h).all)
  have P1 := hid (fun (W : World) (h : Below W1.heap.size W1 W) => chan_in hw1 S1 h)
  have HB1 := Below.refl W1.heap.size W1
  clear B1 S1
  go_wp2_with fail
  refine (HG.hold _ _ _ x0 a1 a3 a4 _ (K0.out _ HB) V1 V3 V4).mono ?_
  rw [Qfe.out, Qm.out]
  rintro e w4 ⟨v, rfl, hv, hb⟩
  replace HB := bel_call HB hb
  replace HB1 := bel_call HB1 hb
  clear hb
  obtain ⟨A2, n2, c2, rfl, hs2⟩ := hv.read
  have HR2 := Below.refl w4.heap.size w4
  clear hv
  by_cases hz : fe = 0
  rotate_left
  · have hne : (fe != 0) = true := by simpa using hz
    have hd : n2 = 0 := by rw [← hs2.len, ← Qm.out, lho_nil (.inr (by rw [Qfe.out]; exact hz))]; rfl
    subst hd
    clear hz hs2
    go_wp2
    go_ret
    exact ⟨rfl, HB⟩
  subst hz
  obtain ⟨o1, o2, o3, o4, o5, o6, o7⟩ := one_law hw0 b4.1 V3 Qfe.out
  rw [Qm.out] at o1 o2 o3 o4 o5 o6 o7
  obtain ⟨q1, q2⟩ := o1 a2
  rw [Qe1.out] at q1
  rw [Qd1.out] at q2
  have hwm := sl_chns hs2
  obtain ⟨d2, hd2⟩ : ∃ z, gtC m a2 = z := ⟨_, rfl⟩
  have Qd2 := hid hd2
  clear hd2
  obtain ⟨d3, hd3⟩ : ∃ z, gtC m a1 = z := ⟨_, rfl⟩
  have Qd3 := hid hd3
  clear hd3
  rw [Qd2.out] at q2
  rw [Qd3.out] at o3
  have R1 := hid q1
  have R2 := hid q2
  have R3 := hid (And.intro o2 (And.intro o4 (And.intro o5 o6)))
  have R7 := hid (o7 a2)
  have te1 : (e1 != e1) = false := by simp
  have tid : (d3.Id == a1) = true := by rw [o3]; simp
  have tn : (a4 == a4) = true := by simp
  clear o1 o2 o3 o4 o5 o6 o7 q1 q2
  have hgw : ∀ i, ChnWf (gtC m i) := fun i => by
    by_cases q : gtE m i = 0
    · exact (hwm _ (gt_is q).2.2.1).1
    · have : gtC m i = zeroCh := by
        unfold gtC
        by_cases g : LgOk m
        · rw [if_pos g]
          cases hf : chanF m i with
          | none => rfl
          | some z => exact absurd (by unfold gtE; rw [if_pos g, hf]) q
        · rw [if_neg g]
      rw [this]; exact zero_wf
  go_wp2_with fail
  refine (HG.get _ _ _ m a2 _ (Sl.call hs2 HR2) V2).mono ?_
  rw [R1.out, Qd2.out]
  rintro e w5 ⟨v, rfl, hv, hb⟩
  replace HB := bel_call HB hb
  replace HB1 := bel_call HB1 hb
  replace HR2 := bel_call HR2 hb
  clear hb
  obtain ⟨A3, n3, c3, rfl, hs3⟩ := hv.read
  have hw3 : ChnWf d2 := (by rw [← Qd2.out]; exact hgw a2)
  clear hv
  have Z3 := hid hs3.len
  have hh3 := sl_hlds hs3
  have hba := bel_alloc (Below.refl w5.heap.size w5) (Obj.cells #[.int .u64 d2.Id, .int .u64 d2.Local, .int .u64 d2.Remote, .int .u64 d2.Reserve, .int .u64 d2.Most, .slice A3 n3 c3, .bool d2.Open] 26)
  have B3 := BoxC.new w5 d2 A3 n3 c3
  have S3 := Sl.call hs3 hba
  replace HB := bel_call HB hba
  replace HB1 := bel_call HB1 hba
  replace HR2 := bel_call HR2 hba
  clear hba hs3
  go_upto_region 10 with (fail)
  generalize w5.alloc (Obj.cells #[.int .u64 d2.Id, .int .u64 d2.Local, .int .u64 d2.Remote, .int .u64 d2.Reserve, .int .u64 d2.Most, .slice A3 n3 c3, .bool d2.Open] 26) = W3 at *
  generalize hg : w5.heap.size = g3 at *
  clear hg
  have K3 := hid (fun (W : World) (h : Below W3.heap.size W3 W) => (B3.call h).all)
  have P3 := hid (fun (W : World) (h : Below W3.heap.size W3 W) => chan_in hw3 S3 h)
  have HB3 := Below.refl W3.heap.size W3
  clear B3 S3
  go_cut [67] from 54 to 67 (fun q wc => q = .bool false ∧ Below W3.heap.size W3 wc)
  case first =>
    by_cases hne : a2 = a1
    · have d : (a2 != a1) = false := by simpa using hne
      clear hne
      go_wp2_with fail
      go_meet
      case rel => exact ⟨rfl, Below.refl _ _⟩
    · have d : (a2 != a1) = true := by simpa using hne
      have HS := hid (R2.out hne).symm
      clear hne
      obtain ⟨p10, p11, p12, p13, p14, p15, p16⟩ := K1.out _ HB1
      obtain ⟨p30, p31, p32, p33, p34, p35, p36⟩ := K3.out _ HB3
      go_wp2_with fail
      refine (HT.same _ _ d1 d2 _ (P1.out _ HB1) (P3.out _ HB3)).mono ?_
      rw [show decide (d1 = d2) = true from decide_eq_true HS.out]
      rintro e w9 ⟨rfl, hb⟩
      clear p10 p11 p12 p13 p14 p15 p16 p30 p31 p32 p33 p34 p35 p36
      go_wp2_with fail
      go_meet
      case rel => exact ⟨rfl, hb⟩
  case rest =>
  obtain ⟨rfl, hb⟩ := hcut
  replace HB := bel_call HB hb
  replace HB1 := bel_call HB1 hb
  replace HB3 := bel_call HB3 hb
  replace HR2 := bel_call HR2 hb
  clear hb
  go_upto_region 12 with (fail)
  go_wp2_with fail
  refine (HG.get _ _ _ m a1 _ (Sl.call hs2 HR2) V1).mono ?_
  rw [R3.out.1, Qd3.out]
  rintro e w6 ⟨v, rfl, hv, hb⟩
  replace HB := bel_call HB hb
  replace HB1 := bel_call HB1 hb
  replace HB3 := bel_call HB3 hb
  replace HR2 := bel_call HR2 hb
  clear hb
  obtain ⟨A4, n4, c4, rfl, hs4⟩ := hv.read
  have hw4 : ChnWf d3 := (by rw [← Qd3.out]; exact hgw a1)
  clear hv
  have Z4 := hid hs4.len
  have hh4 := sl_hlds hs4
  have hba := bel_alloc (Below.refl w6.heap.size w6) (Obj.cells #[.int .u64 d3.Id, .int .u64 d3.Local, .int .u64 d3.Remote, .int .u64 d3.Reserve, .int .u64 d3.Most, .slice A4 n4 c4, .bool d3.Open] 26)
  have B4 := BoxC.new w6 d3 A4 n4 c4
  have S4 := Sl.call hs4 hba
  replace HB := bel_call HB hba
  replace HB1 := bel_call HB1 hba
  replace HB3 := bel_call HB3 hba
  replace HR2 := bel_call HR2 hba
  clear hba hs4
  go_upto_region 13 with (fail)
  generalize w6.alloc (Obj.cells #[.int .u64 d3.Id, .int .u64 d3.Local, .int .u64 d3.Remote, .int .u64 d3.Reserve, .int .u64 d3.Most, .slice A4 n4 c4, .bool d3.Open] 26) = W4 at *
  generalize hg : w6.heap.size = g4 at *
  clear hg
  have K4 := hid (fun (W : World) (h : Below W4.heap.size W4 W) => (B4.call h).all)
  have P4 := hid (fun (W : World) (h : Below W4.heap.size W4 W) => chan_in hw4 S4 h)
  have HB4 := Below.refl W4.heap.size W4
  clear B4 S4
  go_wp2_with fail
  refine (HG.end_ _ _ _ m a3 false _ (Sl.call hs2 HR2) V3).mono ?_
  rw [R3.out.2.1, R3.out.2.2.1, R3.out.2.2.2]
  rintro e w7 ⟨v, rfl, hv, hb⟩
  replace HB := bel_call HB hb
  replace HB1 := bel_call HB1 hb
  replace HB3 := bel_call HB3 hb
  replace HB4 := bel_call HB4 hb
  replace HR2 := bel_call HR2 hb
  clear hb
  obtain ⟨A5, n5, c5, rfl, hs5⟩ := hv.read
  have HR5 := Below.refl w7.heap.size w7
  clear hv
  obtain ⟨jj, hjj⟩ : ∃ z, lhoE m a2 a3 a4 = z := ⟨_, rfl⟩
  have Qjj := hid hjj
  clear hjj
  obtain ⟨ml, hml⟩ : ∃ z, lhoL m a2 a3 a4 = z := ⟨_, rfl⟩
  have Qml := hid hml
  clear hml
  go_wp2_with fail
  refine (HG.hold _ _ _ m a2 a3 a4 _ (Sl.call hs2 HR2) V2 V3 V4).mono ?_
  rw [Qjj.out, Qml.out]
  rintro e w8 ⟨v, rfl, hv, hb⟩
  replace HB := bel_call HB hb
  replace HB1 := bel_call HB1 hb
  replace HB3 := bel_call HB3 hb
  replace HB4 := bel_call HB4 hb
  replace HR2 := bel_call HR2 hb
  replace HR5 := bel_call HR5 hb
  clear hb
  obtain ⟨A6, n6, c6, rfl, hs6⟩ := hv.read
  have HR6 := Below.refl w8.heap.size w8
  clear hv
  have R8 := R7.out
  rw [Qjj.out, Qe1.out] at R8
  clear R7
  obtain ⟨p40, p41, p42, p43, p44, p45, p46⟩ := K4.out _ HB4
  go_wp2_with fail
  refine (HG.same _ _ _ _ _ _ x0 x0 _ (Sl.call hs5 HR5) (K0.out _ HB)).mono ?_
  rw [show decide (x0 = x0) = true from decide_eq_true rfl]
  rintro e w9 ⟨rfl, hb⟩
  replace HB := bel_call HB hb
  replace HB1 := bel_call HB1 hb
  replace HB3 := bel_call HB3 hb
  replace HB4 := bel_call HB4 hb
  replace HR2 := bel_call HR2 hb
  replace HR5 := bel_call HR5 hb
  replace HR6 := bel_call HR6 hb
  clear p40 p41 p42 p43 p44 p45 p46
  clear hb
  rcases R8 with r | ⟨r1, r2⟩
  · subst r
    go_wp2
    go_ret
    exact ⟨rfl, HB⟩
  · subst r1 r2
    go_wp2
    go_ret
    exact ⟨rfl, HB⟩
end Go.Proofs.Ytanlpcndbfmkiaa
