/-
  The walk of LedgerTells.
-/
import Derived.Test.YtanlpcndbfmkiaaPackLR
namespace Go.Proofs.Ytanlpcndbfmkiaa
open Go.RowKit Go.WalkArith

set_option maxRecDepth 100000 in
set_option maxHeartbeats 4000000 in
theorem ledgerTells_walkH (HG : LedgerSpec) (A0 : Option Addr) (n0 c0 : Nat) (x0 : List Chn) (A1 : Option Addr) (n1 c1 : Nat) (x1 : List Chn) (a2 a3 : Int) (w : World) (r0 : Sl lay_Channel w (· < w.heap.size) A0 n0 c0 x0) (r1 : Sl lay_Channel w (· < w.heap.size) A1 n1 c1 x1) (b2 : 0 ≤ a2 ∧ a2 ≤ 18446744073709551615) (b3 : 0 ≤ a3 ∧ a3 ≤ 18446744073709551615) :
    Calls Try.prog 4 #[.slice A0 n0 c0, .slice A1 n1 c1, .int .u64 a2, .int .u64 a3] w fun e w' => e = .returned (.bool true) ∧ Below w.heap.size w w' := by
  have V2 := wf_u64 b2
  have V3 := wf_u64 b3
  have hw0 := sl_chns r0
  have KA := hid (fun (W : World) (h : Below w.heap.size w W) => Sl.call r0 h)
  have KO := hid (fun (W : World) (h : Below w.heap.size w W) => Sl.call r1 h)
  clear r0 r1
  have HB := Below.refl w.heap.size w
  go_enter Try.func4, Try.ntmps4
  go_wp2_with fail
  with_reducible refine (live10_any HG _).mono ?_
  rintro e w1 ⟨rfl, hb⟩
  replace HB := bel_call HB hb
  clear hb
  go_wp2_with fail
  with_reducible refine (refFew10_any _ _ _ x0 _ (KA.out _ HB)).mono ?_
  rintro e w2 ⟨rfl, hb⟩
  replace HB := bel_call HB hb
  clear hb
  cases hfew : fewL x0
  · go_wp2
    go_ret
    exact ⟨rfl, HB⟩
  clear hfew
  go_wp2_with fail
  with_reducible refine (refFew10_any _ _ _ x1 _ (KO.out _ HB)).mono ?_
  rintro e w3 ⟨rfl, hb⟩
  replace HB := bel_call HB hb
  clear hb
  cases hfew : fewL x1
  · go_wp2
    go_ret
    exact ⟨rfl, HB⟩
  clear hfew
  obtain ⟨e1, he1⟩ : ∃ z, gtE x0 a2 = z := ⟨_, rfl⟩
  have Qe1 := hid he1
  clear he1
  obtain ⟨d1, hd1⟩ : ∃ z, gtC x0 a2 = z := ⟨_, rfl⟩
  have Qd1 := hid hd1
  clear hd1
  obtain ⟨wv, hwv⟩ : ∃ z, whV x0 a3 = z := ⟨_, rfl⟩
  have Qwv := hid hwv
  clear hwv
  obtain ⟨we, hwe⟩ : ∃ z, whE x0 a3 = z := ⟨_, rfl⟩
  have Qwe := hid hwe
  clear hwe
  obtain ⟨on, hon⟩ : ∃ z, oursN x0 = z := ⟨_, rfl⟩
  have Qon := hid hon
  clear hon
  obtain ⟨oh, hoh⟩ : ∃ z, oursH x0 = z := ⟨_, rfl⟩
  have Qoh := hid hoh
  clear hoh
  obtain ⟨le, hle⟩ : ∃ z, lgE x0 = z := ⟨_, rfl⟩
  have Qle := hid hle
  clear hle
  go_wp2_with fail
  with_reducible refine (HG.get _ _ _ x0 a2 _ (KA.out _ HB) V2).mono ?_
  rw [Qe1.out, Qd1.out]
  rintro e w4 ⟨v, rfl, hv, hb⟩
  replace HB := bel_call HB hb
  clear hb
  obtain ⟨A1a, n1a, c1a, rfl, hs1a⟩ := hv.read
  have hw1 : ChnWf d1 := (by rw [← Qd1.out]; exact (gt_wf hw0 a2).1)
  clear hv
  have hba := bel_alloc (Below.refl w4.heap.size w4) (Obj.cells #[.int .u64 d1.Id, .int .u64 d1.Local, .int .u64 d1.Remote, .int .u64 d1.Reserve, .int .u64 d1.Most, .slice A1a n1a c1a, .bool d1.Open] 26)
  have B1 : Box (w4.alloc (Obj.cells #[.int .u64 d1.Id, .int .u64 d1.Local, .int .u64 d1.Remote, .int .u64 d1.Reserve, .int .u64 d1.Most, .slice A1a n1a c1a, .bool d1.Open] 26)) w4.heap.size 26 [.int .u64 d1.Id, .int .u64 d1.Local, .int .u64 d1.Remote, .int .u64 d1.Reserve, .int .u64 d1.Most, .slice A1a n1a c1a, .bool d1.Open] := Box.new w4 _ _
  have S1a := Sl.call hs1a hba
  replace HB := bel_call HB hba
  clear hba hs1a
  go_upto_region 6 with (fail)
  generalize w4.alloc (Obj.cells #[.int .u64 d1.Id, .int .u64 d1.Local, .int .u64 d1.Remote, .int .u64 d1.Reserve, .int .u64 d1.Most, .slice A1a n1a c1a, .bool d1.Open] 26) = W1 at *
  generalize hg : w4.heap.size = g1 at *
  clear hg
  have K1 := hid (fun (W : World) (h : Below W1.heap.size W1 W) => (show W.cell? ⟨g1, 0, none⟩ = some (.int .u64 d1.Id) ∧ W.cell? ⟨g1, 1, none⟩ = some (.int .u64 d1.Local) ∧ W.cell? ⟨g1, 2, none⟩ = some (.int .u64 d1.Remote) ∧ W.cell? ⟨g1, 3, none⟩ = some (.int .u64 d1.Reserve) ∧ W.cell? ⟨g1, 4, none⟩ = some (.int .u64 d1.Most) ∧ W.cell? ⟨g1, 5, none⟩ = some (.slice A1a n1a c1a) ∧ W.cell? ⟨g1, 6, none⟩ = some (.bool d1.Open) from ⟨(B1.call h).at_ 0 rfl, (B1.call h).at_ 1 rfl, (B1.call h).at_ 2 rfl, (B1.call h).at_ 3 rfl, (B1.call h).at_ 4 rfl, (B1.call h).at_ 5 rfl, (B1.call h).at_ 6 rfl⟩))
  have P1 := hid (fun (W : World) (h : Below W1.heap.size W1 W) => (show lay_Channel.rep W (· < W.heap.size) d1 #[.int .u64 d1.Id, .int .u64 d1.Local, .int .u64 d1.Remote, .int .u64 d1.Reserve, .int .u64 d1.Most, .slice A1a n1a c1a, .bool d1.Open].toList from chan_in hw1 S1a h))
  have HB1 := Below.refl W1.heap.size W1
  clear B1 S1a
  go_wp2_with fail
  with_reducible refine (refGet10_any _ _ _ x0 a2 _ (KA.out _ HB)).mono ?_
  rw [Qe1.out, Qd1.out]
  rintro e w5 ⟨v, rfl, hv, hb⟩
  replace HB := bel_call HB hb
  replace HB1 := bel_call HB1 hb
  clear hb
  obtain ⟨A2a, n2a, c2a, rfl, hs2a⟩ := hv.read
  have hw2 : ChnWf d1 := (by rw [← Qd1.out]; exact (gt_wf hw0 a2).1)
  clear hv
  have hba := bel_alloc (Below.refl w5.heap.size w5) (Obj.cells #[.int .u64 d1.Id, .int .u64 d1.Local, .int .u64 d1.Remote, .int .u64 d1.Reserve, .int .u64 d1.Most, .slice A2a n2a c2a, .bool d1.Open] 26)
  have B2 : Box (w5.alloc (Obj.cells #[.int .u64 d1.Id, .int .u64 d1.Local, .int .u64 d1.Remote, .int .u64 d1.Reserve, .int .u64 d1.Most, .slice A2a n2a c2a, .bool d1.Open] 26)) w5.heap.size 26 [.int .u64 d1.Id, .int .u64 d1.Local, .int .u64 d1.Remote, .int .u64 d1.Reserve, .int .u64 d1.Most, .slice A2a n2a c2a, .bool d1.Open] := Box.new w5 _ _
  have S2a := Sl.call hs2a hba
  replace HB := bel_call HB hba
  replace HB1 := bel_call HB1 hba
  clear hba hs2a
  go_upto_region 7 with (fail)
  generalize w5.alloc (Obj.cells #[.int .u64 d1.Id, .int .u64 d1.Local, .int .u64 d1.Remote, .int .u64 d1.Reserve, .int .u64 d1.Most, .slice A2a n2a c2a, .bool d1.Open] 26) = W2 at *
  generalize hg : w5.heap.size = g2 at *
  clear hg
  have K2 := hid (fun (W : World) (h : Below W2.heap.size W2 W) => (show W.cell? ⟨g2, 0, none⟩ = some (.int .u64 d1.Id) ∧ W.cell? ⟨g2, 1, none⟩ = some (.int .u64 d1.Local) ∧ W.cell? ⟨g2, 2, none⟩ = some (.int .u64 d1.Remote) ∧ W.cell? ⟨g2, 3, none⟩ = some (.int .u64 d1.Reserve) ∧ W.cell? ⟨g2, 4, none⟩ = some (.int .u64 d1.Most) ∧ W.cell? ⟨g2, 5, none⟩ = some (.slice A2a n2a c2a) ∧ W.cell? ⟨g2, 6, none⟩ = some (.bool d1.Open) from ⟨(B2.call h).at_ 0 rfl, (B2.call h).at_ 1 rfl, (B2.call h).at_ 2 rfl, (B2.call h).at_ 3 rfl, (B2.call h).at_ 4 rfl, (B2.call h).at_ 5 rfl, (B2.call h).at_ 6 rfl⟩))
  have P2 := hid (fun (W : World) (h : Below W2.heap.size W2 W) => (show lay_Channel.rep W (· < W.heap.size) d1 #[.int .u64 d1.Id, .int .u64 d1.Local, .int .u64 d1.Remote, .int .u64 d1.Reserve, .int .u64 d1.Most, .slice A2a n2a c2a, .bool d1.Open].toList from chan_in hw2 S2a h))
  have HB2 := Below.refl W2.heap.size W2
  clear B2 S2a
  go_wp2_with fail
  with_reducible refine (HG.where_ _ _ _ x0 a3 _ (KA.out _ HB) V3).mono ?_
  rw [Qwv.out, Qwe.out]
  rintro e w6 ⟨rfl, hb⟩
  replace HB := bel_call HB hb
  replace HB1 := bel_call HB1 hb
  replace HB2 := bel_call HB2 hb
  clear hb
  go_wp2_with fail
  with_reducible refine (refWhere10_any _ _ _ x0 a3 _ (KA.out _ HB)).mono ?_
  rw [Qwv.out, Qwe.out]
  rintro e w7 ⟨rfl, hb⟩
  replace HB := bel_call HB hb
  replace HB1 := bel_call HB1 hb
  replace HB2 := bel_call HB2 hb
  clear hb
  go_wp2_with fail
  with_reducible refine (HG.ours _ _ _ x0 _ (KA.out _ HB)).mono ?_
  rw [Qon.out, Qoh.out, Qle.out]
  rintro e w8 ⟨rfl, hb⟩
  replace HB := bel_call HB hb
  replace HB1 := bel_call HB1 hb
  replace HB2 := bel_call HB2 hb
  clear hb
  go_wp2_with fail
  with_reducible refine (refOurs10_any _ _ _ x0 _ (KA.out _ HB)).mono ?_
  rw [Qon.out, Qoh.out, Qle.out]
  rintro e w9 ⟨rfl, hb⟩
  replace HB := bel_call HB hb
  replace HB1 := bel_call HB1 hb
  replace HB2 := bel_call HB2 hb
  clear hb
  have te1 : (e1 == e1) = true := by simp
  have twv : (wv == wv) = true := by simp
  have twe : (we == we) = true := by simp
  have ton : (on == on) = true := by simp
  have toh : (oh == oh) = true := by simp
  have tle : (le == le) = true := by simp
  obtain ⟨p1x0, p1x1, p1x2, p1x3, p1x4, p1x5, p1x6⟩ := K1.out _ HB1
  obtain ⟨p2x0, p2x1, p2x2, p2x3, p2x4, p2x5, p2x6⟩ := K2.out _ HB2
  go_wp2_with fail
  with_reducible refine (refSame9_any _ _ d1 d1 _ (P1.out _ HB1) (P2.out _ HB2)).mono ?_
  rw [show decide (d1 = d1) = true from decide_eq_true rfl]
  rintro e w10 ⟨rfl, hb⟩
  replace HB := bel_call HB hb
  replace HB1 := bel_call HB1 hb
  replace HB2 := bel_call HB2 hb
  clear p1x0 p1x1 p1x2 p1x3 p1x4 p1x5 p1x6 p2x0 p2x1 p2x2 p2x3 p2x4 p2x5 p2x6
  clear hb
  go_wp2_with fail
  with_reducible refine (HG.check _ _ _ x0 _ (KA.out _ HB)).mono ?_
  rw [Qle.out]
  rintro e w11 ⟨rfl, hb⟩
  replace HB := bel_call HB hb
  replace HB1 := bel_call HB1 hb
  replace HB2 := bel_call HB2 hb
  clear hb
  go_wp2_with fail
  with_reducible refine (refCheck10_any _ _ _ x0 _ (KA.out _ HB)).mono ?_
  rw [Qle.out]
  rintro e w12 ⟨rfl, hb⟩
  replace HB := bel_call HB hb
  replace HB1 := bel_call HB1 hb
  replace HB2 := bel_call HB2 hb
  clear hb
  obtain ⟨sb, hsb⟩ : ∃ z, decide (x0 = x1) = z := ⟨_, rfl⟩
  have QS := hid hsb
  clear hsb
  have tsb : (sb == sb) = true := by simp
  go_wp2_with fail
  with_reducible refine (HG.same _ _ _ _ _ _ x0 x1 _ (KA.out _ HB) (KO.out _ HB)).mono ?_
  rw [QS.out]
  rintro e w13 ⟨rfl, hb⟩
  replace HB := bel_call HB hb
  replace HB1 := bel_call HB1 hb
  replace HB2 := bel_call HB2 hb
  clear hb
  go_wp2_with fail
  with_reducible refine (refSame10_any _ _ _ _ _ _ x0 x1 _ (KA.out _ HB) (KO.out _ HB)).mono ?_
  rw [QS.out]
  rintro e w14 ⟨rfl, hb⟩
  replace HB := bel_call HB hb
  replace HB1 := bel_call HB1 hb
  replace HB2 := bel_call HB2 hb
  clear hb
  go_wp2
  go_ret
  exact ⟨rfl, HB⟩
end Go.Proofs.Ytanlpcndbfmkiaa
