/-
  The walk of InvoiceOrder.
-/
import Derived.Test.YtannjlejghmfpaaInvoiceSpec
import Derived.Test.YtannjlejghmfpaaBox
namespace Go.Proofs.Ytannjlejghmfpaa
open Go.RowKit Go.WalkArith

set_option maxRecDepth 100000 in
set_option maxHeartbeats 4000000 in
theorem invoiceOrder_walkH (HI : InvoiceSpec) (A0 : Option Addr) (n0 c0 : Nat) (x0 : List Inv) (s1 : Array Value) (x1 : Inv) (s2 : Array Value) (x2 : Inv) (w : World) (r0 : Sl lay_Invoice w (· < w.heap.size) A0 n0 c0 x0) (r1 : lay_Invoice.rep w (· < w.heap.size) x1 s1.toList) (r2 : lay_Invoice.rep w (· < w.heap.size) x2 s2.toList) :
    Calls Try.prog 7 #[.slice A0 n0 c0, .agg s1, .agg s2] w fun e w' => e = .returned (.bool true) ∧ Below w.heap.size w w' := by
  obtain ⟨rfl, hw1⟩ := agg_Invoice r1
  obtain ⟨rfl, hw2⟩ := agg_Invoice r2
  clear r1 r2
  have V10 : (Lit.int .u64 x1.Hash).wf = true := hw1.w0
  have V11 : (Lit.int .u64 x1.N).wf = true := hw1.w1
  have V12 : (Lit.int .u64 x1.Till).wf = true := hw1.w2
  have V20 : (Lit.int .u64 x2.Hash).wf = true := hw2.w0
  have V21 : (Lit.int .u64 x2.N).wf = true := hw2.w1
  have V22 : (Lit.int .u64 x2.Till).wf = true := hw2.w2
  have HL0 := hid r0.len
  have hc0 := r0.cap
  unfold maxLen at hc0
  have KA := hid (fun (W : World) (h : Below w.heap.size w W) => Sl.call r0 h)
  clear r0
  have B1 : Box ((w.alloc (Obj.cells #[.int .u64 x1.Hash, .int .u64 x1.N, .int .u64 x1.Till, .int .i64 x1.State] 37)).alloc (Obj.cells #[.int .u64 x2.Hash, .int .u64 x2.N, .int .u64 x2.Till, .int .i64 x2.State] 37)) w.heap.size 37 [.int .u64 x1.Hash, .int .u64 x1.N, .int .u64 x1.Till, .int .i64 x1.State] := heap_alloc2_old _ _ _
  have B2 : Box ((w.alloc (Obj.cells #[.int .u64 x1.Hash, .int .u64 x1.N, .int .u64 x1.Till, .int .i64 x1.State] 37)).alloc (Obj.cells #[.int .u64 x2.Hash, .int .u64 x2.N, .int .u64 x2.Till, .int .i64 x2.State] 37)) (w.heap.size + 1) 37 [.int .u64 x2.Hash, .int .u64 x2.N, .int .u64 x2.Till, .int .i64 x2.State] := alloc2_new _ _ _
  have HB : Below w.heap.size w ((w.alloc (Obj.cells #[.int .u64 x1.Hash, .int .u64 x1.N, .int .u64 x1.Till, .int .i64 x1.State] 37)).alloc (Obj.cells #[.int .u64 x2.Hash, .int .u64 x2.N, .int .u64 x2.Till, .int .i64 x2.State] 37)) := bel_alloc (bel_alloc (Below.refl _ _) _) _
  go_enter Try.func7, Try.ntmps7
  go_wp2_with fail
  generalize ((w.alloc (Obj.cells #[.int .u64 x1.Hash, .int .u64 x1.N, .int .u64 x1.Till, .int .i64 x1.State] 37)).alloc (Obj.cells #[.int .u64 x2.Hash, .int .u64 x2.N, .int .u64 x2.Till, .int .i64 x2.State] 37)) = W0 at *
  have K1 := hid (fun (W : World) (h : Below W0.heap.size W0 W) => (show W.cell? ⟨w.heap.size, 0, none⟩ = some (.int .u64 x1.Hash) ∧ W.cell? ⟨w.heap.size, 1, none⟩ = some (.int .u64 x1.N) ∧ W.cell? ⟨w.heap.size, 2, none⟩ = some (.int .u64 x1.Till) ∧ W.cell? ⟨w.heap.size, 3, none⟩ = some (.int .i64 x1.State) from ⟨(B1.call h).at_ 0 rfl, (B1.call h).at_ 1 rfl, (B1.call h).at_ 2 rfl, (B1.call h).at_ 3 rfl⟩))
  have HB1 := Below.refl W0.heap.size W0
  clear B1
  have K2 := hid (fun (W : World) (h : Below W0.heap.size W0 W) => (show W.cell? ⟨w.heap.size + 1, 0, none⟩ = some (.int .u64 x2.Hash) ∧ W.cell? ⟨w.heap.size + 1, 1, none⟩ = some (.int .u64 x2.N) ∧ W.cell? ⟨w.heap.size + 1, 2, none⟩ = some (.int .u64 x2.Till) ∧ W.cell? ⟨w.heap.size + 1, 3, none⟩ = some (.int .i64 x2.State) from ⟨(B2.call h).at_ 0 rfl, (B2.call h).at_ 1 rfl, (B2.call h).at_ 2 rfl, (B2.call h).at_ 3 rfl⟩))
  have HB2 := Below.refl W0.heap.size W0
  clear B2
  with_reducible refine (live12_any HI _).mono ?_
  rintro e w1 ⟨rfl, hb⟩
  replace HB := bel_call HB hb
  replace HB1 := bel_call HB1 hb
  replace HB2 := bel_call HB2 hb
  clear hb
  go_wp2_with fail
  with_reducible refine (fewI_any _ n0 c0 _ (by unfold maxLen; omega)).mono ?_
  rintro e w2 ⟨rfl, hb⟩
  replace HB := bel_call HB hb
  replace HB1 := bel_call HB1 hb
  replace HB2 := bel_call HB2 hb
  clear hb
  cases hfew : fewI n0
  · obtain ⟨p1x0, p1x1, p1x2, p1x3⟩ := K1.out _ HB1
    obtain ⟨p2x0, p2x1, p2x2, p2x3⟩ := K2.out _ HB2
    go_wp2
    go_ret
    exact ⟨rfl, HB⟩
  have HFW := hid hfew
  clear hfew
  by_cases hne : x1.Hash = x2.Hash
  · obtain ⟨p1x0, p1x1, p1x2, p1x3⟩ := K1.out _ HB1
    obtain ⟨p2x0, p2x1, p2x2, p2x3⟩ := K2.out _ HB2
    have d1 : (x1.Hash == x2.Hash) = true := by simpa using hne
    clear hne
    go_wp2
    go_ret
    exact ⟨rfl, HB⟩
  have d1 : (x1.Hash == x2.Hash) = false := by simpa using hne
  have HNE := hid hne
  clear hne
  have HO := hid (fun h1 h2 => order_law (l := x0) HNE.out h1 h2)
  have H6 := hid (fun h1 => (cr_is (l := x0) (h := x1.Hash) (n := x1.N) (t := x1.Till) h1).2.2.2.2.1)
  obtain ⟨e1, he1⟩ : ∃ z, crE x0 x1.Hash x1.N = z := ⟨_, rfl⟩
  have Qe1 := hid he1
  clear he1
  obtain ⟨l1, hl1⟩ : ∃ z, crL x0 x1.Hash x1.N x1.Till = z := ⟨_, rfl⟩
  have Ql1 := hid hl1
  clear hl1
  obtain ⟨e2, he2⟩ : ∃ z, crE x0 x2.Hash x2.N = z := ⟨_, rfl⟩
  have Qe2 := hid he2
  clear he2
  obtain ⟨l2, hl2⟩ : ∃ z, crL x0 x2.Hash x2.N x2.Till = z := ⟨_, rfl⟩
  have Ql2 := hid hl2
  clear hl2
  rw [Qe1.out, Qe2.out, Ql1.out, Ql2.out] at HO
  rw [Qe1.out] at H6
  obtain ⟨p1x0, p1x1, p1x2, p1x3⟩ := K1.out _ HB1
  obtain ⟨p2x0, p2x1, p2x2, p2x3⟩ := K2.out _ HB2
  go_wp2_with fail
  with_reducible refine (HI.create _ _ _ x0 _ _ _ _ (KA.out _ HB) V10 V11 V12).mono ?_
  rw [Qe1.out, Ql1.out]
  rintro e w3 ⟨v, rfl, hv, hb⟩
  replace HB := bel_call HB hb
  replace HB1 := bel_call HB1 hb
  replace HB2 := bel_call HB2 hb
  clear p1x0 p1x1 p1x2 p1x3 p2x0 p2x1 p2x2 p2x3
  clear hb
  obtain ⟨A3, n3, c3, rfl, hs3⟩ := hv.read
  have HB3 := Below.refl w3.heap.size w3
  clear hv
  obtain ⟨p1x0, p1x1, p1x2, p1x3⟩ := K1.out _ HB1
  obtain ⟨p2x0, p2x1, p2x2, p2x3⟩ := K2.out _ HB2
  go_wp2_with fail
  with_reducible refine (HI.create _ _ _ x0 _ _ _ _ (KA.out _ HB) V20 V21 V22).mono ?_
  rw [Qe2.out, Ql2.out]
  rintro e w4 ⟨v, rfl, hv, hb⟩
  replace HB := bel_call HB hb
  replace HB1 := bel_call HB1 hb
  replace HB2 := bel_call HB2 hb
  replace HB3 := bel_call HB3 hb
  clear p1x0 p1x1 p1x2 p1x3 p2x0 p2x1 p2x2 p2x3
  clear hb
  obtain ⟨A4, n4, c4, rfl, hs4⟩ := hv.read
  have HB4 := Below.refl w4.heap.size w4
  clear hv
  by_cases q1 : e1 = 0
  rotate_left
  · have d2 : (e1 != 0) = true := by simpa using q1
    clear q1 HO H6
    go_wp2
    go_ret
    exact ⟨rfl, HB⟩
  subst q1
  by_cases q2 : e2 = 0
  rotate_left
  · have d2 : (e2 != 0) = true := by simpa using q2
    clear q2 HO H6
    go_wp2
    go_ret
    exact ⟨rfl, HB⟩
  subst q2
  have hn6 := H6.out rfl
  rw [HL0.out] at hn6
  obtain ⟨o1, o2, o3⟩ := HO.out rfl rfl
  clear HO H6
  obtain ⟨g1, hg1⟩ : ∃ z, crE l1 x2.Hash x2.N = z := ⟨_, rfl⟩
  have Qg1 := hid hg1
  clear hg1
  obtain ⟨m1, hm1⟩ : ∃ z, crL l1 x2.Hash x2.N x2.Till = z := ⟨_, rfl⟩
  have Qm1 := hid hm1
  clear hm1
  obtain ⟨g2, hg2⟩ : ∃ z, crE l2 x1.Hash x1.N = z := ⟨_, rfl⟩
  have Qg2 := hid hg2
  clear hg2
  obtain ⟨m2, hm2⟩ : ∃ z, crL l2 x1.Hash x1.N x1.Till = z := ⟨_, rfl⟩
  have Qm2 := hid hm2
  clear hm2
  rw [Qg1.out, Qg2.out] at o1
  rw [Qm1.out, Qm2.out] at o2
  rw [Qg1.out, HL0.out] at o3
  subst o1
  subst o2
  have O3 := hid o3
  clear o3
  obtain ⟨p1x0, p1x1, p1x2, p1x3⟩ := K1.out _ HB1
  obtain ⟨p2x0, p2x1, p2x2, p2x3⟩ := K2.out _ HB2
  go_wp2_with fail
  with_reducible refine (HI.create _ _ _ l1 _ _ _ _ (Sl.call hs3 HB3) V20 V21 V22).mono ?_
  rw [Qg1.out, Qm1.out]
  rintro e w5 ⟨v, rfl, hv, hb⟩
  replace HB := bel_call HB hb
  replace HB1 := bel_call HB1 hb
  replace HB2 := bel_call HB2 hb
  replace HB3 := bel_call HB3 hb
  replace HB4 := bel_call HB4 hb
  clear p1x0 p1x1 p1x2 p1x3 p2x0 p2x1 p2x2 p2x3
  clear hb
  obtain ⟨A5, n5, c5, rfl, hs5⟩ := hv.read
  have HB5 := Below.refl w5.heap.size w5
  clear hv
  obtain ⟨p1x0, p1x1, p1x2, p1x3⟩ := K1.out _ HB1
  obtain ⟨p2x0, p2x1, p2x2, p2x3⟩ := K2.out _ HB2
  go_wp2_with fail
  with_reducible refine (HI.create _ _ _ l2 _ _ _ _ (Sl.call hs4 HB4) V10 V11 V12).mono ?_
  rw [Qg2.out, Qm2.out]
  rintro e w6 ⟨v, rfl, hv, hb⟩
  replace HB := bel_call HB hb
  replace HB1 := bel_call HB1 hb
  replace HB2 := bel_call HB2 hb
  replace HB3 := bel_call HB3 hb
  replace HB4 := bel_call HB4 hb
  replace HB5 := bel_call HB5 hb
  clear p1x0 p1x1 p1x2 p1x3 p2x0 p2x1 p2x2 p2x3
  clear hb
  obtain ⟨A6, n6, c6, rfl, hs6⟩ := hv.read
  have HB6 := Below.refl w6.heap.size w6
  clear hv
  have dg : (g1 == g1) = true := by simp
  go_wp2_with fail
  with_reducible refine (HI.same _ _ _ _ _ _ m1 m1 _ (Sl.call hs5 HB5) (Sl.call hs6 HB6)).mono ?_
  rw [decide_eq_true (rfl : m1 = m1)]
  rintro e w7 ⟨rfl, hb⟩
  replace HB := bel_call HB hb
  replace HB1 := bel_call HB1 hb
  replace HB2 := bel_call HB2 hb
  replace HB3 := bel_call HB3 hb
  replace HB4 := bel_call HB4 hb
  replace HB5 := bel_call HB5 hb
  replace HB6 := bel_call HB6 hb
  clear hb
  have wadd : IntKind.i64.wrap ((n0 : Int) + 2) = (n0 : Int) + 2 := IntWalk.i64_in _ (by omega)
  rcases O3.out with ⟨k, rfl⟩ | ⟨k, rfl⟩
  · have d4 : decide ((n0 : Int) + 2 ≤ 256) = true := by simp; omega
    go_wp2
    go_ret
    exact ⟨rfl, HB⟩
  · have d4 : decide ((n0 : Int) + 2 ≤ 256) = false := by simp; omega
    go_wp2
    go_ret
    exact ⟨rfl, HB⟩
end Go.Proofs.Ytannjlejghmfpaa
