/-
  The walk of ChannelTells.
-/
import Derived.Test.YtakplfoahlihaaaChannelRef3
import Derived.Deep.RegionHeld3
namespace Go.Proofs.Ytakplfoahlihaaa
open Go.RowKit Go.WalkArith

set_option maxRecDepth 100000 in
set_option maxHeartbeats 4000000 in
theorem channelTells_walkH (HC : ChannelSpec) (s0 : Array Value) (x0 : Chn) (s1 : Array Value) (x1 : Chn) (w : World) (r0 : lay_Channel.rep w (· < w.heap.size) x0 s0.toList) (r1 : lay_Channel.rep w (· < w.heap.size) x1 s1.toList) :
    Calls Try.prog 4 #[.agg s0, .agg s1] w fun e w' => e = .returned (.bool true) ∧ Below w.heap.size w w' := by
  obtain ⟨A0, n0, c0, rfl, hw0, hs0⟩ := agg_Channel r0
  obtain ⟨A1, n1, c1, rfl, hw1, hs1⟩ := agg_Channel r1
  clear r0 r1
  have hcap0 := hs0.cap
  have hcap1 := hs1.cap
  unfold maxLen at hcap0 hcap1
  have hb0 : Below w.heap.size w ((w.alloc (Obj.cells #[.int .u64 x0.Id, .int .u64 x0.Local, .int .u64 x0.Remote, .int .u64 x0.Reserve, .int .u64 x0.Most, .slice A0 n0 c0, .bool x0.Open] 25)).alloc (Obj.cells #[.int .u64 x1.Id, .int .u64 x1.Local, .int .u64 x1.Remote, .int .u64 x1.Reserve, .int .u64 x1.Most, .slice A1 n1 c1, .bool x1.Open] 25)) := bel_alloc (bel_alloc (Below.refl _ _) _) _
  have BX : BoxC ((w.alloc (Obj.cells #[.int .u64 x0.Id, .int .u64 x0.Local, .int .u64 x0.Remote, .int .u64 x0.Reserve, .int .u64 x0.Most, .slice A0 n0 c0, .bool x0.Open] 25)).alloc (Obj.cells #[.int .u64 x1.Id, .int .u64 x1.Local, .int .u64 x1.Remote, .int .u64 x1.Reserve, .int .u64 x1.Most, .slice A1 n1 c1, .bool x1.Open] 25)) w.heap.size x0 A0 n0 c0 := heap_alloc2_old _ _ _
  have BY : BoxC ((w.alloc (Obj.cells #[.int .u64 x0.Id, .int .u64 x0.Local, .int .u64 x0.Remote, .int .u64 x0.Reserve, .int .u64 x0.Most, .slice A0 n0 c0, .bool x0.Open] 25)).alloc (Obj.cells #[.int .u64 x1.Id, .int .u64 x1.Local, .int .u64 x1.Remote, .int .u64 x1.Reserve, .int .u64 x1.Most, .slice A1 n1 c1, .bool x1.Open] 25)) (w.heap.size + 1) x1 A1 n1 c1 := alloc2_new _ _ _
  have S0 := Sl.call hs0 hb0
  have S1 := Sl.call hs1 hb0
  clear hs0 hs1
  go_enter Try.func4, Try.ntmps4
  go_wp2_with fail
  generalize ((w.alloc (Obj.cells #[.int .u64 x0.Id, .int .u64 x0.Local, .int .u64 x0.Remote, .int .u64 x0.Reserve, .int .u64 x0.Most, .slice A0 n0 c0, .bool x0.Open] 25)).alloc (Obj.cells #[.int .u64 x1.Id, .int .u64 x1.Local, .int .u64 x1.Remote, .int .u64 x1.Reserve, .int .u64 x1.Most, .slice A1 n1 c1, .bool x1.Open] 25)) = W0 at *
  have K0 := hid (fun (W : World) (h : Below W0.heap.size W0 W) => (BX.call h).all)
  have K1 := hid (fun (W : World) (h : Below W0.heap.size W0 W) => (BY.call h).all)
  have P0 := hid (fun (W : World) (h : Below W0.heap.size W0 W) => chan_in hw0 S0 h)
  have P1 := hid (fun (W : World) (h : Below W0.heap.size W0 W) => chan_in hw1 S1 h)
  refine (live9_any HC _).mono ?_
  rintro e w1 ⟨rfl, HB⟩
  clear BX BY S0 S1
  obtain ⟨-, -, -, -, -, p5, -⟩ := K0.out _ HB
  obtain ⟨-, -, -, -, -, q5, -⟩ := K1.out _ HB
  by_cases hbig : 70 < n0
  · have d1 : decide ((70 : Int) < (n0 : Int)) = true := by simp; omega
    go_wp2
    go_ret
    exact ⟨rfl, bel_call hb0 HB⟩
  have d1 : decide ((70 : Int) < (n0 : Int)) = false := by simp; omega
  by_cases hbig2 : 70 < n1
  · have d2 : decide ((70 : Int) < (n1 : Int)) = true := by simp; omega
    go_wp2
    go_ret
    exact ⟨rfl, bel_call hb0 HB⟩
  have d2 : decide ((70 : Int) < (n1 : Int)) = false := by simp; omega
  obtain ⟨ce, hce⟩ : ∃ z, chE x0 = z := ⟨_, rfl⟩
  obtain ⟨hv, hhv⟩ : ∃ z, heV x0 = z := ⟨_, rfl⟩
  obtain ⟨av, hav⟩ : ∃ z, aaV x0 = z := ⟨_, rfl⟩
  obtain ⟨rv, hrv⟩ : ∃ z, rmV x0 = z := ⟨_, rfl⟩
  obtain ⟨sb, hsb⟩ : ∃ z, decide (x0 = x1) = z := ⟨_, rfl⟩
  have Qce := hid hce
  have Qhv := hid hhv
  have Qav := hid hav
  have Qrv := hid hrv
  have Qsb := hid hsb
  clear hce hhv hav hrv hsb
  go_upto_region 5 with (fail)
  clear p5 q5
  obtain ⟨p0, p1, p2, p3, p4, p5, p6⟩ := K0.out _ HB
  go_wp2_with fail
  refine (HC.held _ x0 _ (P0.out _ HB)).mono ?_
  rw [Qhv.out, Qce.out]
  rintro e w2 ⟨rfl, hb⟩
  replace HB := bel_call HB hb
  clear hb p0 p1 p2 p3 p4 p5 p6
  obtain ⟨p0, p1, p2, p3, p4, p5, p6⟩ := K0.out _ HB
  go_wp2_with fail
  refine (refHeld9_any _ x0 _ (P0.out _ HB)).mono ?_
  rw [Qhv.out, Qce.out]
  rintro e w3 ⟨rfl, hb⟩
  replace HB := bel_call HB hb
  clear hb p0 p1 p2 p3 p4 p5 p6
  obtain ⟨p0, p1, p2, p3, p4, p5, p6⟩ := K0.out _ HB
  go_wp2_with fail
  refine (HC.all _ x0 _ (P0.out _ HB)).mono ?_
  rw [Qav.out, Qce.out]
  rintro e w4 ⟨rfl, hb⟩
  replace HB := bel_call HB hb
  clear hb p0 p1 p2 p3 p4 p5 p6
  obtain ⟨p0, p1, p2, p3, p4, p5, p6⟩ := K0.out _ HB
  go_wp2_with fail
  refine (refAll9_any _ x0 _ (P0.out _ HB)).mono ?_
  rw [Qav.out, Qce.out]
  rintro e w5 ⟨rfl, hb⟩
  replace HB := bel_call HB hb
  clear hb p0 p1 p2 p3 p4 p5 p6
  obtain ⟨p0, p1, p2, p3, p4, p5, p6⟩ := K0.out _ HB
  go_wp2_with fail
  refine (HC.room _ x0 _ (P0.out _ HB)).mono ?_
  rw [Qrv.out, Qce.out]
  rintro e w6 ⟨rfl, hb⟩
  replace HB := bel_call HB hb
  clear hb p0 p1 p2 p3 p4 p5 p6
  obtain ⟨p0, p1, p2, p3, p4, p5, p6⟩ := K0.out _ HB
  go_wp2_with fail
  refine (refRoom9_any _ x0 _ (P0.out _ HB)).mono ?_
  rw [Qrv.out, Qce.out]
  rintro e w7 ⟨rfl, hb⟩
  replace HB := bel_call HB hb
  clear hb p0 p1 p2 p3 p4 p5 p6
  have t1 : (hv == hv) = true := by simp
  have t2 : (ce == ce) = true := by simp
  have t3 : (av == av) = true := by simp
  have t4 : (rv == rv) = true := by simp
  have t5 : (sb == sb) = true := by simp
  have KS := hid (fun (W : World) (h : Below W0.heap.size W0 W) => (show W.cell? ⟨w.heap.size, 0, none⟩ = some (.int .u64 x0.Id) ∧ W.cell? ⟨w.heap.size, 1, none⟩ = some (.int .u64 x0.Local) ∧ W.cell? ⟨w.heap.size, 2, none⟩ = some (.int .u64 x0.Remote) ∧ W.cell? ⟨w.heap.size, 3, none⟩ = some (.int .u64 x0.Reserve) ∧ W.cell? ⟨w.heap.size, 4, none⟩ = some (.int .u64 x0.Most) ∧ W.cell? ⟨w.heap.size, 5, none⟩ = some (.slice A0 n0 c0) ∧ W.cell? ⟨w.heap.size, 6, none⟩ = some (.bool x0.Open) ∧ W.cell? ⟨w.heap.size + 1, 0, none⟩ = some (.int .u64 x1.Id) ∧ W.cell? ⟨w.heap.size + 1, 1, none⟩ = some (.int .u64 x1.Local) ∧ W.cell? ⟨w.heap.size + 1, 2, none⟩ = some (.int .u64 x1.Remote) ∧ W.cell? ⟨w.heap.size + 1, 3, none⟩ = some (.int .u64 x1.Reserve) ∧ W.cell? ⟨w.heap.size + 1, 4, none⟩ = some (.int .u64 x1.Most) ∧ W.cell? ⟨w.heap.size + 1, 5, none⟩ = some (.slice A1 n1 c1) ∧ W.cell? ⟨w.heap.size + 1, 6, none⟩ = some (.bool x1.Open) from by
    obtain ⟨a0, a1, a2, a3, a4, a5, a6⟩ := K0.out W h
    obtain ⟨b0, b1, b2, b3, b4, b5, b6⟩ := K1.out W h
    exact ⟨a0, a1, a2, a3, a4, a5, a6, b0, b1, b2, b3, b4, b5, b6⟩))
  obtain ⟨p0, p1, p2, p3, p4, p5, p6, q0, q1, q2, q3, q4, q5, q6⟩ := KS.out _ HB
  go_upto_region 11 with (fail)
  go_region_held3 (fun W => W.cell? ⟨w.heap.size, 0, none⟩ = some (.int .u64 x0.Id) ∧ W.cell? ⟨w.heap.size, 1, none⟩ = some (.int .u64 x0.Local) ∧ W.cell? ⟨w.heap.size, 2, none⟩ = some (.int .u64 x0.Remote) ∧ W.cell? ⟨w.heap.size, 3, none⟩ = some (.int .u64 x0.Reserve) ∧ W.cell? ⟨w.heap.size, 4, none⟩ = some (.int .u64 x0.Most) ∧ W.cell? ⟨w.heap.size, 5, none⟩ = some (.slice A0 n0 c0) ∧ W.cell? ⟨w.heap.size, 6, none⟩ = some (.bool x0.Open) ∧ W.cell? ⟨w.heap.size + 1, 0, none⟩ = some (.int .u64 x1.Id) ∧ W.cell? ⟨w.heap.size + 1, 1, none⟩ = some (.int .u64 x1.Local) ∧ W.cell? ⟨w.heap.size + 1, 2, none⟩ = some (.int .u64 x1.Remote) ∧ W.cell? ⟨w.heap.size + 1, 3, none⟩ = some (.int .u64 x1.Reserve) ∧ W.cell? ⟨w.heap.size + 1, 4, none⟩ = some (.int .u64 x1.Most) ∧ W.cell? ⟨w.heap.size + 1, 5, none⟩ = some (.slice A1 n1 c1) ∧ W.cell? ⟨w.heap.size + 1, 6, none⟩ = some (.bool x1.Open))
    (first | (with_reducible exact KS.out _ HD') | (with_reducible exact KS.out _ HC') | (with_reducible exact KS.out _ HBb) | (with_reducible exact KS.out _ HA) | (with_reducible exact KS.out _ HB) | (with_reducible exact KS.out _ HB.drew) | fail "keep")
    (first
      | (go_at_call 29; (with_reducible refine (HC.check _ x0 _ (P0.out _ HB.drew)).mono ?_); rw [Qce.out]; rintro e wA ⟨rfl, hbA⟩; have HA := bel_call HB.drew hbA)
      | (go_at_call 30; (with_reducible refine (refCheck9_any _ x0 _ (P0.out _ HA)).mono ?_); rw [Qce.out]; rintro e wB ⟨rfl, hbB⟩; have HBb := bel_call HA hbB)
      | (go_at_call 31; (with_reducible refine (HC.same _ _ x0 x1 _ (P0.out _ HBb) (P1.out _ HBb)).mono ?_); rw [Qsb.out]; rintro e wC ⟨rfl, hbC⟩; have HC' := bel_call HBb hbC)
      | (go_at_call 22; (with_reducible refine (refSame9_any _ _ x0 x1 _ (P0.out _ HC') (P1.out _ HC')).mono ?_); rw [Qsb.out]; rintro e wD ⟨rfl, hbD⟩; have HD' := bel_call HC' hbD))
  all_goals
    go_wp2
    go_ret
    exact ⟨rfl, bel_call hb0 HD'⟩
end Go.Proofs.Ytakplfoahlihaaa
