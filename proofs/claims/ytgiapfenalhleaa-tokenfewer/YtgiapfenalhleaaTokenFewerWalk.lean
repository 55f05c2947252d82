/-
  The walk of TokenFewer.
-/
import Derived.Test.YtgiapfenalhleaaTokenBackWalk
import Derived.Test.YtgiapfenalhleaaPackAr2
namespace Go.Proofs.Ytgiapfenalhleaa
open Go.RowKit Go.WalkArith

theorem fewer_laws {l : List Trm} {root key : Int} {cs : List Cav} (h : (bnS l root key cs).e = 0) (h0 : 0 < cs.length) :
    ∃ i : Nat, (bnS l root key cs).t = ⟨root, cs, i⟩ ∧ i < 1048576 ∧ vfE (bnS l root key cs).l ⟨root, cs.take (cs.length - 1), i⟩ = 0 ∧ vfV (bnS l root key cs).l key ⟨root, cs.take (cs.length - 1), i⟩ = false ∧ pathE (bnS l root key cs).l i = 0 ∧ pathK (bnS l root key cs).l i = key ∧ (pathT (bnS l root key cs).l i).length = cs.length + 1 := by
  obtain ⟨o, i, hi, e1, e2, a, p1, p2, n, k1, k2⟩ := bn_made h
  rw [e1]
  exact ⟨i, e2, by have := a.1; omega, fewer a hi p1 p2 k1 k2 h0⟩
theorem Try.elemCav : Try.prog.elem 26 = 30 := by kernel_rfl

set_option maxRecDepth 100000 in
set_option maxHeartbeats 8000000 in
theorem tokenFewer_walk (s0 : Array Value) (x0 : List Trm) (a1 a2 : Int) (A3 : Option Addr) (n3 c3 : Nat) (x3 : List Cav) (w : World) (r0 : lay_Arena.rep w (· < w.heap.size) x0 s0.toList) (b1 : 0 ≤ a1 ∧ a1 ≤ 18446744073709551615) (b2 : 0 ≤ a2 ∧ a2 ≤ 18446744073709551615) (r3 : Sl lay_Caveat w (· < w.heap.size) A3 n3 c3 x3) :
    Calls Try.prog 7 #[.agg s0, .int .u64 a1, .int .u64 a2, .slice A3 n3 c3] w fun e w' => e = .returned (.bool true) ∧ Below w.heap.size w w' := by
  obtain ⟨A0, n0, c0, rfl, h0⟩ := agg_Arena r0
  clear r0
  have W1 := wf_u64 b1
  have W2 := wf_u64 b2
  have hc3 := r3.cap
  unfold maxLen at hc3
  have hb0 : Below w.heap.size w (w.alloc (Obj.cells #[.slice A0 n0 c0] 24)) := bel_alloc (Below.refl _ _) _
  have v0 := Var1.new w 24 (.slice A0 n0 c0)
  have HL3 := hid r3.len
  have S0 := Sl.call h0 hb0
  have S3 := Sl.call r3 hb0
  clear h0 r3
  go_enter Try.func7, Try.ntmps7
  go_wp2_with fail
  generalize w.alloc (Obj.cells #[.slice A0 n0 c0] 24) = W0 at *
  have C0 := hid (fun (W : World) (h : Below W0.heap.size W0 W) => (v0.call h).c0)
  have P0 := hid (fun (W : World) (h : Below W0.heap.size W0 W) => ar_rep S0 h)
  have K3 := hid (fun (W : World) (h : Below W0.heap.size W0 W) => Sl.call S3 h)
  have hg0 := v0.lt
  clear v0 S0 S3
  refine (live7_any _).mono ?_
  rintro e w1 ⟨rfl, hb1⟩
  have HB := hb1
  clear hb1
  have k0 := C0.out _ HB
  go_wp2_with fail
  refine (refFewA_any _ x0 _ (P0.out _ HB)).mono ?_
  rintro e w2 ⟨rfl, hb2⟩
  replace HB := bel_call HB hb2
  clear hb2 k0
  cases f0 : fewA x0 with
  | false =>
    go_wp2
    go_ret
    exact ⟨rfl, bel_call hb0 HB⟩
  | true =>
  clear f0
  by_cases hbig : 16 < n3
  · have d1 : (16 : Int) < (n3 : Int) := by omega
    go_wp2
    go_ret
    exact ⟨rfl, bel_call hb0 HB⟩
  have d1 : decide ((16 : Int) < (n3 : Int)) = false := by simp; omega
  by_cases hz : n3 = 0
  · subst hz
    go_wp2
    go_ret
    exact ⟨rfl, bel_call hb0 HB⟩
  have d2 : ((n3 : Int) == 0) = false := by simp; omega
  have k0 := C0.out _ HB
  have HBN := hid (bound_any _ x0 a1 a2 _ _ _ x3 w2 (P0.out _ HB) W1 W2 (K3.out _ HB))
  by_cases h1 : (bnS x0 a1 a2 x3).e = 0
  rotate_left
  · rw [decide_eq_false h1] at HBN
    generalize bnS x0 a1 a2 x3 = sx at *
    go_wp2_with fail
    refine HBN.out.mono ?_
    rintro e w4 ⟨A6, n6, c6, A7, n7, c7, rfl, hs6, hs7, hb4⟩
    go_wp2
    go_ret
    exact ⟨rfl, bel_call hb0 (bel_alloc (bel_alloc (bel_call HB hb4) _) _)⟩
  obtain ⟨i, hTk, hi, l1, l2, l3, l4, l5⟩ := fewer_laws h1 (by rw [HL3.out]; omega)
  rw [decide_eq_true h1] at HBN
  simp only [hTk] at HBN
  rw [HL3.out] at l1 l2 l5
  have L1 := hid l1
  have L2 := hid l2
  have L3 := hid l3
  have L4 := hid l4
  have L5 := hid l5
  clear hTk h1 l1 l2 l3 l4 l5
  generalize bnS x0 a1 a2 x3 = sx at *
  have wI : (Lit.int .i64 (i : Int)).wf = true := wf_i64 (by omega)
  go_wp2_with fail
  refine HBN.out.mono ?_
  rintro e w4 ⟨A6, n6, c6, A7, n7, c7, rfl, hs6, hs7, hb4⟩
  replace HB := bel_call HB hb4
  clear hb4 k0 HBN hs7
  have hba : Below w4.heap.size w4 ((w4.alloc (Obj.cells #[.slice A6 n6 c6] 24)).alloc (Obj.cells #[.int .u64 a1, .slice A7 n7 c7, .int .i64 i] 28)) := bel_alloc (bel_alloc (Below.refl _ _) _) _
  have v6 : Var1 ((w4.alloc (Obj.cells #[.slice A6 n6 c6] 24)).alloc (Obj.cells #[.int .u64 a1, .slice A7 n7 c7, .int .i64 i] 28)) w4.heap.size 24 (.slice A6 n6 c6) := heap_alloc2_old _ _ _
  have v7 : Var3 ((w4.alloc (Obj.cells #[.slice A6 n6 c6] 24)).alloc (Obj.cells #[.int .u64 a1, .slice A7 n7 c7, .int .i64 i] 28)) (w4.heap.size + 1) 28 (.int .u64 a1) (.slice A7 n7 c7) (.int .i64 i) := alloc2_new _ _ _
  have S6 := Sl.call hs6 hba
  replace HB := bel_call HB hba
  clear hba hs6
  go_wp2_with fail
  generalize (w4.alloc (Obj.cells #[.slice A6 n6 c6] 24)).alloc (Obj.cells #[.int .u64 a1, .slice A7 n7 c7, .int .i64 i] 28) = W4 at *
  generalize w4.heap.size = gb at *
  have PC := hid (fun (W : World) (h : Below W4.heap.size W4 W) => ar_rep S6 h)
  have KK := hid (fun (W : World) (h : Below W4.heap.size W4 W) => (show W.cell? ⟨gb, 0, none⟩ = some (.slice A6 n6 c6) ∧ W.cell? ⟨gb + 1, 2, none⟩ = some (.int .i64 i) from ⟨(v6.call h).c0, (v7.call h).c2⟩))
  have K3' := hid (fun (W : World) (h : Below W4.heap.size W4 W) => K3.out W (bel_call HB h))
  have hg7 := v7.lt
  clear v6 v7 S6
  refine (aPath_any _ sx.l i W4 (PC.out _ (Below.refl _ _)) wI).mono ?_
  rw [L3.out, L4.out]
  rintro e w5 ⟨v5, rfl, ho5, hb5⟩
  obtain ⟨A8, n8, c8, rfl, hs8⟩ := ho5.read
  have hn8 : n8 = n3 + 1 := hs8.len.symm.trans L5.out
  have HV := hb5
  have d3 : (a2 != a2) = false := by simp
  have d4 : ((n8 : Int) != (n3 : Int) + 1) = false := by simp; omega
  have HN8 := hid hn8
  clear hn8 ho5 hs8 hb5 L3 L4 L5
  obtain ⟨k, hk⟩ : ∃ k : Nat, k = n3 - 1 := ⟨_, rfl⟩
  have hkn : (n3 : Int) - 1 = (k : Int) := by omega
  have hkc : k ≤ c3 := by omega
  have hkn3 : k ≤ n3 := by omega
  have hwk : IntKind.i64.wrap (k : Int) = (k : Int) := IntWalk.i64_in _ (by omega)
  have hsl := run_uptoL (P := Try.prog) 26 30 .i64 Try.underlying26 Try.elemCav Try.infoCav7 A3 n3 c3 k hkc
  rw [← hk] at L1 L2
  have VF := hid (fun W (h : Below W4.heap.size W4 W) => tVerify_any _ _ sx.l a2 ⟨a1, x3.take k, i⟩ W (PC.out W h) W2 (tk_rep ((K3'.out W h).upto hkn3) (Below.refl _ _) W1 wI))
  rw [L1.out, L2.out] at VF
  clear hk L1 L2 hz PC
  obtain ⟨q1, q2⟩ := KK.out _ HV
  go_upto_region 11 with (fail)
  go_region_held3 (fun W => W.cell? ⟨gb, 0, none⟩ = some (.slice A6 n6 c6) ∧ W.cell? ⟨gb + 1, 2, none⟩ = some (.int .i64 i))
    (first | exact KK.out _ HV | exact KK.out _ HV.drew | exact KK.out _ HV6)
    (first
      | (go_at_call 17; (with_reducible refine (VF.out _ HV).mono ?_); rintro e w6 ⟨rfl, hb6⟩; have HV6 := bel_call HV hb6)
      | (go_at_call 17; (with_reducible refine (VF.out _ HV.drew).mono ?_); rintro e w6 ⟨rfl, hb6⟩; have HV6 := bel_call HV.drew hb6))
  all_goals
    go_wp2
    go_ret
    exact ⟨rfl, bel_call hb0 (bel_call HB HV6)⟩
end Go.Proofs.Ytgiapfenalhleaa
