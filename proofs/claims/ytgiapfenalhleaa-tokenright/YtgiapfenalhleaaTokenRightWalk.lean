/-
  The walk of TokenRight.
-/
import Derived.Test.YtgiapfenalhleaaTokenBackWalk
namespace Go.Proofs.Ytgiapfenalhleaa
open Go.RowKit Go.WalkArith

/-- What the law asks of plain lists. -/
theorem right_laws {l : List Trm} {root key : Int} {cs : List Cav} (h : (bnS l root key cs).e = 0) (hr : 0 ≤ root ∧ root ≤ 18446744073709551615) (hw : CavsWf cs) :
    ∃ i : Nat, (bnS l root key cs).t = ⟨root, cs, i⟩ ∧ i < 1048576 ∧ ∀ C, (C = (bnS l root key cs).l ∨ ∃ r k ds, (bnS (bnS l root key cs).l r k ds).e = 0 ∧ C = (bnS (bnS l root key cs).l r k ds).l) →
      vfE C ⟨root, cs, i⟩ = 0 ∧ (∀ other, vfV C other ⟨root, cs, i⟩ = (other == key)) ∧
      (∀ (t : Tok), (0 ≤ t.Root ∧ t.Root ≤ 18446744073709551615) → CavsWf t.L → vfE C ⟨t.Root, t.L, i⟩ = 0 → vfV C key ⟨t.Root, t.L, i⟩ = ((t.Root == root) && decide (t.L = cs))) ∧
      (∀ (tag : Int), vfE C ⟨root, cs, tag⟩ = 0 → vfV C key ⟨root, cs, tag⟩ = (tag == (i : Int))) := by
  obtain ⟨o, i, hi, e1, e2, a, p1, p2, n, k1, k2⟩ := bn_made h
  refine ⟨i, e2, by have := a.1; omega, fun C hC => ?_⟩
  have hC' : ∃ o2, C = l ++ o ++ o2 ∧ ArOk C := by
    rcases hC with rfl | ⟨r, k, ds, g1, rfl⟩
    · exact ⟨[], by rw [e1]; simp, by rw [e1]; exact a⟩
    · obtain ⟨o2, j, -, f1, -, b, -⟩ := bn_made g1
      rw [e1] at f1 b
      exact ⟨o2, by rw [e1, f1], by rw [e1, f1]; exact b⟩
  obtain ⟨o2, rfl, b⟩ := hC'
  obtain ⟨q1, q2⟩ := pth_append a o2 hi
  obtain ⟨s1, s2, s3, s4⟩ := seen b (by rw [List.length_append]; omega) (q1.trans p1) (q2.trans p2) k1 k2
  refine ⟨s1, fun other => (s2 other).trans ?_, fun t bt wt he => (s3 t bt hr hw wt he).trans ?_, fun tag he => (s4 tag he).trans ?_⟩
  · rw [Bool.eq_iff_iff]; simp
  · rw [Bool.eq_iff_iff]; simp
  · rw [Bool.eq_iff_iff]; simp

set_option maxRecDepth 100000 in
set_option maxHeartbeats 16000000 in
theorem tokenRight_walk (s0 : Array Value) (x0 : List Trm) (a1 a2 : Int) (A3 : Option Addr) (n3 c3 : Nat) (x3 : List Cav) (s4 : Array Value) (x4 : Tok) (a5 : Int) (w : World) (r0 : lay_Arena.rep w (· < w.heap.size) x0 s0.toList) (b1 : 0 ≤ a1 ∧ a1 ≤ 18446744073709551615) (b2 : 0 ≤ a2 ∧ a2 ≤ 18446744073709551615) (r3 : Sl lay_Caveat w (· < w.heap.size) A3 n3 c3 x3) (r4 : lay_Token.rep w (· < w.heap.size) x4 s4.toList) (b5 : 0 ≤ a5 ∧ a5 ≤ 18446744073709551615) :
    Calls Try.prog 6 #[.agg s0, .int .u64 a1, .int .u64 a2, .slice A3 n3 c3, .agg s4, .int .u64 a5] w fun e w' => e = .returned (.bool true) ∧ Below w.heap.size w w' := by
  obtain ⟨A0, n0, c0, rfl, h0⟩ := agg_Arena r0
  obtain ⟨A4, n4, c4, rfl, hR, hT, h4⟩ := agg_Token r4
  clear r0 r4
  have W1 := wf_u64 b1
  have W2 := wf_u64 b2
  have W5 := wf_u64 b5
  have bR := bounds_u64 hR
  have hc3 := r3.cap
  unfold maxLen at hc3
  have hb0 : Below w.heap.size w ((w.alloc (Obj.cells #[.slice A0 n0 c0] 24)).alloc (Obj.cells #[.int .u64 x4.Root, .slice A4 n4 c4, .int .i64 x4.Tag] 28)) := bel_alloc (bel_alloc (Below.refl _ _) _) _
  have v0 : Var1 ((w.alloc (Obj.cells #[.slice A0 n0 c0] 24)).alloc (Obj.cells #[.int .u64 x4.Root, .slice A4 n4 c4, .int .i64 x4.Tag] 28)) w.heap.size 24 (.slice A0 n0 c0) := heap_alloc2_old _ _ _
  have v4 : Var3 ((w.alloc (Obj.cells #[.slice A0 n0 c0] 24)).alloc (Obj.cells #[.int .u64 x4.Root, .slice A4 n4 c4, .int .i64 x4.Tag] 28)) (w.heap.size + 1) 28 (.int .u64 x4.Root) (.slice A4 n4 c4) (.int .i64 x4.Tag) := alloc2_new _ _ _
  have HL3 := hid r3.len
  have HW3 := hid (cavs_wf r3)
  have HW4 := hid (cavs_wf h4)
  have S0 := Sl.call h0 hb0
  have S3 := Sl.call r3 hb0
  have S4 := Sl.call h4 hb0
  clear h0 r3 h4
  go_enter Try.func6, Try.ntmps6
  go_wp2_with fail
  generalize (w.alloc (Obj.cells #[.slice A0 n0 c0] 24)).alloc (Obj.cells #[.int .u64 x4.Root, .slice A4 n4 c4, .int .i64 x4.Tag] 28) = W0 at *
  have C0 := hid (fun (W : World) (h : Below W0.heap.size W0 W) => (v0.call h).c0)
  have C4 := hid (fun (W : World) (h : Below W0.heap.size W0 W) => And.intro (v4.call h).c0 (And.intro (v4.call h).c1 (v4.call h).c2))
  have P0 := hid (fun (W : World) (h : Below W0.heap.size W0 W) => ar_rep S0 h)
  have K3 := hid (fun (W : World) (h : Below W0.heap.size W0 W) => Sl.call S3 h)
  have K4 := hid (fun (W : World) (h : Below W0.heap.size W0 W) => Sl.call S4 h)
  have hg4 := v4.lt
  clear v0 v4 S0 S3 S4
  refine (live7_any _).mono ?_
  rintro e w1 ⟨rfl, hb1⟩
  have HB := hb1
  clear hb1
  have k0 := C0.out _ HB
  go_wp2_with fail
  refine (refFewA_any _ x0 _ (P0.out _ HB)).mono ?_
  rintro e w2 ⟨rfl, hb2⟩
  replace HB := bel_call HB hb2
  clear hb2 k0
  cases f0 : fewA x0 with
  | false =>
    go_wp2
    go_ret
    exact ⟨rfl, bel_call hb0 HB⟩
  | true =>
  clear f0
  by_cases hbig : 16 < n3
  · have d1 : (16 : Int) < (n3 : Int) := by omega
    go_wp2
    go_ret
    exact ⟨rfl, bel_call hb0 HB⟩
  have d1 : decide ((16 : Int) < (n3 : Int)) = false := by simp; omega
  obtain ⟨m0, m1, m2⟩ := C4.out _ HB
  have HF := hid (fewK_any _ _ _ [x4] _ (sl_tok1 hR hT (K4.out _ HB) w2.heap.size rfl))
  rw [show fewK [x4] = decide (x4.L.length ≤ 20) from by simp [fewK]] at HF
  by_cases hfew : x4.L.length ≤ 20
  rotate_left
  · rw [decide_eq_false hfew] at HF
    go_wp2_with fail
    refine HF.out.mono ?_
    rintro e w3 ⟨rfl, hb3⟩
    go_wp2
    go_ret
    exact ⟨rfl, bel_call hb0 (bel_call (bel_alloc HB _) hb3)⟩
  rw [decide_eq_true hfew] at HF
  clear hfew
  go_wp2_with fail
  refine HF.out.mono ?_
  rintro e w3 ⟨rfl, hb3⟩
  replace HB := bel_call (bel_alloc HB _) hb3
  clear hb3 HF m0 m1 m2
  have k0 := C0.out _ HB
  have HBN := hid (bound_any _ x0 a1 a2 _ _ _ x3 w3 (P0.out _ HB) W1 W2 (K3.out _ HB))
  by_cases h1 : (bnS x0 a1 a2 x3).e = 0
  rotate_left
  · rw [decide_eq_false h1] at HBN
    generalize bnS x0 a1 a2 x3 = sx at *
    go_wp2_with fail
    refine HBN.out.mono ?_
    rintro e w4 ⟨A6, n6, c6, A7, n7, c7, rfl, hs6, hs7, hb4⟩
    go_wp2
    go_ret
    exact ⟨rfl, bel_call hb0 (bel_alloc (bel_alloc (bel_call HB hb4) _) _)⟩
  obtain ⟨i, hTk, hi, hlaw⟩ := right_laws h1 b1 HW3.out
  rw [decide_eq_true h1] at HBN
  simp only [hTk] at HBN
  have HLAW := hid hlaw
  clear hTk hlaw h1
  generalize bnS x0 a1 a2 x3 = sx at *
  have wI : (Lit.int .i64 (i : Int)).wf = true := wf_i64 (by omega)
  go_wp2_with fail
  refine HBN.out.mono ?_
  rintro e w4 ⟨A6, n6, c6, A7, n7, c7, rfl, hs6, hs7, hb4⟩
  replace HB := bel_call HB hb4
  clear hb4 k0 HBN
  have hba : Below w4.heap.size w4 ((w4.alloc (Obj.cells #[.slice A6 n6 c6] 24)).alloc (Obj.cells #[.int .u64 a1, .slice A7 n7 c7, .int .i64 i] 28)) := bel_alloc (bel_alloc (Below.refl _ _) _) _
  have v6 : Var1 ((w4.alloc (Obj.cells #[.slice A6 n6 c6] 24)).alloc (Obj.cells #[.int .u64 a1, .slice A7 n7 c7, .int .i64 i] 28)) w4.heap.size 24 (.slice A6 n6 c6) := heap_alloc2_old _ _ _
  have v7 : Var3 ((w4.alloc (Obj.cells #[.slice A6 n6 c6] 24)).alloc (Obj.cells #[.int .u64 a1, .slice A7 n7 c7, .int .i64 i] 28)) (w4.heap.size + 1) 28 (.int .u64 a1) (.slice A7 n7 c7) (.int .i64 i) := alloc2_new _ _ _
  have S6 := Sl.call hs6 hba
  have S7 := Sl.call hs7 hba
  replace HB := bel_call HB hba
  clear hba hs6 hs7
  obtain ⟨m0, m1, m2⟩ := C4.out _ HB
  have hsz4 : w4.heap.size + 1 < ((w4.alloc (Obj.cells #[.slice A6 n6 c6] 24)).alloc (Obj.cells #[.int .u64 a1, .slice A7 n7 c7, .int .i64 i] 28)).heap.size := by simp
  go_wp2_with fail
  generalize (w4.alloc (Obj.cells #[.slice A6 n6 c6] 24)).alloc (Obj.cells #[.int .u64 a1, .slice A7 n7 c7, .int .i64 i] 28) = W4 at *
  generalize w4.heap.size = gb at *
  have HBN := hid (bound_any _ sx.l x4.Root a5 _ _ _ x4.L W4 (ar_rep S6 (Below.refl _ _)) hR W5 (K4.out _ HB))
  have HW := Below.refl W4.heap.size W4
  clear m0 m1 m2
  obtain ⟨sy, hsy⟩ : ∃ z, bnS sx.l x4.Root a5 x4.L = z := ⟨_, rfl⟩
  rw [hsy] at HBN
  have HSY := hid hsy
  clear hsy
  refine HBN.out.mono ?_
  rintro e w5 ⟨A8, n8, c8, A9, n9, c9, rfl, hs8, hs9, hb5⟩
  replace HB := bel_call HB hb5
  replace HW := bel_call HW hb5
  have hs6 := Sl.call S6 hb5
  have hs7 := Sl.call S7 hb5
  clear hb5 HBN hs9 S6 S7
  by_cases h2 : sy.e = 0
  · skip
    rw [decide_eq_true h2]
    have HLW := hid (HLAW.out sy.l (.inr ⟨x4.Root, a5, x4.L, by rw [HSY.out]; exact h2, by rw [HSY.out]⟩))
    clear h2 HSY HLAW
    have hba : Below w5.heap.size w5 (((w5.alloc (Obj.cells #[.slice A8 n8 c8] 24)).alloc (Obj.cells #[.int .u64 sy.t.Root, .slice A9 n9 c9, .int .i64 sy.t.Tag] 28))) := bel_alloc (bel_alloc (Below.refl _ _) _) _
    have v8 : Var1 ((w5.alloc (Obj.cells #[.slice A8 n8 c8] 24)).alloc (Obj.cells #[.int .u64 sy.t.Root, .slice A9 n9 c9, .int .i64 sy.t.Tag] 28)) w5.heap.size 24 (.slice A8 n8 c8) := heap_alloc2_old _ _ _
    have S8 := Sl.call hs8 hba
    have S7 := Sl.call hs7 hba
    replace HB := bel_call HB hba
    replace HW := bel_call HW hba
    have v7' := v7.call HW
    clear hba hs8 hs6 hs7 v6 v7
    go_upto_region 11 with (fail)
    generalize ((w5.alloc (Obj.cells #[.slice A8 n8 c8] 24)).alloc (Obj.cells #[.int .u64 sy.t.Root, .slice A9 n9 c9, .int .i64 sy.t.Tag] 28)) = WC at *
    generalize w5.heap.size = gc at *

    have PC := hid (fun (W : World) (h : Below WC.heap.size WC W) => ar_rep S8 h)
    have QC := hid (fun (W : World) (h : Below WC.heap.size WC W) => (v8.call h).c0)
    have QU := hid (fun (W : World) (h : Below WC.heap.size WC W) => And.intro (v7'.call h).c0 (And.intro (v7'.call h).c1 (v7'.call h).c2))
    have Q4 := hid (fun (W : World) (h : Below WC.heap.size WC W) => C4.out W (bel_call HB h))
    have K7 := hid (fun (W : World) (h : Below WC.heap.size WC W) => Sl.call S7 h)
    have K3' := hid (fun (W : World) (h : Below WC.heap.size WC W) => K3.out W (bel_call HB h))
    have K4' := hid (fun (W : World) (h : Below WC.heap.size WC W) => K4.out W (bel_call HB h))
    have HV := Below.refl WC.heap.size WC
    have hg7 := v7'.lt
    have hg8 := v8.lt
    clear v8 v7' S8 S7 HW
    obtain ⟨E0, E1, E2, E3⟩ := HLW.out
    have V0 := hid (fun W h => tVerify_any _ _ sy.l a2 ⟨a1, x3, i⟩ W (PC.out W h) W2 (tk_rep (K7.out W h) (Below.refl _ _) W1 wI))
    have V1 := hid (fun W h => tVerify_any _ _ sy.l a5 ⟨a1, x3, i⟩ W (PC.out W h) W5 (tk_rep (K7.out W h) (Below.refl _ _) W1 wI))
    rw [E0, E1 a2, show (a2 == a2) = true by simp] at V0
    rw [E0, E1 a5] at V1
    have V2 := hid (fun W h => tVerify_any _ _ sy.l a2 ⟨x4.Root, x4.L, i⟩ W (PC.out W h) W2 (tk_rep (K4'.out W h) (Below.refl _ _) hR wI))
    have V3 := hid (fun W h => tVerify_any _ _ sy.l a2 ⟨a1, x3, x4.Tag⟩ W (PC.out W h) W2 (tk_rep (K7.out W h) (Below.refl _ _) W1 hT))
    have F2 := hid (E2 x4 bR HW4.out)
    have F3 := hid (E3 x4.Tag)
    have D0 := hid (fun W h => refSameCavs_any _ _ _ _ _ _ (· < W.heap.size) x3 x3 W (K7.out W h) (K3'.out W h))
    rw [decide_eq_true (rfl : x3 = x3)] at D0
    have D1 := hid (fun W h => refSameCavs_any _ _ _ _ _ _ (· < W.heap.size) x4.L x3 W (K4'.out W h) (K3'.out W h))
    clear E0 E1 E2 E3 HLW K4' PC
    generalize vfE sy.l ⟨x4.Root, x4.L, i⟩ = fe at *
    generalize vfV sy.l a2 ⟨x4.Root, x4.L, i⟩ = fv at *
    generalize vfE sy.l ⟨a1, x3, x4.Tag⟩ = me at *
    generalize vfV sy.l a2 ⟨a1, x3, x4.Tag⟩ = mv at *
    obtain ⟨qk, hqk⟩ : ∃ z, (a5 == a2) = z := ⟨_, rfl⟩
    have hqq : (qk != qk) = false := by cases qk <;> rfl
    have ha1 : (a1 != a1) = false := by simp
    rw [hqk] at V1
    have j0 := QC.out _ HV
    obtain ⟨j1, j2, j3⟩ := QU.out _ HV
    go_wp2_with fail
    refine (V0.out _ HV).mono ?_
    rintro e w6 ⟨rfl, hb6⟩
    replace HV := bel_call HV hb6
    clear j0 j1 j2 j3
    have j0 := QC.out _ HV
    obtain ⟨j1, j2, j3⟩ := QU.out _ HV
    clear hb6
    go_wp2_with fail
    refine (V1.out _ HV).mono ?_
    rintro e w7 ⟨rfl, hb7⟩
    replace HV := bel_call HV hb7
    clear hb7 j0 j1 j2 j3
    obtain ⟨j1, j2, j3⟩ := QU.out _ HV
    go_wp2_with fail
    refine (D0.out _ HV).mono ?_
    rintro e w8 ⟨rfl, m8, rfl⟩
    have hb8 : Below w7.heap.size w7 (w7.drewN m8) := bel_drewN (Below.refl _ _) _
    replace HV := bel_call HV hb8
    clear hb8 j1 j2 j3
    have j0 := QC.out _ HV
    obtain ⟨j1, j2, j3⟩ := QU.out _ HV
    obtain ⟨t1, t2, t3⟩ := Q4.out _ HV
    go_wp2_with fail
    generalize w7.drewN m8 = W7 at *
    refine (V2.out _ HV).mono ?_
    rintro e w9 ⟨rfl, hb9⟩
    replace HV := bel_call HV hb9
    clear hb9 j0 j1 j2 j3 t1 t2 t3 V0 V1 V2 D0
    have j0 := QC.out _ HV
    obtain ⟨j1, j2, j3⟩ := QU.out _ HV
    obtain ⟨t1, t2, t3⟩ := Q4.out _ HV
    have HEND : Hid (me = 0 → mv = (x4.Tag == (i : Int))) := F3
    by_cases hfe : fe = 0
    · subst hfe
      have hfv := F2.out rfl
      by_cases hq1 : x4.Root = a1
      · have d1 : (x4.Root == a1) = true := by simpa using hq1
        rw [d1, Bool.true_and] at hfv
        clear hq1 F2
        obtain ⟨ql, hql⟩ : ∃ z, decide (x4.L = x3) = z := ⟨_, rfl⟩
        rw [hql] at D1 hfv
        subst hfv
        clear hql
        have hqq2 : (fv != fv) = false := by cases fv <;> rfl
        go_wp2_with fail
        refine (D1.out _ HV).mono ?_
        rintro e wA ⟨rfl, mA, rfl⟩
        have hbA : Below w9.heap.size w9 (w9.drewN mA) := bel_drewN (Below.refl _ _) _
        replace HV := bel_call HV hbA
        clear hbA j0 j1 j2 j3 t1 t2 t3
        have j0 := QC.out _ HV
        obtain ⟨j1, j2, j3⟩ := QU.out _ HV
        obtain ⟨t1, t2, t3⟩ := Q4.out _ HV
        go_wp2_with fail
        generalize w9.drewN mA = W9 at *
        refine (V3.out _ HV).mono ?_
        rintro e wB ⟨rfl, hbB⟩
        replace HV := bel_call HV hbB
        clear hbB j0 j1 j2 j3 t1 t2 t3
        obtain ⟨j1, j2, j3⟩ := QU.out _ HV
        obtain ⟨t1, t2, t3⟩ := Q4.out _ HV
        by_cases hme : me = 0
        · subst hme
          have hmv := HEND.out rfl
          clear HEND F3
          generalize hqt : (x4.Tag == (i : Int)) = qt at *
          subst hmv
          have hqq3 : (mv == mv) = true := by cases mv <;> rfl
          go_wp2
          go_ret
          exact ⟨rfl, bel_call hb0 (bel_call HB HV)⟩
        · have d2 : (me != 0) = true := by simpa using hme
          clear hme HEND F3
          go_wp2
          go_ret
          exact ⟨rfl, bel_call hb0 (bel_call HB HV)⟩
      · have d1 : (x4.Root == a1) = false := by simpa using hq1
        rw [d1, Bool.false_and] at hfv
        subst hfv
        clear hq1 F2 D1
        go_wp2_with fail
        generalize w9 = W9 at *
        refine (V3.out _ HV).mono ?_
        rintro e wB ⟨rfl, hbB⟩
        replace HV := bel_call HV hbB
        clear hbB j0 j1 j2 j3 t1 t2 t3
        obtain ⟨j1, j2, j3⟩ := QU.out _ HV
        obtain ⟨t1, t2, t3⟩ := Q4.out _ HV
        by_cases hme : me = 0
        · subst hme
          have hmv := HEND.out rfl
          clear HEND F3
          generalize hqt : (x4.Tag == (i : Int)) = qt at *
          subst hmv
          have hqq3 : (mv == mv) = true := by cases mv <;> rfl
          go_wp2
          go_ret
          exact ⟨rfl, bel_call hb0 (bel_call HB HV)⟩
        · have d2 : (me != 0) = true := by simpa using hme
          clear hme HEND F3
          go_wp2
          go_ret
          exact ⟨rfl, bel_call hb0 (bel_call HB HV)⟩
    · have d0 : (fe == 0) = false := by simpa using hfe
      clear hfe F2 D1
      go_wp2_with fail
      generalize w9 = W9 at *
      refine (V3.out _ HV).mono ?_
      rintro e wB ⟨rfl, hbB⟩
      replace HV := bel_call HV hbB
      clear hbB j0 j1 j2 j3 t1 t2 t3
      obtain ⟨j1, j2, j3⟩ := QU.out _ HV
      obtain ⟨t1, t2, t3⟩ := Q4.out _ HV
      by_cases hme : me = 0
      · subst hme
        have hmv := HEND.out rfl
        clear HEND F3
        generalize hqt : (x4.Tag == (i : Int)) = qt at *
        subst hmv
        have hqq3 : (mv == mv) = true := by cases mv <;> rfl
        go_wp2
        go_ret
        exact ⟨rfl, bel_call hb0 (bel_call HB HV)⟩
      · have d2 : (me != 0) = true := by simpa using hme
        clear hme HEND F3
        go_wp2
        go_ret
        exact ⟨rfl, bel_call hb0 (bel_call HB HV)⟩
  · skip
    rw [decide_eq_false h2]
    have HLW := hid (HLAW.out sx.l (.inl rfl))
    clear h2 HSY HLAW
    have hba : Below w5.heap.size w5 (((w5.alloc (Obj.cells #[.slice A6 n6 c6] 24)).alloc (Obj.cells #[.int .u64 sy.t.Root, .slice A9 n9 c9, .int .i64 sy.t.Tag] 28))) := bel_alloc (bel_alloc (Below.refl _ _) _) _
    have v8 : Var1 ((w5.alloc (Obj.cells #[.slice A6 n6 c6] 24)).alloc (Obj.cells #[.int .u64 sy.t.Root, .slice A9 n9 c9, .int .i64 sy.t.Tag] 28)) w5.heap.size 24 (.slice A6 n6 c6) := heap_alloc2_old _ _ _
    have S8 := Sl.call hs6 hba
    have S7 := Sl.call hs7 hba
    have z0 := (v6.call (bel_call HW (bel_alloc (bel_alloc (Below.refl w5.heap.size w5) (Obj.cells #[.slice A8 n8 c8] 24)) (Obj.cells #[.int .u64 sy.t.Root, .slice A9 n9 c9, .int .i64 sy.t.Tag] 28)))).c0
    replace HB := bel_call HB hba
    replace HW := bel_call HW hba
    have v7' := v7.call HW
    clear hba hs8 hs6 hs7 v6 v7
    go_upto_region 11 with (fail)
    generalize ((w5.alloc (Obj.cells #[.slice A6 n6 c6] 24)).alloc (Obj.cells #[.int .u64 sy.t.Root, .slice A9 n9 c9, .int .i64 sy.t.Tag] 28)) = WC at *
    generalize w5.heap.size = gc at *
    clear z0
    have PC := hid (fun (W : World) (h : Below WC.heap.size WC W) => ar_rep S8 h)
    have QC := hid (fun (W : World) (h : Below WC.heap.size WC W) => (v8.call h).c0)
    have QU := hid (fun (W : World) (h : Below WC.heap.size WC W) => And.intro (v7'.call h).c0 (And.intro (v7'.call h).c1 (v7'.call h).c2))
    have Q4 := hid (fun (W : World) (h : Below WC.heap.size WC W) => C4.out W (bel_call HB h))
    have K7 := hid (fun (W : World) (h : Below WC.heap.size WC W) => Sl.call S7 h)
    have K3' := hid (fun (W : World) (h : Below WC.heap.size WC W) => K3.out W (bel_call HB h))
    have K4' := hid (fun (W : World) (h : Below WC.heap.size WC W) => K4.out W (bel_call HB h))
    have HV := Below.refl WC.heap.size WC
    have hg7 := v7'.lt
    have hg8 := v8.lt
    clear v8 v7' S8 S7 HW
    obtain ⟨E0, E1, E2, E3⟩ := HLW.out
    have V0 := hid (fun W h => tVerify_any _ _ sx.l a2 ⟨a1, x3, i⟩ W (PC.out W h) W2 (tk_rep (K7.out W h) (Below.refl _ _) W1 wI))
    have V1 := hid (fun W h => tVerify_any _ _ sx.l a5 ⟨a1, x3, i⟩ W (PC.out W h) W5 (tk_rep (K7.out W h) (Below.refl _ _) W1 wI))
    rw [E0, E1 a2, show (a2 == a2) = true by simp] at V0
    rw [E0, E1 a5] at V1
    have V2 := hid (fun W h => tVerify_any _ _ sx.l a2 ⟨x4.Root, x4.L, i⟩ W (PC.out W h) W2 (tk_rep (K4'.out W h) (Below.refl _ _) hR wI))
    have V3 := hid (fun W h => tVerify_any _ _ sx.l a2 ⟨a1, x3, x4.Tag⟩ W (PC.out W h) W2 (tk_rep (K7.out W h) (Below.refl _ _) W1 hT))
    have F2 := hid (E2 x4 bR HW4.out)
    have F3 := hid (E3 x4.Tag)
    have D0 := hid (fun W h => refSameCavs_any _ _ _ _ _ _ (· < W.heap.size) x3 x3 W (K7.out W h) (K3'.out W h))
    rw [decide_eq_true (rfl : x3 = x3)] at D0
    have D1 := hid (fun W h => refSameCavs_any _ _ _ _ _ _ (· < W.heap.size) x4.L x3 W (K4'.out W h) (K3'.out W h))
    clear E0 E1 E2 E3 HLW K4' PC
    generalize vfE sx.l ⟨x4.Root, x4.L, i⟩ = fe at *
    generalize vfV sx.l a2 ⟨x4.Root, x4.L, i⟩ = fv at *
    generalize vfE sx.l ⟨a1, x3, x4.Tag⟩ = me at *
    generalize vfV sx.l a2 ⟨a1, x3, x4.Tag⟩ = mv at *
    obtain ⟨qk, hqk⟩ : ∃ z, (a5 == a2) = z := ⟨_, rfl⟩
    have hqq : (qk != qk) = false := by cases qk <;> rfl
    have ha1 : (a1 != a1) = false := by simp
    rw [hqk] at V1
    have j0 := QC.out _ HV
    obtain ⟨j1, j2, j3⟩ := QU.out _ HV
    go_wp2_with fail
    refine (V0.out _ HV).mono ?_
    rintro e w6 ⟨rfl, hb6⟩
    replace HV := bel_call HV hb6
    clear j0 j1 j2 j3
    have j0 := QC.out _ HV
    obtain ⟨j1, j2, j3⟩ := QU.out _ HV
    clear hb6
    go_wp2_with fail
    refine (V1.out _ HV).mono ?_
    rintro e w7 ⟨rfl, hb7⟩
    replace HV := bel_call HV hb7
    clear hb7 j0 j1 j2 j3
    obtain ⟨j1, j2, j3⟩ := QU.out _ HV
    go_wp2_with fail
    refine (D0.out _ HV).mono ?_
    rintro e w8 ⟨rfl, m8, rfl⟩
    have hb8 : Below w7.heap.size w7 (w7.drewN m8) := bel_drewN (Below.refl _ _) _
    replace HV := bel_call HV hb8
    clear hb8 j1 j2 j3
    have j0 := QC.out _ HV
    obtain ⟨j1, j2, j3⟩ := QU.out _ HV
    obtain ⟨t1, t2, t3⟩ := Q4.out _ HV
    go_wp2_with fail
    generalize w7.drewN m8 = W7 at *
    refine (V2.out _ HV).mono ?_
    rintro e w9 ⟨rfl, hb9⟩
    replace HV := bel_call HV hb9
    clear hb9 j0 j1 j2 j3 t1 t2 t3 V0 V1 V2 D0
    have j0 := QC.out _ HV
    obtain ⟨j1, j2, j3⟩ := QU.out _ HV
    obtain ⟨t1, t2, t3⟩ := Q4.out _ HV
    have HEND : Hid (me = 0 → mv = (x4.Tag == (i : Int))) := F3
    by_cases hfe : fe = 0
    · subst hfe
      have hfv := F2.out rfl
      by_cases hq1 : x4.Root = a1
      · have d1 : (x4.Root == a1) = true := by simpa using hq1
        rw [d1, Bool.true_and] at hfv
        clear hq1 F2
        obtain ⟨ql, hql⟩ : ∃ z, decide (x4.L = x3) = z := ⟨_, rfl⟩
        rw [hql] at D1 hfv
        subst hfv
        clear hql
        have hqq2 : (fv != fv) = false := by cases fv <;> rfl
        go_wp2_with fail
        refine (D1.out _ HV).mono ?_
        rintro e wA ⟨rfl, mA, rfl⟩
        have hbA : Below w9.heap.size w9 (w9.drewN mA) := bel_drewN (Below.refl _ _) _
        replace HV := bel_call HV hbA
        clear hbA j0 j1 j2 j3 t1 t2 t3
        have j0 := QC.out _ HV
        obtain ⟨j1, j2, j3⟩ := QU.out _ HV
        obtain ⟨t1, t2, t3⟩ := Q4.out _ HV
        go_wp2_with fail
        generalize w9.drewN mA = W9 at *
        refine (V3.out _ HV).mono ?_
        rintro e wB ⟨rfl, hbB⟩
        replace HV := bel_call HV hbB
        clear hbB j0 j1 j2 j3 t1 t2 t3
        obtain ⟨j1, j2, j3⟩ := QU.out _ HV
        obtain ⟨t1, t2, t3⟩ := Q4.out _ HV
        by_cases hme : me = 0
        · subst hme
          have hmv := HEND.out rfl
          clear HEND F3
          generalize hqt : (x4.Tag == (i : Int)) = qt at *
          subst hmv
          have hqq3 : (mv == mv) = true := by cases mv <;> rfl
          go_wp2
          go_ret
          exact ⟨rfl, bel_call hb0 (bel_call HB HV)⟩
        · have d2 : (me != 0) = true := by simpa using hme
          clear hme HEND F3
          go_wp2
          go_ret
          exact ⟨rfl, bel_call hb0 (bel_call HB HV)⟩
      · have d1 : (x4.Root == a1) = false := by simpa using hq1
        rw [d1, Bool.false_and] at hfv
        subst hfv
        clear hq1 F2 D1
        go_wp2_with fail
        generalize w9 = W9 at *
        refine (V3.out _ HV).mono ?_
        rintro e wB ⟨rfl, hbB⟩
        replace HV := bel_call HV hbB
        clear hbB j0 j1 j2 j3 t1 t2 t3
        obtain ⟨j1, j2, j3⟩ := QU.out _ HV
        obtain ⟨t1, t2, t3⟩ := Q4.out _ HV
        by_cases hme : me = 0
        · subst hme
          have hmv := HEND.out rfl
          clear HEND F3
          generalize hqt : (x4.Tag == (i : Int)) = qt at *
          subst hmv
          have hqq3 : (mv == mv) = true := by cases mv <;> rfl
          go_wp2
          go_ret
          exact ⟨rfl, bel_call hb0 (bel_call HB HV)⟩
        · have d2 : (me != 0) = true := by simpa using hme
          clear hme HEND F3
          go_wp2
          go_ret
          exact ⟨rfl, bel_call hb0 (bel_call HB HV)⟩
    · have d0 : (fe == 0) = false := by simpa using hfe
      clear hfe F2 D1
      go_wp2_with fail
      generalize w9 = W9 at *
      refine (V3.out _ HV).mono ?_
      rintro e wB ⟨rfl, hbB⟩
      replace HV := bel_call HV hbB
      clear hbB j0 j1 j2 j3 t1 t2 t3
      obtain ⟨j1, j2, j3⟩ := QU.out _ HV
      obtain ⟨t1, t2, t3⟩ := Q4.out _ HV
      by_cases hme : me = 0
      · subst hme
        have hmv := HEND.out rfl
        clear HEND F3
        generalize hqt : (x4.Tag == (i : Int)) = qt at *
        subst hmv
        have hqq3 : (mv == mv) = true := by cases mv <;> rfl
        go_wp2
        go_ret
        exact ⟨rfl, bel_call hb0 (bel_call HB HV)⟩
      · have d2 : (me != 0) = true := by simpa using hme
        clear hme HEND F3
        go_wp2
        go_ret
        exact ⟨rfl, bel_call hb0 (bel_call HB HV)⟩
end Go.Proofs.Ytgiapfenalhleaa
