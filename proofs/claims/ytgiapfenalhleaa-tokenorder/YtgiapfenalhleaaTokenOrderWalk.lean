/-
  The walk of TokenOrder.
-/
import Derived.Test.YtgiapfenalhleaaTokenBackWalk
import Derived.Test.YtgiapfenalhleaaPackAr2
import Derived.Test.YtgiapfenalhleaaCaveatEq
namespace Go.Proofs.Ytgiapfenalhleaa
open Go.RowKit Go.WalkArith

theorem fewA_len7 {l : List Trm} (h : fewA l = true) : l.length ≤ 80 := by
  simp only [fewA, Bool.and_eq_true, decide_eq_true_eq] at h
  omega
theorem stepB_e {s : Bn} {c : Cav} (h : (stepB s c).e = 0) : s.e = 0 := by
  by_cases h0 : s.e = 0
  · exact h0
  · unfold stepB at h
    rw [if_neg h0] at h
    exact h
/-- Step by step. -/
theorem two_steps {Y : List Trm} {root key : Int} {c d : Cav} {T : Tok} (h : bnS Y root key [c, d] = ⟨Y, T, 0⟩) : ∃ (L0 L1 : List Trm) (T0 T1 : Tok), mtE Y root key = 0 ∧ mtL Y root key = L0 ∧ mtT Y root key = T0 ∧ bdE L0 T0 c = 0 ∧ bdL L0 T0 c = L1 ∧ bdT L0 T0 c = T1 ∧ bdE L1 T1 d = 0 ∧ bdL L1 T1 d = Y ∧ bdT L1 T1 d = T ∧
    T0.Root = root ∧ (0 ≤ T0.Tag ∧ T0.Tag < 1048576) ∧ T1.Root = root ∧ (0 ≤ T1.Tag ∧ T1.Tag < 1048576) := by
  have e2 : bnS Y root key [c, d] = stepB (bnS Y root key [c]) d := bnS_snoc Y root key [c] d
  have e1 : bnS Y root key [c] = stepB (bnS Y root key []) c := bnS_snoc Y root key [] c
  have h2 : (bnS Y root key [c, d]).e = 0 := by rw [h]
  have h1 : (bnS Y root key [c]).e = 0 := by rw [e2] at h2; exact stepB_e h2
  have h0 : (bnS Y root key []).e = 0 := by rw [e1] at h1; exact stepB_e h1
  have w0 := bn_wf h0
  have w1 := bn_wf h1
  have s1 : bnS Y root key [c] = ⟨bdL (bnS Y root key []).l (bnS Y root key []).t c, bdT (bnS Y root key []).l (bnS Y root key []).t c, bdE (bnS Y root key []).l (bnS Y root key []).t c⟩ := by rw [e1]; exact if_pos h0
  have s2 : bnS Y root key [c, d] = ⟨bdL (bnS Y root key [c]).l (bnS Y root key [c]).t d, bdT (bnS Y root key [c]).l (bnS Y root key [c]).t d, bdE (bnS Y root key [c]).l (bnS Y root key [c]).t d⟩ := by rw [e2]; exact if_pos h1
  rw [h] at s2
  injection s2 with g1 g2 g3
  exact ⟨_, (bnS Y root key [c]).l, _, (bnS Y root key [c]).t, h0, rfl, rfl, by rw [s1] at h1; exact h1, (congrArg Bn.l s1).symm, (congrArg Bn.t s1).symm, g3.symm, g1.symm, g2.symm, w0.1, w0.2, w1.1, w1.2⟩
theorem order_eqs {root : Int} {c d : Cav} {i j : Nat} (h : i = j ↔ c = d) : decide ((⟨root, [c, d], i⟩ : Tok) = ⟨root, [d, c], j⟩) = decide (c = d) ∧ ((i : Int) == (j : Int)) = decide (c = d) := by
  constructor
  · rw [decide_eq_decide]
    constructor
    · intro e
      injection e with _ e2 _
      injection e2
    · intro e
      have := h.2 e
      subst this
      subst e
      rfl
  · rw [Bool.eq_iff_iff, decide_eq_true_iff, ← h]
    simp only [beq_iff_eq]
    omega
theorem sl_two {w : World} {c d : Cav} (hc : CavWf c) (hd : CavWf d) (e : TypeId) (b : Nat) (hb : b = w.heap.size) : Sl lay_Caveat (w.alloc (Obj.cells #[.int .i64 c.Kind, .int .u64 c.A, .int .u64 c.B, .int .i64 d.Kind, .int .u64 d.A, .int .u64 d.B] e)) (· < (w.alloc (Obj.cells #[.int .i64 c.Kind, .int .u64 c.A, .int .u64 c.B, .int .i64 d.Kind, .int .u64 d.A, .int .u64 d.B] e)).heap.size) (some ⟨b, 0, none⟩) 2 2 [c, d] := by
  subst hb
  refine ⟨rfl, Nat.le_refl _, by simp [maxLen], by simp, fun _ => ⟨w.heap.size, 0, [.int .i64 c.Kind, .int .u64 c.A, .int .u64 c.B, .int .i64 d.Kind, .int .u64 d.A, .int .u64 d.B], rfl, by simp, ⟨[_, _, _], [_, _, _], rfl, rep_Caveat.2 ⟨rfl, hc⟩, [_, _, _], [], rfl, rep_Caveat.2 ⟨rfl, hd⟩, rfl⟩, fun i v hv => ?_⟩⟩
  rw [Nat.zero_add, World.cell?_alloc_at _ _ _ _ rfl]
  simpa using hv
theorem Sl.fromAll {α : Type} {L : Lay α} {w : World} {l : Nat} {A : Option Addr} {n c : Nat} {xs : List α} (h : Sl L w (From w l) A n c xs) : Sl L w (· < w.heap.size) A n c xs := h.wide fun _ hb => hb.2.1

set_option maxRecDepth 100000 in
set_option maxHeartbeats 16000000 in
theorem tokenOrder_walk (s0 : Array Value) (x0 : List Trm) (a1 a2 : Int) (s3 : Array Value) (x3 : Cav) (s4 : Array Value) (x4 : Cav) (w : World) (r0 : lay_Arena.rep w (· < w.heap.size) x0 s0.toList) (b1 : 0 ≤ a1 ∧ a1 ≤ 18446744073709551615) (b2 : 0 ≤ a2 ∧ a2 ≤ 18446744073709551615) (r3 : lay_Caveat.rep w (· < w.heap.size) x3 s3.toList) (r4 : lay_Caveat.rep w (· < w.heap.size) x4 s4.toList) :
    Calls Try.prog 8 #[.agg s0, .int .u64 a1, .int .u64 a2, .agg s3, .agg s4] w fun e w' => e = .returned (.bool true) ∧ Below w.heap.size w w' := by
  obtain ⟨A0, n0, c0, rfl, h0⟩ := agg_Arena r0
  obtain ⟨rfl, h3⟩ := agg_Caveat r3
  obtain ⟨rfl, h4⟩ := agg_Caveat r4
  clear r0 r3 r4
  have W1 := wf_u64 b1
  have W2 := wf_u64 b2
  have hb0 : Below w.heap.size w (((w.alloc (Obj.cells #[.slice A0 n0 c0] 24)).alloc (Obj.cells #[.int .i64 x3.Kind, .int .u64 x3.A, .int .u64 x3.B] 30)).alloc (Obj.cells #[.int .i64 x4.Kind, .int .u64 x4.A, .int .u64 x4.B] 30)) := bel_alloc (bel_alloc (bel_alloc (Below.refl _ _) _) _) _
  have v0 : Var1 (((w.alloc (Obj.cells #[.slice A0 n0 c0] 24)).alloc (Obj.cells #[.int .i64 x3.Kind, .int .u64 x3.A, .int .u64 x3.B] 30)).alloc (Obj.cells #[.int .i64 x4.Kind, .int .u64 x4.A, .int .u64 x4.B] 30)) w.heap.size 24 (.slice A0 n0 c0) := three_vars.1
  have v3 : Var3 (((w.alloc (Obj.cells #[.slice A0 n0 c0] 24)).alloc (Obj.cells #[.int .i64 x3.Kind, .int .u64 x3.A, .int .u64 x3.B] 30)).alloc (Obj.cells #[.int .i64 x4.Kind, .int .u64 x4.A, .int .u64 x4.B] 30)) (w.heap.size + 1) 30 (.int .i64 x3.Kind) (.int .u64 x3.A) (.int .u64 x3.B) := three_vars.2.1
  have v4 : Var3 (((w.alloc (Obj.cells #[.slice A0 n0 c0] 24)).alloc (Obj.cells #[.int .i64 x3.Kind, .int .u64 x3.A, .int .u64 x3.B] 30)).alloc (Obj.cells #[.int .i64 x4.Kind, .int .u64 x4.A, .int .u64 x4.B] 30)) (w.heap.size + 1 + 1) 30 (.int .i64 x4.Kind) (.int .u64 x4.A) (.int .u64 x4.B) := three_vars.2.2
  have S0 := Sl.call h0 hb0
  have HEQ := run_eqCav h3 h4
  clear h0
  go_enter Try.func8, Try.ntmps8
  go_wp2_with fail
  generalize ((w.alloc (Obj.cells #[.slice A0 n0 c0] 24)).alloc (Obj.cells #[.int .i64 x3.Kind, .int .u64 x3.A, .int .u64 x3.B] 30)).alloc (Obj.cells #[.int .i64 x4.Kind, .int .u64 x4.A, .int .u64 x4.B] 30) = W0 at *
  have C0 := hid (fun (W : World) (h : Below W0.heap.size W0 W) => (v0.call h).c0)
  have C3 := hid (fun (W : World) (h : Below W0.heap.size W0 W) => And.intro (v3.call h).c0 (And.intro (v3.call h).c1 (v3.call h).c2))
  have C4 := hid (fun (W : World) (h : Below W0.heap.size W0 W) => And.intro (v4.call h).c0 (And.intro (v4.call h).c1 (v4.call h).c2))
  have P0 := hid (fun (W : World) (h : Below W0.heap.size W0 W) => ar_rep S0 h)
  have hg4 := v4.lt
  clear v0 v3 v4 S0
  refine (live7_any _).mono ?_
  rintro e w1 ⟨rfl, hb1⟩
  have HB := hb1
  clear hb1
  have k0 := C0.out _ HB
  go_wp2_with fail
  refine (refFewA_any _ x0 _ (P0.out _ HB)).mono ?_
  rintro e w2 ⟨rfl, hb2⟩
  replace HB := bel_call HB hb2
  clear hb2 k0
  cases f0 : fewA x0 with
  | false =>
    go_wp2
    go_ret
    exact ⟨rfl, bel_call hb0 HB⟩
  | true =>
  have hlen := fewA_len7 f0
  clear f0
  have k0 := C0.out _ HB
  obtain ⟨k1, k2, k3⟩ := C3.out _ HB
  obtain ⟨k4, k5, k6⟩ := C4.out _ HB
  have hbx := bel_alloc (Below.refl w2.heap.size w2) (Obj.cells #[.int .i64 x3.Kind, .int .u64 x3.A, .int .u64 x3.B, .int .i64 x4.Kind, .int .u64 x4.A, .int .u64 x4.B] 30)
  have HBN := hid (bound_any _ x0 a1 a2 _ _ _ [x3, x4] _ (P0.out _ (bel_call HB hbx)) W1 W2 (sl_two h3 h4 30 w2.heap.size rfl))
  by_cases h1 : (bnS x0 a1 a2 [x3, x4]).e = 0
  rotate_left
  · rw [decide_eq_false h1] at HBN
    generalize bnS x0 a1 a2 [x3, x4] = sx at *
    go_wp2_with fail
    refine HBN.out.mono ?_
    rintro e w4 ⟨A6, n6, c6, A7, n7, c7, rfl, hs6, hs7, hb4⟩
    go_wp2
    go_ret
    exact ⟨rfl, bel_call hb0 (bel_alloc (bel_alloc (bel_call (bel_call HB hbx) hb4) _) _)⟩
  obtain ⟨i, j, Y, e1, e2, e3, e4, hi, hj⟩ := order h3 h4 hlen h1
  obtain ⟨L0, L1, T0, T1, m1, m2, m3, m4, m5, m6, m7, m8, m9, m10, m11, m12, m13⟩ := two_steps e3
  obtain ⟨oe1, oe2⟩ := order_eqs (root := a1) e4
  rw [decide_eq_true h1] at HBN
  simp only [e1] at HBN
  have E2 := hid e2
  have M1 := hid m1
  have M2 := hid m2
  have M3 := hid m3
  have M4 := hid m4
  have M5 := hid m5
  have M6 := hid m6
  have M7 := hid m7
  have M8 := hid m8
  have M9 := hid m9
  have OE1 := hid oe1
  have OE2 := hid oe2
  have wI : (Lit.int .i64 (i : Int)).wf = true := wf_i64 (by omega)
  have wJ : (Lit.int .i64 (j : Int)).wf = true := wf_i64 (by omega)
  have wT0 : (Lit.int .i64 T0.Tag).wf = true := wf_i64 (by omega)
  have wT1 : (Lit.int .i64 T1.Tag).wf = true := wf_i64 (by omega)
  have wR0 : (Lit.int .u64 T0.Root).wf = true := by rw [m10]; exact W1
  have wR1 : (Lit.int .u64 T1.Root).wf = true := by rw [m12]; exact W1
  clear e1 e2 e3 e4 h1 m1 m2 m3 m4 m5 m6 m7 m8 m9 m10 m11 m12 m13 oe1 oe2 hi hj
  generalize bnS x0 a1 a2 [x3, x4] = sx at *
  go_wp2_with fail
  refine HBN.out.mono ?_
  rintro e w4 ⟨A6, n6, c6, A7, n7, c7, rfl, hs6, hs7, hb4⟩
  replace HB := bel_call (bel_call HB hbx) hb4
  clear hb4 k0 k1 k2 k3 k4 k5 k6 HBN hbx
  have hba : Below w4.heap.size w4 ((w4.alloc (Obj.cells #[.slice A6 n6 c6] 24)).alloc (Obj.cells #[.int .u64 a1, .slice A7 n7 c7, .int .i64 i] 28)) := bel_alloc (bel_alloc (Below.refl _ _) _) _
  have v6 : Var1 ((w4.alloc (Obj.cells #[.slice A6 n6 c6] 24)).alloc (Obj.cells #[.int .u64 a1, .slice A7 n7 c7, .int .i64 i] 28)) w4.heap.size 24 (.slice A6 n6 c6) := heap_alloc2_old _ _ _
  have v7 : Var3 ((w4.alloc (Obj.cells #[.slice A6 n6 c6] 24)).alloc (Obj.cells #[.int .u64 a1, .slice A7 n7 c7, .int .i64 i] 28)) (w4.heap.size + 1) 28 (.int .u64 a1) (.slice A7 n7 c7) (.int .i64 i) := alloc2_new _ _ _
  have S6 := Sl.call hs6 hba
  have S7 := Sl.call hs7 hba
  replace HB := bel_call HB hba
  clear hba hs6 hs7
  go_upto_region 8 with (fail)
  generalize (w4.alloc (Obj.cells #[.slice A6 n6 c6] 24)).alloc (Obj.cells #[.int .u64 a1, .slice A7 n7 c7, .int .i64 i] 28) = W4 at *
  generalize w4.heap.size = gx at *
  obtain ⟨k1, k2, k3⟩ := C3.out _ HB
  obtain ⟨k4, k5, k6⟩ := C4.out _ HB
  have k0 := v6.c0
  have hg7 := v7.lt
  have hbx := bel_alloc (Below.refl W4.heap.size W4) (Obj.cells #[.int .i64 x4.Kind, .int .u64 x4.A, .int .u64 x4.B, .int .i64 x3.Kind, .int .u64 x3.A, .int .u64 x3.B] 30)
  have HBN := hid (bound_any _ sx.l a1 a2 _ _ _ [x4, x3] _ (ar_rep S6 hbx) W1 W2 (sl_two h4 h3 30 W4.heap.size rfl))
  rw [E2.out] at HBN
  simp only [decide_true] at HBN
  clear S6 E2
  go_wp2_with fail
  refine HBN.out.mono ?_
  rintro e w5 ⟨A8, n8, c8, A9, n9, c9, rfl, hs8, hs9, hb5⟩
  have HX := bel_call hbx hb5
  clear hb5 hbx k0 k1 k2 k3 k4 k5 k6 HBN
  have hba : Below w5.heap.size w5 ((w5.alloc (Obj.cells #[.slice A8 n8 c8] 24)).alloc (Obj.cells #[.int .u64 a1, .slice A9 n9 c9, .int .i64 j] 28)) := bel_alloc (bel_alloc (Below.refl _ _) _) _
  have v8 : Var1 ((w5.alloc (Obj.cells #[.slice A8 n8 c8] 24)).alloc (Obj.cells #[.int .u64 a1, .slice A9 n9 c9, .int .i64 j] 28)) w5.heap.size 24 (.slice A8 n8 c8) := heap_alloc2_old _ _ _
  have v9 : Var3 ((w5.alloc (Obj.cells #[.slice A8 n8 c8] 24)).alloc (Obj.cells #[.int .u64 a1, .slice A9 n9 c9, .int .i64 j] 28)) (w5.heap.size + 1) 28 (.int .u64 a1) (.slice A9 n9 c9) (.int .i64 j) := alloc2_new _ _ _
  have S8 := Sl.call hs8 hba
  have S9 := Sl.call hs9 hba
  replace HX := bel_call HX hba
  have S7' := Sl.call S7 HX
  have v7' := v7.call HX
  replace HB := bel_call HB HX
  clear hba hs8 hs9 S7 v6 v7 HX
  go_upto_region 11 with (fail)
  generalize (w5.alloc (Obj.cells #[.slice A8 n8 c8] 24)).alloc (Obj.cells #[.int .u64 a1, .slice A9 n9 c9, .int .i64 j] 28) = W5 at *
  generalize w5.heap.size = gy at *
  have k0 := v8.c0
  have HMT := hid (tMint_any _ Y a1 a2 W5 (ar_rep S8 (Below.refl _ _)) W1 W2)
  rw [M1.out, M2.out, M3.out] at HMT
  clear M1 M2 M3
  go_wp2_with fail
  refine HMT.out.mono ?_
  rintro e w6 ⟨vA, vB, rfl, hoA, ⟨uB, rfl, hoB⟩, hb6⟩
  obtain ⟨AA, nA, cA, rfl, hsA⟩ := hoA.read
  obtain ⟨AB, nB, cB, rfl, hsB⟩ := hoB.read
  have v7a := v7'.call hb6
  have v8a := v8.call hb6
  have v9a := v9.call hb6
  have S7a := Sl.call S7' hb6
  have S8a := Sl.call S8 hb6
  have S9a := Sl.call S9 hb6
  have HB6 := bel_call HB hb6
  have hl9 := v9a.lt
  clear v7' v8 v9 S7' S8 S9 k0 HMT hoA hoB hb6 HB
  -- all that stands ahead of z and v, as a function of the world
  have QT := hid (fun (W : World) (h : Below w6.heap.size w6 W) => And.intro (v7a.call h).c0 (And.intro (v7a.call h).c1 (v7a.call h).c2))
  have QY := hid (fun (W : World) (h : Below w6.heap.size w6 W) => (v8a.call h).c0)
  have QU := hid (fun (W : World) (h : Below w6.heap.size w6 W) => And.intro (v9a.call h).c0 (And.intro (v9a.call h).c1 (v9a.call h).c2))
  have Q3 := hid (fun (W : World) (h : Below w6.heap.size w6 W) => C3.out W (bel_call HB6 h))
  have Q4 := hid (fun (W : World) (h : Below w6.heap.size w6 W) => C4.out W (bel_call HB6 h))
  have PT := hid (fun (W : World) (h : Below w6.heap.size w6 W) => tk_rep (r := a1) (g := i) S7a h W1 wI)
  have PY := hid (fun (W : World) (h : Below w6.heap.size w6 W) => ar_rep S8a h)
  have PU := hid (fun (W : World) (h : Below w6.heap.size w6 W) => tk_rep (r := a1) (g := j) S9a h W1 wJ)
  have hl7 := v7a.lt
  clear v7a v8a v9a S7a S8a S9a
  have hba : Below w6.heap.size w6 ((w6.alloc (Obj.cells #[.slice AA nA cA] 24)).alloc (Obj.cells #[.int .u64 T0.Root, .slice AB nB cB, .int .i64 T0.Tag] 28)) := bel_alloc (bel_alloc (Below.refl _ _) _) _
  have vZ : Var1 ((w6.alloc (Obj.cells #[.slice AA nA cA] 24)).alloc (Obj.cells #[.int .u64 T0.Root, .slice AB nB cB, .int .i64 T0.Tag] 28)) w6.heap.size 24 (.slice AA nA cA) := heap_alloc2_old _ _ _
  have vV : Var3 ((w6.alloc (Obj.cells #[.slice AA nA cA] 24)).alloc (Obj.cells #[.int .u64 T0.Root, .slice AB nB cB, .int .i64 T0.Tag] 28)) (w6.heap.size + 1) 28 (.int .u64 T0.Root) (.slice AB nB cB) (.int .i64 T0.Tag) := alloc2_new _ _ _
  have SA := Sl.call hsA hba
  have SB := Sl.call hsB hba
  have HZ := hba
  clear hba hsA hsB
  go_upto_region 12 with (fail)
  generalize (w6.alloc (Obj.cells #[.slice AA nA cA] 24)).alloc (Obj.cells #[.int .u64 T0.Root, .slice AB nB cB, .int .i64 T0.Tag] 28) = W6 at *
  obtain ⟨c1, c2, c3⟩ := Q3.out _ HZ
  have z0 := vZ.c0
  have z1 := vV.c0
  have z2 := vV.c1
  have z3 := vV.c2
  have HBD := hid (tBind_any #[.slice AA nA cA] #[.int .u64 T0.Root, .slice AB nB cB, .int .i64 T0.Tag] #[.int .i64 x3.Kind, .int .u64 x3.A, .int .u64 x3.B] L0 T0 x3 W6 (ar_rep SA (Below.refl _ _)) (token_in wR0 wT0 SB (Below.refl _ _)) (rep_Caveat.2 ⟨rfl, h3⟩))
  rw [M4.out, M5.out, M6.out] at HBD
  clear M4 M5 M6
  go_wp2_with fail
  refine HBD.out.mono ?_
  rintro e u0 ⟨vA0, vB0, rfl, hoA, ⟨uB0, rfl, hoB⟩, hbn⟩
  obtain ⟨AA0, nA0, cA0, rfl, hsA⟩ := hoA.sl (Nat.le_refl _) (Nat.le_refl _)
  obtain ⟨AB0, nB0, cB0, rfl, hsB⟩ := hoB.sl (Nat.le_refl _) (Nat.le_refl _)
  have vZ' := vZ.call hbn
  have vV' := vV.call hbn
  have hgz := vV.lt
  have HZ' := bel_call HZ hbn
  have X1 := vV'.setOther (b := w6.heap.size) (by omega) 0 (.slice AA0 nA0 cA0)
  clear c1 c2 c3 z0 z1 z2 z3 HBD hoA hoB hbn SA SB HZ vZ vV
  have y0 := vZ'.c0
  have yf := vZ'.f
  have t0 := X1.c0
  have t1 := X1.c1
  have t2 := X1.c2
  have f0 := X1.f 0
  have f1 := X1.f 1
  have f2 := X1.f 2
  have vZ := ((vZ'.set (.slice AA0 nA0 cA0)).setOther (b := w6.heap.size + 1) (by omega) 0 (.int .u64 T1.Root)).setOther (b := w6.heap.size + 1) (by omega) 1 (.slice AB0 nB0 cB0) |>.setOther (b := w6.heap.size + 1) (by omega) 2 (.int .i64 T1.Tag)
  have vV := X1.set (.int .u64 T1.Root) (.slice AB0 nB0 cB0) (.int .i64 T1.Tag)
  have SA := ((((hsA.setLow (b := w6.heap.size) (by omega) 0 (.slice AA0 nA0 cA0)).setLow (b := w6.heap.size + 1) (by omega) 0 (.int .u64 T1.Root)).setLow (b := w6.heap.size + 1) (by omega) 1 (.slice AB0 nB0 cB0)).setLow (b := w6.heap.size + 1) (by omega) 2 (.int .i64 T1.Tag)).fromAll
  have SB := ((((hsB.setLow (b := w6.heap.size) (by omega) 0 (.slice AA0 nA0 cA0)).setLow (b := w6.heap.size + 1) (by omega) 0 (.int .u64 T1.Root)).setLow (b := w6.heap.size + 1) (by omega) 1 (.slice AB0 nB0 cB0)).setLow (b := w6.heap.size + 1) (by omega) 2 (.int .i64 T1.Tag)).fromAll
  have HZ := (((HZ'.setCell (p := ⟨w6.heap.size, 0, none⟩) (Nat.le_refl _) (.slice AA0 nA0 cA0)).setCell (p := ⟨w6.heap.size + 1, 0, none⟩) (Nat.le_succ _) (.int .u64 T1.Root)).setCell (p := ⟨w6.heap.size + 1, 1, none⟩) (Nat.le_succ _) (.slice AB0 nB0 cB0)).setCell (p := ⟨w6.heap.size + 1, 2, none⟩) (Nat.le_succ _) (.int .i64 T1.Tag)
  clear X1 vZ' vV' HZ' hsA hsB hgz
  go_upto_region 13 with (fail)
  generalize (((u0.setCell ⟨w6.heap.size, 0, none⟩ (.slice AA0 nA0 cA0)).setCell ⟨w6.heap.size + 1, 0, none⟩ (.int .u64 T1.Root)).setCell ⟨w6.heap.size + 1, 1, none⟩ (.slice AB0 nB0 cB0)).setCell ⟨w6.heap.size + 1, 2, none⟩ (.int .i64 T1.Tag) = U0 at *
  clear y0 yf t0 t1 t2 f0 f1 f2
  obtain ⟨T2, hT2⟩ : ∃ z : Tok, z = ⟨a1, [x3, x4], i⟩ := ⟨_, rfl⟩
  rw [← hT2] at M9 OE1
  have HT2 := hid hT2
  clear hT2
  obtain ⟨c1, c2, c3⟩ := Q4.out _ HZ
  have z0 := vZ.c0
  have z1 := vV.c0
  have z2 := vV.c1
  have z3 := vV.c2
  have HBD := hid (tBind_any #[.slice AA0 nA0 cA0] #[.int .u64 T1.Root, .slice AB0 nB0 cB0, .int .i64 T1.Tag] #[.int .i64 x4.Kind, .int .u64 x4.A, .int .u64 x4.B] L1 T1 x4 U0 (ar_rep SA (Below.refl _ _)) (token_in wR1 wT1 SB (Below.refl _ _)) (rep_Caveat.2 ⟨rfl, h4⟩))
  rw [M7.out, M8.out, M9.out] at HBD
  clear M7 M8 M9
  go_wp2_with fail
  refine HBD.out.mono ?_
  rintro e u1 ⟨vA1, vB1, rfl, hoA, ⟨uB1, rfl, hoB⟩, hbn⟩
  obtain ⟨AA1, nA1, cA1, rfl, hsA⟩ := hoA.sl (Nat.le_refl _) (Nat.le_refl _)
  obtain ⟨AB1, nB1, cB1, rfl, hsB⟩ := hoB.sl (Nat.le_refl _) (Nat.le_refl _)
  have vZ' := vZ.call hbn
  have vV' := vV.call hbn
  have hgz := vV.lt
  have HZ' := bel_call HZ hbn
  have X1 := vV'.setOther (b := w6.heap.size) (by omega) 0 (.slice AA1 nA1 cA1)
  clear c1 c2 c3 z0 z1 z2 z3 HBD hoA hoB hbn SA SB HZ vZ vV
  have y0 := vZ'.c0
  have yf := vZ'.f
  have t0 := X1.c0
  have t1 := X1.c1
  have t2 := X1.c2
  have f0 := X1.f 0
  have f1 := X1.f 1
  have f2 := X1.f 2
  have vZ := ((vZ'.set (.slice AA1 nA1 cA1)).setOther (b := w6.heap.size + 1) (by omega) 0 (.int .u64 T2.Root)).setOther (b := w6.heap.size + 1) (by omega) 1 (.slice AB1 nB1 cB1) |>.setOther (b := w6.heap.size + 1) (by omega) 2 (.int .i64 T2.Tag)
  have vV := X1.set (.int .u64 T2.Root) (.slice AB1 nB1 cB1) (.int .i64 T2.Tag)
  have SA := ((((hsA.setLow (b := w6.heap.size) (by omega) 0 (.slice AA1 nA1 cA1)).setLow (b := w6.heap.size + 1) (by omega) 0 (.int .u64 T2.Root)).setLow (b := w6.heap.size + 1) (by omega) 1 (.slice AB1 nB1 cB1)).setLow (b := w6.heap.size + 1) (by omega) 2 (.int .i64 T2.Tag)).fromAll
  have SB := ((((hsB.setLow (b := w6.heap.size) (by omega) 0 (.slice AA1 nA1 cA1)).setLow (b := w6.heap.size + 1) (by omega) 0 (.int .u64 T2.Root)).setLow (b := w6.heap.size + 1) (by omega) 1 (.slice AB1 nB1 cB1)).setLow (b := w6.heap.size + 1) (by omega) 2 (.int .i64 T2.Tag)).fromAll
  have HZ := (((HZ'.setCell (p := ⟨w6.heap.size, 0, none⟩) (Nat.le_refl _) (.slice AA1 nA1 cA1)).setCell (p := ⟨w6.heap.size + 1, 0, none⟩) (Nat.le_succ _) (.int .u64 T2.Root)).setCell (p := ⟨w6.heap.size + 1, 1, none⟩) (Nat.le_succ _) (.slice AB1 nB1 cB1)).setCell (p := ⟨w6.heap.size + 1, 2, none⟩) (Nat.le_succ _) (.int .i64 T2.Tag)
  clear X1 vZ' vV' HZ' hsA hsB hgz
  go_upto_region 14 with (fail)
  generalize (((u1.setCell ⟨w6.heap.size, 0, none⟩ (.slice AA1 nA1 cA1)).setCell ⟨w6.heap.size + 1, 0, none⟩ (.int .u64 T2.Root)).setCell ⟨w6.heap.size + 1, 1, none⟩ (.slice AB1 nB1 cB1)).setCell ⟨w6.heap.size + 1, 2, none⟩ (.int .i64 T2.Tag) = U1 at *
  clear y0 yf t0 t1 t2 f0 f1 f2
  obtain ⟨k1, k2, k3⟩ := QT.out _ HZ
  have z0 := vZ.c0
  have z1 := vV.c0
  have z2 := vV.c1
  have z3 := vV.c2
  have PV : lay_Token.rep U1 (· < U1.heap.size) T2 #[.int .u64 T2.Root, .slice AB1 nB1 cB1, .int .i64 T2.Tag].toList := token_in (by rw [HT2.out]; exact W1) (by rw [HT2.out]; exact wI) SB (Below.refl _ _)
  have HSM := hid (tSame_any #[.int .u64 T2.Root, .slice AB1 nB1 cB1, .int .i64 T2.Tag] #[.int .u64 a1, .slice A7 n7 c7, .int .i64 i] T2 T2 U1 PV (by have := PT.out _ HZ; rw [← HT2.out] at this; exact this))
  rw [decide_eq_true (rfl : T2 = T2)] at HSM
  clear PV
  go_wp2_with fail
  refine HSM.out.mono ?_
  rintro e u3 ⟨rfl, hb3⟩
  have HZ3 := bel_call HZ hb3
  have y0 := QY.out _ HZ3
  have y1 := (vZ.call hb3).c0
  have SA3 := Sl.call SA hb3
  clear k1 k2 k3 z0 z1 z2 z3 HSM
  go_wp2_with fail
  refine (aSame_any _ _ Y Y u3 (PY.out _ HZ3) (ar_rep SA3 (Below.refl _ _))).mono ?_
  rw [decide_eq_true (rfl : Y = Y)]
  rintro e u4 ⟨rfl, hb4⟩
  have HV := bel_call HZ3 hb4
  clear y0 y1 SA3 hb3 hb4 HZ3 HZ SA SB vZ vV
  obtain ⟨q, hq⟩ : ∃ z, decide (x3 = x4) = z := ⟨_, rfl⟩
  rw [hq] at OE1 OE2
  rw [HT2.out] at OE1
  simp only [hq] at HEQ
  have oe2 := OE2.out
  have hqq : (q == q) = true := by cases q <;> rfl
  have KK := hid (fun (W : World) (h : Below w6.heap.size w6 W) => And.intro (QT.out W h) (And.intro (QU.out W h) (And.intro (Q3.out W h) (Q4.out W h))))
  have TS := hid (fun (W : World) (h : Below w6.heap.size w6 W) => tSame_any _ _ _ _ W (PT.out W h) (PU.out W h))
  rw [OE1.out] at TS
  clear OE1 OE2 hq PT PU PY Q3 Q4 QT QU QY C3 C4 HT2
  obtain ⟨⟨k1, k2, k3⟩, ⟨k4, k5, k6⟩, ⟨k7, k8, k9⟩, ⟨k10, k11, k12⟩⟩ := KK.out _ HV
  go_upto_region 16 with (fail)
  go_region_held3 (fun W => (W.cell? ⟨gx + 1, 0, none⟩ = some (.int .u64 a1) ∧ W.cell? ⟨gx + 1, 1, none⟩ = some (.slice A7 n7 c7) ∧ W.cell? ⟨gx + 1, 2, none⟩ = some (.int .i64 i)) ∧ (W.cell? ⟨gy + 1, 0, none⟩ = some (.int .u64 a1) ∧ W.cell? ⟨gy + 1, 1, none⟩ = some (.slice A9 n9 c9) ∧ W.cell? ⟨gy + 1, 2, none⟩ = some (.int .i64 j)) ∧ (W.cell? ⟨w.heap.size + 1, 0, none⟩ = some (.int .i64 x3.Kind) ∧ W.cell? ⟨w.heap.size + 1, 1, none⟩ = some (.int .u64 x3.A) ∧ W.cell? ⟨w.heap.size + 1, 2, none⟩ = some (.int .u64 x3.B)) ∧ (W.cell? ⟨w.heap.size + 1 + 1, 0, none⟩ = some (.int .i64 x4.Kind) ∧ W.cell? ⟨w.heap.size + 1 + 1, 1, none⟩ = some (.int .u64 x4.A) ∧ W.cell? ⟨w.heap.size + 1 + 1, 2, none⟩ = some (.int .u64 x4.B)))
    (first | exact KK.out _ HV | exact KK.out _ HV.drew | exact KK.out _ HV6)
    (first
      | (go_at_call 23; (with_reducible refine (TS.out _ HV).mono ?_); rintro e u6 ⟨rfl, hb6⟩; have HV6 := bel_call HV hb6)
      | (go_at_call 23; (with_reducible refine (TS.out _ HV.drew).mono ?_); rintro e u6 ⟨rfl, hb6⟩; have HV6 := bel_call HV.drew hb6))
  all_goals
    go_wp2
    go_ret
    exact ⟨rfl, bel_call hb0 (bel_call HB6 HV6)⟩
end Go.Proofs.Ytgiapfenalhleaa
