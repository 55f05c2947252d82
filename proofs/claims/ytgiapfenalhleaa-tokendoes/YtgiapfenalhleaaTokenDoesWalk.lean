/-
  The walk of TokenDoes.
-/
import Derived.Test.YtgiapfenalhleaaTokenBackWalk
import Derived.Test.YtgiapfenalhleaaScb
namespace Go.Proofs.Ytgiapfenalhleaa
open Go.RowKit Go.WalkArith

theorem four_vars {w : World} {a b c d : Obj} : ((((w.alloc a).alloc b).alloc c).alloc d).heap[w.heap.size]? = some a ∧ ((((w.alloc a).alloc b).alloc c).alloc d).heap[w.heap.size + 1]? = some b ∧ ((((w.alloc a).alloc b).alloc c).alloc d).heap[w.heap.size + 1 + 1]? = some c ∧ ((((w.alloc a).alloc b).alloc c).alloc d).heap[w.heap.size + 1 + 1 + 1]? = some d := by
  obtain ⟨h1, h2, h3⟩ := three_vars (w := w) (a := a) (b := b) (c := c)
  have hs : (((w.alloc a).alloc b).alloc c).heap.size = w.heap.size + 1 + 1 + 1 := by simp
  have old : ∀ i, i < w.heap.size + 1 + 1 + 1 → ((((w.alloc a).alloc b).alloc c).alloc d).heap[i]? = (((w.alloc a).alloc b).alloc c).heap[i]? := fun i hi => heap_alloc_old _ _ (by rw [hs]; exact hi)
  refine ⟨(old _ (by omega)).trans h1, (old _ (by omega)).trans h2, (old _ (by omega)).trans h3, ?_⟩
  have := heap_alloc_new (((w.alloc a).alloc b).alloc c) d
  rw [hs] at this
  exact this
theorem fewA_both {l : List Trm} (h : fewA l = true) : l.length ≤ 80 ∧ ∀ x ∈ l, x.Text.length ≤ 4096 := by
  simp only [fewA, Bool.and_eq_true, decide_eq_true_eq, List.all_eq_true] at h
  exact ⟨h.2, fun x hx => by have := h.1 x hx; omega⟩
theorem mt_wf {l : List Trm} {root key : Int} (hr : (Lit.int .u64 root).wf = true) : (Lit.int .u64 (mtT l root key).Root).wf = true ∧ (Lit.int .i64 (mtT l root key).Tag).wf = true := by
  by_cases h : mtE l root key = 0
  · have h2 := bn_wf (l := l) (root := root) (key := key) (cs := []) h
    have e : (mtT l root key).Root = root := h2.1
    have e3 : 0 ≤ (mtT l root key).Tag := h2.2.1
    have e4 : (mtT l root key).Tag < 1048576 := h2.2.2
    exact ⟨by rw [e]; exact hr, wf_i64 (by omega)⟩
  · rw [show mtT l root key = zeroT from if_neg h]
    exact ⟨by decide, by decide⟩
theorem bd_wf {l : List Trm} {t : Tok} {c : Cav} (hr : (Lit.int .u64 t.Root).wf = true) : (Lit.int .u64 (bdT l t c).Root).wf = true ∧ (Lit.int .i64 (bdT l t c).Tag).wf = true := by
  rcases bd_is (l := l) (t := t) (c := c) with ⟨-, -, -, h, -, e⟩ | ⟨-, -, e⟩
  · obtain ⟨o, i, hi, -, e2, -, a, -⟩ := next_made h
    rw [e]
    refine ⟨hr, ?_⟩
    show (Lit.int .i64 (nextI l t.Tag (putC c))).wf = true
    rw [e2]
    exact wf_i64 (by have := a.1; omega)
  · rw [e]
    exact ⟨by decide, by decide⟩
theorem sl_tok2 {w : World} {A A' : Option Addr} {n c n' c' : Nat} {t o : Tok} (h1 : (Lit.int .u64 t.Root).wf = true) (h2 : (Lit.int .i64 t.Tag).wf = true) (h : Sl lay_Caveat w (· < w.heap.size) A n c t.L) (h1' : (Lit.int .u64 o.Root).wf = true) (h2' : (Lit.int .i64 o.Tag).wf = true) (h' : Sl lay_Caveat w (· < w.heap.size) A' n' c' o.L) (b : Nat) (hb : b = w.heap.size) :
    Sl lay_Token (w.alloc (Obj.cells #[.int .u64 t.Root, .slice A n c, .int .i64 t.Tag, .int .u64 o.Root, .slice A' n' c', .int .i64 o.Tag] 28)) (· < (w.alloc (Obj.cells #[.int .u64 t.Root, .slice A n c, .int .i64 t.Tag, .int .u64 o.Root, .slice A' n' c', .int .i64 o.Tag] 28)).heap.size) (some ⟨b, 0, none⟩) 2 2 [t, o] := by
  subst hb
  have hb : Below w.heap.size w (w.alloc (Obj.cells #[.int .u64 t.Root, .slice A n c, .int .i64 t.Tag, .int .u64 o.Root, .slice A' n' c', .int .i64 o.Tag] 28)) := bel_alloc (Below.refl _ _) _
  refine ⟨rfl, Nat.le_refl _, by simp [maxLen], by simp, fun _ => ⟨w.heap.size, 0, [.int .u64 t.Root, .slice A n c, .int .i64 t.Tag, .int .u64 o.Root, .slice A' n' c', .int .i64 o.Tag], rfl, by simp, ⟨[_, _, _], [_, _, _], rfl, rep_Token.2 ⟨A, n, c, rfl, h1, h2, Sl.call h hb⟩, [_, _, _], [], rfl, rep_Token.2 ⟨A', n', c', rfl, h1', h2', Sl.call h' hb⟩, rfl⟩, fun i v hv => ?_⟩⟩
  rw [Nat.zero_add, World.cell?_alloc_at _ _ _ _ rfl]
  simpa using hv
theorem cavs_new {w : World} {lo : Nat} {A : Option Addr} {n c : Nat} {l : List Cav} (h : Sl lay_Caveat w (From w lo) A n c l) {j : Nat} (hj : j < n) :
    ∃ b off x, A = some ⟨b, off, none⟩ ∧ lo ≤ b ∧ w.frozen? ⟨b, off + j * 3 + 1, none⟩ = false ∧ w.cell? ⟨b, off + j * 3 + 1, none⟩ = some (.int .u64 x) := by
  obtain ⟨b, off, hx, hA, hb, _, h2, _, _⟩ := cav_at h hj
  exact ⟨b, off, _, hA, hb.1, hb.2.2 _, h2⟩

set_option maxRecDepth 100000 in
set_option maxHeartbeats 16000000 in
theorem tokenDoes_walk (s0 : Array Value) (x0 : List Trm) (s1 : Array Value) (x1 : Tok) (s2 : Array Value) (x2 : Tok) (a3 a4 : Int) (s5 : Array Value) (x5 : Cav) (w : World) (r0 : lay_Arena.rep w (· < w.heap.size) x0 s0.toList) (r1 : lay_Token.rep w (· < w.heap.size) x1 s1.toList) (r2 : lay_Token.rep w (· < w.heap.size) x2 s2.toList) (b3 : 0 ≤ a3 ∧ a3 ≤ 18446744073709551615) (b4 : 0 ≤ a4 ∧ a4 ≤ 18446744073709551615) (r5 : lay_Caveat.rep w (· < w.heap.size) x5 s5.toList) :
    Calls Try.prog 3 #[.agg s0, .agg s1, .agg s2, .int .u64 a3, .int .u64 a4, .agg s5] w fun e w' => e = .returned (.bool true) ∧ Below w.heap.size w w' := by
  obtain ⟨A0, n0, c0, rfl, h0⟩ := agg_Arena r0
  obtain ⟨A1, n1, c1, rfl, hR1, hT1, h1⟩ := agg_Token r1
  obtain ⟨A2, n2, c2, rfl, hR2, hT2, h2⟩ := agg_Token r2
  obtain ⟨rfl, h5⟩ := agg_Caveat r5
  clear r0 r1 r2 r5
  have W3 := wf_u64 b3
  have W4' := wf_u64 b4
  have hb0 : Below w.heap.size w ((((w.alloc (Obj.cells #[.slice A0 n0 c0] 24)).alloc (Obj.cells #[.int .u64 x1.Root, .slice A1 n1 c1, .int .i64 x1.Tag] 28)).alloc (Obj.cells #[.int .u64 x2.Root, .slice A2 n2 c2, .int .i64 x2.Tag] 28)).alloc (Obj.cells #[.int .i64 x5.Kind, .int .u64 x5.A, .int .u64 x5.B] 30)) := bel_alloc (bel_alloc (bel_alloc (bel_alloc (Below.refl _ _) _) _) _) _
  have v0 : Var1 ((((w.alloc (Obj.cells #[.slice A0 n0 c0] 24)).alloc (Obj.cells #[.int .u64 x1.Root, .slice A1 n1 c1, .int .i64 x1.Tag] 28)).alloc (Obj.cells #[.int .u64 x2.Root, .slice A2 n2 c2, .int .i64 x2.Tag] 28)).alloc (Obj.cells #[.int .i64 x5.Kind, .int .u64 x5.A, .int .u64 x5.B] 30)) w.heap.size 24 (.slice A0 n0 c0) := four_vars.1
  have v1 : Var3 ((((w.alloc (Obj.cells #[.slice A0 n0 c0] 24)).alloc (Obj.cells #[.int .u64 x1.Root, .slice A1 n1 c1, .int .i64 x1.Tag] 28)).alloc (Obj.cells #[.int .u64 x2.Root, .slice A2 n2 c2, .int .i64 x2.Tag] 28)).alloc (Obj.cells #[.int .i64 x5.Kind, .int .u64 x5.A, .int .u64 x5.B] 30)) (w.heap.size + 1) 28 (.int .u64 x1.Root) (.slice A1 n1 c1) (.int .i64 x1.Tag) := four_vars.2.1
  have v2 : Var3 ((((w.alloc (Obj.cells #[.slice A0 n0 c0] 24)).alloc (Obj.cells #[.int .u64 x1.Root, .slice A1 n1 c1, .int .i64 x1.Tag] 28)).alloc (Obj.cells #[.int .u64 x2.Root, .slice A2 n2 c2, .int .i64 x2.Tag] 28)).alloc (Obj.cells #[.int .i64 x5.Kind, .int .u64 x5.A, .int .u64 x5.B] 30)) (w.heap.size + 1 + 1) 28 (.int .u64 x2.Root) (.slice A2 n2 c2) (.int .i64 x2.Tag) := four_vars.2.2.1
  have v5 : Var3 ((((w.alloc (Obj.cells #[.slice A0 n0 c0] 24)).alloc (Obj.cells #[.int .u64 x1.Root, .slice A1 n1 c1, .int .i64 x1.Tag] 28)).alloc (Obj.cells #[.int .u64 x2.Root, .slice A2 n2 c2, .int .i64 x2.Tag] 28)).alloc (Obj.cells #[.int .i64 x5.Kind, .int .u64 x5.A, .int .u64 x5.B] 30)) (w.heap.size + 1 + 1 + 1) 30 (.int .i64 x5.Kind) (.int .u64 x5.A) (.int .u64 x5.B) := four_vars.2.2.2
  have S0 := Sl.call h0 hb0
  have S1 := Sl.call h1 hb0
  have S2 := Sl.call h2 hb0
  have HL1 := hid h1.len
  have hc1 := h1.cap
  unfold maxLen at hc1
  clear h0 h1 h2
  go_enter Try.func3, Try.ntmps3
  go_wp2_with fail
  generalize ((((w.alloc (Obj.cells #[.slice A0 n0 c0] 24)).alloc (Obj.cells #[.int .u64 x1.Root, .slice A1 n1 c1, .int .i64 x1.Tag] 28)).alloc (Obj.cells #[.int .u64 x2.Root, .slice A2 n2 c2, .int .i64 x2.Tag] 28)).alloc (Obj.cells #[.int .i64 x5.Kind, .int .u64 x5.A, .int .u64 x5.B] 30)) = W0 at *
  have C0 := hid (fun (W : World) (h : Below W0.heap.size W0 W) => (v0.call h).c0)
  have C1 := hid (fun (W : World) (h : Below W0.heap.size W0 W) => And.intro (v1.call h).c0 (And.intro (v1.call h).c1 (v1.call h).c2))
  have C2 := hid (fun (W : World) (h : Below W0.heap.size W0 W) => And.intro (v2.call h).c0 (And.intro (v2.call h).c1 (v2.call h).c2))
  have C5 := hid (fun (W : World) (h : Below W0.heap.size W0 W) => And.intro (v5.call h).c0 (And.intro (v5.call h).c1 (v5.call h).c2))
  have P0 := hid (fun (W : World) (h : Below W0.heap.size W0 W) => ar_rep S0 h)
  have P1 := hid (fun (W : World) (h : Below W0.heap.size W0 W) => token_in hR1 hT1 S1 h)
  have P2 := hid (fun (W : World) (h : Below W0.heap.size W0 W) => token_in hR2 hT2 S2 h)
  have K1 := hid (fun (W : World) (h : Below W0.heap.size W0 W) => Sl.call S1 h)
  have K2 := hid (fun (W : World) (h : Below W0.heap.size W0 W) => Sl.call S2 h)
  have hg5 := v5.lt
  clear v0 v1 v2 v5 S0 S1 S2
  refine (live7_any _).mono ?_
  rintro e w1 ⟨rfl, hb1⟩
  have HB := hb1
  clear hb1
  have k0 := C0.out _ HB
  go_wp2_with fail
  refine (refFewA_any _ x0 _ (P0.out _ HB)).mono ?_
  rintro e w2 ⟨rfl, hb2⟩
  replace HB := bel_call HB hb2
  clear hb2 k0
  cases f0 : fewA x0 with
  | false =>
    go_wp2
    go_ret
    exact ⟨rfl, bel_call hb0 HB⟩
  | true =>
  obtain ⟨hlen, hsh⟩ := fewA_both f0
  have HSH := hid hsh
  clear f0 hsh
  obtain ⟨k1, k2, k3⟩ := C1.out _ HB
  obtain ⟨k4, k5, k6⟩ := C2.out _ HB
  have HF := hid (fewK_any _ _ _ [x1, x2] _ (sl_tok2 hR1 hT1 (K1.out _ HB) hR2 hT2 (K2.out _ HB) w2.heap.size rfl))
  cases hfk : fewK [x1, x2] with
  | false =>
    rw [hfk] at HF
    go_wp2_with fail
    refine HF.out.mono ?_
    rintro e w3 ⟨rfl, hb3⟩
    go_wp2
    go_ret
    exact ⟨rfl, bel_call hb0 (bel_call (bel_alloc HB _) hb3)⟩
  | true =>
  rw [hfk] at HF
  have hn1 : n1 ≤ 20 := by
    rw [← HL1.out]
    simp only [fewK, List.all_cons, List.all_nil, Bool.and_true, Bool.and_eq_true, decide_eq_true_eq] at hfk
    exact hfk.1
  clear hfk
  go_wp2_with fail
  refine HF.out.mono ?_
  rintro e w3 ⟨rfl, hb3⟩
  replace HB := bel_call (bel_alloc HB _) hb3
  clear hb3 HF k1 k2 k3 k4 k5 k6
  have k0 := C0.out _ HB
  go_wp2_with fail
  refine (refCopy_any _ x0 _ (P0.out _ HB) (by omega) HSH.out).mono ?_
  rintro e w4 ⟨vw, rfl, how, hb4⟩
  obtain ⟨Aw, nw, cw, rfl, hsw⟩ := how.read
  have hba := bel_alloc (Below.refl w4.heap.size w4) (Obj.cells #[.slice Aw nw cw] 24)
  have VW := Var1.new w4 24 (.slice Aw nw cw)
  have SW := Sl.call hsw hba
  replace HB := bel_call (bel_call HB hb4) hba
  clear hb4 how hsw hba k0 HSH
  go_upto_region 6 with (fail)
  generalize w4.alloc (Obj.cells #[.slice Aw nw cw] 24) = W4 at *
  generalize w4.heap.size = gw at *
  obtain ⟨k1, k2, k3⟩ := C1.out _ HB
  have hgw := VW.lt
  go_upto_region 7 with (at_builtin; go_must (refine wpList_catL rfl _ _ 26 rfl W4.heap.size none 30 _ 24 Try.underlying26 Try.infoCav7 rfl (by decide) (.slice none 0 0) [] x1.L (· < W4.heap.size) A1 n1 c1 rfl rfl (OwnL.nil lay_Caveat _ _ none _) (K1.out _ HB) (fun b hb => ⟨trivial, hb, by simp [Value.ownBlock]⟩) (Nat.le_refl _) (by simp; omega) (by unfold maxLen; simp; omega) ?_; intro vh wh hoh hxh))
  have hbh : Below W4.heap.size W4 wh := (OwnL.nil lay_Caveat W4 W4.heap.size none 30).below hxh (Nat.le_refl _)
  rw [List.nil_append] at hoh
  obtain ⟨Ah, nh, ch, rfl, hsh⟩ := hoh.read
  have HW := hbh
  replace HB := bel_call HB hbh
  have HBh := HB.size
  have VWh := VW.call hbh
  have SWh := Sl.call SW hbh
  clear hoh hxh hbh k1 k2 k3 VW SW
  have BW := hid (fun (W : World) (h : Below wh.heap.size wh W) => (VWh.call h).c0)
  have PW := hid (fun (W : World) (h : Below wh.heap.size wh W) => ar_rep SWh h)
  have KH := hid (fun (W : World) (h : Below wh.heap.size wh W) => Sl.call hsh h)
  have hgw2 := VWh.lt
  have HH := Below.refl wh.heap.size wh
  clear VWh SWh hsh HW
  obtain ⟨me, hme⟩ : ∃ z, mtE x0 a3 a4 = z := ⟨_, rfl⟩
  obtain ⟨ml, hml⟩ : ∃ z, mtL x0 a3 a4 = z := ⟨_, rfl⟩
  obtain ⟨mt, hmt⟩ : ∃ z, mtT x0 a3 a4 = z := ⟨_, rfl⟩
  obtain ⟨be, hbe⟩ : ∃ z, bdE x0 x1 x5 = z := ⟨_, rfl⟩
  obtain ⟨bl, hbl⟩ : ∃ z, bdL x0 x1 x5 = z := ⟨_, rfl⟩
  obtain ⟨bt, hbt⟩ : ∃ z, bdT x0 x1 x5 = z := ⟨_, rfl⟩
  obtain ⟨vv, hvv⟩ : ∃ z, vfV x0 a4 x1 = z := ⟨_, rfl⟩
  obtain ⟨ve, hve⟩ : ∃ z, vfE x0 x1 = z := ⟨_, rfl⟩
  obtain ⟨te, hte⟩ : ∃ z, tkE x1 = z := ⟨_, rfl⟩
  obtain ⟨dd, hdd⟩ : ∃ z, decide (x1 = x2) = z := ⟨_, rfl⟩
  have wfM := mt_wf (l := x0) (key := a4) W3
  have wfB := bd_wf (l := x0) (c := x5) hR1
  rw [hmt] at wfM
  rw [hbt] at wfB
  have M1 := hid (fun W h => tMint_any _ x0 a3 a4 W (P0.out W h) W3 W4')
  rw [hme, hml, hmt] at M1
  have M2 := hid (fun W h => refMint_any _ x0 a3 a4 W (P0.out W h) W3 W4')
  rw [hme, hml, hmt] at M2
  have M3 := hid (fun W h => tBind_any _ _ _ x0 x1 x5 W (P0.out W h) (P1.out W h) (rep_Caveat.2 ⟨rfl, h5⟩))
  rw [hbe, hbl, hbt] at M3
  have M4 := hid (fun W h => refBind_any _ _ _ x0 x1 x5 W (P0.out W h) (P1.out W h) (rep_Caveat.2 ⟨rfl, h5⟩))
  rw [hbe, hbl, hbt] at M4
  have M5 := hid (fun W h => tVerify_any _ _ x0 a4 x1 W (P0.out W h) W4' (P1.out W h))
  rw [hvv, hve] at M5
  have M6 := hid (fun W h => refVerify_any _ _ x0 a4 x1 W (P0.out W h) W4' (P1.out W h))
  rw [hvv, hve] at M6
  have DT := hid hte
  have DD := hid hdd
  clear hme hml hmt hbe hbl hbt hvv hve hte hdd
  have k0 := C0.out _ HB
  go_wp2_with fail
  refine (M1.out _ HB).mono ?_
  rintro e wX ⟨vA, vB, rfl, hoA, ⟨uB, rfl, hoB⟩, hbn⟩
  obtain ⟨AX, nX, cX, rfl, hsA⟩ := hoA.read
  obtain ⟨BX, mX, dX, rfl, hsB⟩ := hoB.read
  have hba : Below wX.heap.size wX ((wX.alloc (Obj.cells #[.slice AX nX cX] 24)).alloc (Obj.cells #[.int .u64 mt.Root, .slice BX mX dX, .int .i64 mt.Tag] 28)) := bel_alloc (bel_alloc (Below.refl _ _) _) _
  have vA : Var1 ((wX.alloc (Obj.cells #[.slice AX nX cX] 24)).alloc (Obj.cells #[.int .u64 mt.Root, .slice BX mX dX, .int .i64 mt.Tag] 28)) wX.heap.size 24 (.slice AX nX cX) := heap_alloc2_old _ _ _
  have vB : Var3 ((wX.alloc (Obj.cells #[.slice AX nX cX] 24)).alloc (Obj.cells #[.int .u64 mt.Root, .slice BX mX dX, .int .i64 mt.Tag] 28)) (wX.heap.size + 1) 28 (.int .u64 mt.Root) (.slice BX mX dX) (.int .i64 mt.Tag) := alloc2_new _ _ _
  have SA := Sl.call hsA hba
  have SB := Sl.call hsB hba
  replace HB := bel_call (bel_call HB hbn) hba
  replace HH := bel_call (bel_call HH hbn) hba
  clear hbn hba hoA hoB hsA hsB k0
  go_upto_region 8 with (fail)
  generalize ((wX.alloc (Obj.cells #[.slice AX nX cX] 24)).alloc (Obj.cells #[.int .u64 mt.Root, .slice BX mX dX, .int .i64 mt.Tag] 28)) = WX at *
  generalize wX.heap.size = gX at *
  have BXa := hid (fun (W : World) (h : Below WX.heap.size WX W) => (vA.call h).c0)
  have BXt := hid (fun (W : World) (h : Below WX.heap.size WX W) => And.intro (vB.call h).c0 (And.intro (vB.call h).c1 (vB.call h).c2))
  have PXa := hid (fun (W : World) (h : Below WX.heap.size WX W) => ar_rep SA h)
  have PXt := hid (fun (W : World) (h : Below WX.heap.size WX W) => token_in wfM.1 wfM.2 SB h)
  have HX := Below.refl WX.heap.size WX
  have hgX := vB.lt
  clear vA vB SA SB
  have k0 := C0.out _ HB
  go_wp2_with fail
  refine (M2.out _ HB).mono ?_
  rintro e wY ⟨vA, vB, rfl, hoA, ⟨uB, rfl, hoB⟩, hbn⟩
  obtain ⟨AY, nY, cY, rfl, hsA⟩ := hoA.read
  obtain ⟨BY, mY, dY, rfl, hsB⟩ := hoB.read
  have hba : Below wY.heap.size wY ((wY.alloc (Obj.cells #[.slice AY nY cY] 24)).alloc (Obj.cells #[.int .u64 mt.Root, .slice BY mY dY, .int .i64 mt.Tag] 28)) := bel_alloc (bel_alloc (Below.refl _ _) _) _
  have vA : Var1 ((wY.alloc (Obj.cells #[.slice AY nY cY] 24)).alloc (Obj.cells #[.int .u64 mt.Root, .slice BY mY dY, .int .i64 mt.Tag] 28)) wY.heap.size 24 (.slice AY nY cY) := heap_alloc2_old _ _ _
  have vB : Var3 ((wY.alloc (Obj.cells #[.slice AY nY cY] 24)).alloc (Obj.cells #[.int .u64 mt.Root, .slice BY mY dY, .int .i64 mt.Tag] 28)) (wY.heap.size + 1) 28 (.int .u64 mt.Root) (.slice BY mY dY) (.int .i64 mt.Tag) := alloc2_new _ _ _
  have SA := Sl.call hsA hba
  have SB := Sl.call hsB hba
  replace HB := bel_call (bel_call HB hbn) hba
  replace HH := bel_call (bel_call HH hbn) hba
  replace HX := bel_call (bel_call HX hbn) hba
  clear hbn hba hoA hoB hsA hsB k0
  go_upto_region 9 with (fail)
  generalize ((wY.alloc (Obj.cells #[.slice AY nY cY] 24)).alloc (Obj.cells #[.int .u64 mt.Root, .slice BY mY dY, .int .i64 mt.Tag] 28)) = WY at *
  generalize wY.heap.size = gY at *
  have BYa := hid (fun (W : World) (h : Below WY.heap.size WY W) => (vA.call h).c0)
  have BYt := hid (fun (W : World) (h : Below WY.heap.size WY W) => And.intro (vB.call h).c0 (And.intro (vB.call h).c1 (vB.call h).c2))
  have PYa := hid (fun (W : World) (h : Below WY.heap.size WY W) => ar_rep SA h)
  have PYt := hid (fun (W : World) (h : Below WY.heap.size WY W) => token_in wfM.1 wfM.2 SB h)
  have HY := Below.refl WY.heap.size WY
  have hgY := vB.lt
  clear vA vB SA SB
  have k0 := C0.out _ HB
  obtain ⟨k1, k2, k3⟩ := C1.out _ HB
  obtain ⟨k4, k5, k6⟩ := C5.out _ HB
  go_wp2_with fail
  refine (M3.out _ HB).mono ?_
  rintro e wU ⟨vA, vB, rfl, hoA, ⟨uB, rfl, hoB⟩, hbn⟩
  obtain ⟨AU, nU, cU, rfl, hsA⟩ := hoA.read
  obtain ⟨BU, mU, dU, rfl, hsN⟩ := hoB.sl (Nat.le_refl _) (Nat.le_refl _)
  have hsB := hsN.wide (S' := (· < wU.heap.size)) fun _ hb => hb.2.1
  have hba : Below wU.heap.size wU ((wU.alloc (Obj.cells #[.slice AU nU cU] 24)).alloc (Obj.cells #[.int .u64 bt.Root, .slice BU mU dU, .int .i64 bt.Tag] 28)) := bel_alloc (bel_alloc (Below.refl _ _) _) _
  have vA : Var1 ((wU.alloc (Obj.cells #[.slice AU nU cU] 24)).alloc (Obj.cells #[.int .u64 bt.Root, .slice BU mU dU, .int .i64 bt.Tag] 28)) wU.heap.size 24 (.slice AU nU cU) := heap_alloc2_old _ _ _
  have vB : Var3 ((wU.alloc (Obj.cells #[.slice AU nU cU] 24)).alloc (Obj.cells #[.int .u64 bt.Root, .slice BU mU dU, .int .i64 bt.Tag] 28)) (wU.heap.size + 1) 28 (.int .u64 bt.Root) (.slice BU mU dU) (.int .i64 bt.Tag) := alloc2_new _ _ _
  have SA := Sl.call hsA hba
  have SB := Sl.call hsB hba
  have hloU := HH.size
  have QN := hid ((hsN.keep fun p hp => hba.cell hp.2.1).wide (S' := From ((wU.alloc (Obj.cells #[.slice AU nU cU] 24)).alloc (Obj.cells #[.int .u64 bt.Root, .slice BU mU dU, .int .i64 bt.Tag] 28)) WY.heap.size) fun b hb => hb.keep hba)
  clear hsN
  replace HB := bel_call (bel_call HB hbn) hba
  replace HH := bel_call (bel_call HH hbn) hba
  replace HX := bel_call (bel_call HX hbn) hba
  replace HY := bel_call (bel_call HY hbn) hba
  clear hbn hba hoA hoB hsA hsB k0 k1 k2 k3 k4 k5 k6
  go_upto_region 10 with (fail)
  generalize ((wU.alloc (Obj.cells #[.slice AU nU cU] 24)).alloc (Obj.cells #[.int .u64 bt.Root, .slice BU mU dU, .int .i64 bt.Tag] 28)) = WU at *
  generalize wU.heap.size = gU at *
  have BUa := hid (fun (W : World) (h : Below WU.heap.size WU W) => (vA.call h).c0)
  have BUt := hid (fun (W : World) (h : Below WU.heap.size WU W) => And.intro (vB.call h).c0 (And.intro (vB.call h).c1 (vB.call h).c2))
  have PUa := hid (fun (W : World) (h : Below WU.heap.size WU W) => ar_rep SA h)
  have PUt := hid (fun (W : World) (h : Below WU.heap.size WU W) => token_in wfB.1 wfB.2 SB h)
  have HU := Below.refl WU.heap.size WU
  have hgU := vB.lt
  clear vA vB SA SB
  have k0 := C0.out _ HB
  obtain ⟨k1, k2, k3⟩ := C1.out _ HB
  obtain ⟨k4, k5, k6⟩ := C5.out _ HB
  go_wp2_with fail
  refine (M4.out _ HB).mono ?_
  rintro e wV ⟨vA, vB, rfl, hoA, ⟨uB, rfl, hoB⟩, hbn⟩
  obtain ⟨AV, nV, cV, rfl, hsA⟩ := hoA.read
  obtain ⟨BV, mV, dV, rfl, hsB⟩ := hoB.read
  have hba : Below wV.heap.size wV ((wV.alloc (Obj.cells #[.slice AV nV cV] 24)).alloc (Obj.cells #[.int .u64 bt.Root, .slice BV mV dV, .int .i64 bt.Tag] 28)) := bel_alloc (bel_alloc (Below.refl _ _) _) _
  have vA : Var1 ((wV.alloc (Obj.cells #[.slice AV nV cV] 24)).alloc (Obj.cells #[.int .u64 bt.Root, .slice BV mV dV, .int .i64 bt.Tag] 28)) wV.heap.size 24 (.slice AV nV cV) := heap_alloc2_old _ _ _
  have vB : Var3 ((wV.alloc (Obj.cells #[.slice AV nV cV] 24)).alloc (Obj.cells #[.int .u64 bt.Root, .slice BV mV dV, .int .i64 bt.Tag] 28)) (wV.heap.size + 1) 28 (.int .u64 bt.Root) (.slice BV mV dV) (.int .i64 bt.Tag) := alloc2_new _ _ _
  have SA := Sl.call hsA hba
  have SB := Sl.call hsB hba
  replace HB := bel_call (bel_call HB hbn) hba
  replace HH := bel_call (bel_call HH hbn) hba
  replace HX := bel_call (bel_call HX hbn) hba
  replace HY := bel_call (bel_call HY hbn) hba
  replace HU := bel_call (bel_call HU hbn) hba
  clear hbn hba hoA hoB hsA hsB k0 k1 k2 k3 k4 k5 k6
  go_upto_region 11 with (fail)
  generalize ((wV.alloc (Obj.cells #[.slice AV nV cV] 24)).alloc (Obj.cells #[.int .u64 bt.Root, .slice BV mV dV, .int .i64 bt.Tag] 28)) = WV at *
  generalize wV.heap.size = gV at *
  have BVa := hid (fun (W : World) (h : Below WV.heap.size WV W) => (vA.call h).c0)
  have BVt := hid (fun (W : World) (h : Below WV.heap.size WV W) => And.intro (vB.call h).c0 (And.intro (vB.call h).c1 (vB.call h).c2))
  have PVa := hid (fun (W : World) (h : Below WV.heap.size WV W) => ar_rep SA h)
  have PVt := hid (fun (W : World) (h : Below WV.heap.size WV W) => token_in wfB.1 wfB.2 SB h)
  have HV := Below.refl WV.heap.size WV
  have hgV := vB.lt
  clear vA vB SA SB
  have k0 := C0.out _ HB
  obtain ⟨k1, k2, k3⟩ := C1.out _ HB
  go_wp2_with fail
  refine (M5.out _ HB).mono ?_
  rintro e wF ⟨rfl, hbn⟩
  replace HB := bel_call HB hbn
  replace HH := bel_call HH hbn
  replace HX := bel_call HX hbn
  replace HY := bel_call HY hbn
  replace HU := bel_call HU hbn
  replace HV := bel_call HV hbn
  clear hbn k0 k1 k2 k3
  go_upto_region 12 with (fail)
  have k0 := C0.out _ HB
  obtain ⟨k1, k2, k3⟩ := C1.out _ HB
  go_wp2_with fail
  refine (M6.out _ HB).mono ?_
  rintro e wG ⟨rfl, hbn⟩
  replace HB := bel_call HB hbn
  replace HH := bel_call HH hbn
  replace HX := bel_call HX hbn
  replace HY := bel_call HY hbn
  replace HU := bel_call HU hbn
  replace HV := bel_call HV hbn
  clear hbn k0 k1 k2 k3
  go_upto_region 13 with (fail)
  have KK := hid (fun (W : World) (h : Below wG.heap.size wG W) => (show W.cell? ⟨gX, 0, none⟩ = some (.slice AX nX cX) ∧ (W.cell? ⟨gX + 1, 0, none⟩ = some (.int .u64 mt.Root) ∧ W.cell? ⟨gX + 1, 1, none⟩ = some (.slice BX mX dX) ∧ W.cell? ⟨gX + 1, 2, none⟩ = some (.int .i64 mt.Tag)) ∧ W.cell? ⟨gY, 0, none⟩ = some (.slice AY nY cY) ∧ (W.cell? ⟨gY + 1, 0, none⟩ = some (.int .u64 mt.Root) ∧ W.cell? ⟨gY + 1, 1, none⟩ = some (.slice BY mY dY) ∧ W.cell? ⟨gY + 1, 2, none⟩ = some (.int .i64 mt.Tag)) ∧ W.cell? ⟨gU, 0, none⟩ = some (.slice AU nU cU) ∧ (W.cell? ⟨gU + 1, 0, none⟩ = some (.int .u64 bt.Root) ∧ W.cell? ⟨gU + 1, 1, none⟩ = some (.slice BU mU dU) ∧ W.cell? ⟨gU + 1, 2, none⟩ = some (.int .i64 bt.Tag)) ∧ W.cell? ⟨gV, 0, none⟩ = some (.slice AV nV cV) ∧ (W.cell? ⟨gV + 1, 0, none⟩ = some (.int .u64 bt.Root) ∧ W.cell? ⟨gV + 1, 1, none⟩ = some (.slice BV mV dV) ∧ W.cell? ⟨gV + 1, 2, none⟩ = some (.int .i64 bt.Tag)) ∧ (W.cell? ⟨w.heap.size + 1, 0, none⟩ = some (.int .u64 x1.Root) ∧ W.cell? ⟨w.heap.size + 1, 1, none⟩ = some (.slice A1 n1 c1) ∧ W.cell? ⟨w.heap.size + 1, 2, none⟩ = some (.int .i64 x1.Tag)) ∧ (W.cell? ⟨w.heap.size + 1 + 1, 0, none⟩ = some (.int .u64 x2.Root) ∧ W.cell? ⟨w.heap.size + 1 + 1, 1, none⟩ = some (.slice A2 n2 c2) ∧ W.cell? ⟨w.heap.size + 1 + 1, 2, none⟩ = some (.int .i64 x2.Tag)) from ⟨BXa.out W (bel_call HX h), ⟨BXt.out W (bel_call HX h), ⟨BYa.out W (bel_call HY h), ⟨BYt.out W (bel_call HY h), ⟨BUa.out W (bel_call HU h), ⟨BUt.out W (bel_call HU h), ⟨BVa.out W (bel_call HV h), ⟨BVt.out W (bel_call HV h), ⟨C1.out W (bel_call HB h), C2.out W (bel_call HB h)⟩⟩⟩⟩⟩⟩⟩⟩⟩))
  have H8 := Below.refl wG.heap.size wG
  have SXa := hid (fun (W : World) (h : Below wG.heap.size wG W) => PXa.out W (bel_call HX h))
  have SXt := hid (fun (W : World) (h : Below wG.heap.size wG W) => PXt.out W (bel_call HX h))
  have SYa := hid (fun (W : World) (h : Below wG.heap.size wG W) => PYa.out W (bel_call HY h))
  have SYt := hid (fun (W : World) (h : Below wG.heap.size wG W) => PYt.out W (bel_call HY h))
  have SUa := hid (fun (W : World) (h : Below wG.heap.size wG W) => PUa.out W (bel_call HU h))
  have SUt := hid (fun (W : World) (h : Below wG.heap.size wG W) => PUt.out W (bel_call HU h))
  have SVa := hid (fun (W : World) (h : Below wG.heap.size wG W) => PVa.out W (bel_call HV h))
  have SVt := hid (fun (W : World) (h : Below wG.heap.size wG W) => PVt.out W (bel_call HV h))
  have Z1 := hid (fun (W : World) (h : Below wG.heap.size wG W) => P1.out W (bel_call HB h))
  have Z2 := hid (fun (W : World) (h : Below wG.heap.size wG W) => P2.out W (bel_call HB h))
  obtain ⟨q0, ⟨q1a, q1b, q1c⟩, q2, ⟨q3a, q3b, q3c⟩, q4, ⟨q5a, q5b, q5c⟩, q6, ⟨q7a, q7b, q7c⟩, ⟨q8a, q8b, q8c⟩, ⟨q9a, q9b, q9c⟩⟩ := KK.out _ H8
  clear M1 M2 M3 M4 M5 M6
  go_cut [31] from 96 to 149 (fun s wc => s = .bool true ∧ Below wG.heap.size wG wc)
  case first =>
    go_region_held3 (fun W => W.cell? ⟨gX, 0, none⟩ = some (.slice AX nX cX) ∧ (W.cell? ⟨gX + 1, 0, none⟩ = some (.int .u64 mt.Root) ∧ W.cell? ⟨gX + 1, 1, none⟩ = some (.slice BX mX dX) ∧ W.cell? ⟨gX + 1, 2, none⟩ = some (.int .i64 mt.Tag)) ∧ W.cell? ⟨gY, 0, none⟩ = some (.slice AY nY cY) ∧ (W.cell? ⟨gY + 1, 0, none⟩ = some (.int .u64 mt.Root) ∧ W.cell? ⟨gY + 1, 1, none⟩ = some (.slice BY mY dY) ∧ W.cell? ⟨gY + 1, 2, none⟩ = some (.int .i64 mt.Tag)) ∧ W.cell? ⟨gU, 0, none⟩ = some (.slice AU nU cU) ∧ (W.cell? ⟨gU + 1, 0, none⟩ = some (.int .u64 bt.Root) ∧ W.cell? ⟨gU + 1, 1, none⟩ = some (.slice BU mU dU) ∧ W.cell? ⟨gU + 1, 2, none⟩ = some (.int .i64 bt.Tag)) ∧ W.cell? ⟨gV, 0, none⟩ = some (.slice AV nV cV) ∧ (W.cell? ⟨gV + 1, 0, none⟩ = some (.int .u64 bt.Root) ∧ W.cell? ⟨gV + 1, 1, none⟩ = some (.slice BV mV dV) ∧ W.cell? ⟨gV + 1, 2, none⟩ = some (.int .i64 bt.Tag)) ∧ (W.cell? ⟨w.heap.size + 1, 0, none⟩ = some (.int .u64 x1.Root) ∧ W.cell? ⟨w.heap.size + 1, 1, none⟩ = some (.slice A1 n1 c1) ∧ W.cell? ⟨w.heap.size + 1, 2, none⟩ = some (.int .i64 x1.Tag)) ∧ (W.cell? ⟨w.heap.size + 1 + 1, 0, none⟩ = some (.int .u64 x2.Root) ∧ W.cell? ⟨w.heap.size + 1 + 1, 1, none⟩ = some (.slice A2 n2 c2) ∧ W.cell? ⟨w.heap.size + 1 + 1, 2, none⟩ = some (.int .i64 x2.Tag)))
      (first | exact KK.out _ H8 | exact KK.out _ H8.drew | exact KK.out _ HBA | exact KK.out _ HBB | exact KK.out _ HBC | exact KK.out _ HBD | exact KK.out _ HBE | exact KK.out _ HBF | exact KK.out _ HBG | exact KK.out _ HBH)
      (first
        | (go_at_call 19; (with_reducible refine (refSameA_any _ _ ml ml _ (SXa.out _ H8.drew) (SYa.out _ H8.drew)).mono ?_; rw [decide_eq_true (rfl : ml = ml)]; rintro e wA ⟨rfl, hbA⟩; have HBA := bel_call H8.drew hbA))
        | (go_at_call 20; (with_reducible refine (refSameT_any _ _ mt mt _ (SXt.out _ HBA) (SYt.out _ HBA)).mono ?_; rw [decide_eq_true (rfl : mt = mt)]; rintro e wB ⟨rfl, hbB⟩; have HBB := bel_call HBA hbB))
        | (go_at_call 19; (with_reducible refine (refSameA_any _ _ bl bl _ (SUa.out _ HBB) (SVa.out _ HBB)).mono ?_; rw [decide_eq_true (rfl : bl = bl)]; rintro e wC ⟨rfl, hbC⟩; have HBC := bel_call HBB hbC))
        | (go_at_call 20; (with_reducible refine (refSameT_any _ _ bt bt _ (SUt.out _ HBC) (SVt.out _ HBC)).mono ?_; rw [decide_eq_true (rfl : bt = bt)]; rintro e wD ⟨rfl, hbD⟩; have HBD := bel_call HBC hbD))
        | (go_at_call 21; (with_reducible refine (tCheck_any _ x1 _ (Z1.out _ HBD)).mono ?_; rw [DT.out]; rintro e wE ⟨rfl, hbE⟩; have HBE := bel_call HBD hbE))
        | (go_at_call 22; (with_reducible refine (refCheckT_any _ x1 _ (Z1.out _ HBE)).mono ?_; rw [DT.out]; rintro e wF' ⟨rfl, hbF⟩; have HBF := bel_call HBE hbF))
        | (go_at_call 23; (with_reducible refine (tSame_any _ _ x1 x2 _ (Z1.out _ HBF) (Z2.out _ HBF)).mono ?_; rw [DD.out]; rintro e wG' ⟨rfl, hbG⟩; have HBG := bel_call HBF hbG))
        | (go_at_call 20; (with_reducible refine (refSameT_any _ _ x1 x2 _ (Z1.out _ HBG) (Z2.out _ HBG)).mono ?_; rw [DD.out]; rintro e wH ⟨rfl, hbH⟩; have HBH := bel_call HBG hbH)))
    go_wp2_with fail
    go_meet
    case rel => exact ⟨rfl, HBH⟩
  case rest =>
  obtain ⟨rfl, HBC⟩ := hcut
  have HBc := hid (bel_call HB HBC)
  have HUc := bel_call HU HBC
  have HHc := hid (bel_call HH HBC)
  have QC := (QN.out.keep fun p hp => HUc.cell hp.2.1).wide (S' := From wc WY.heap.size) fun b hb => hb.keep HUc
  have kr := (BUt.out _ HUc).2.1
  have hcr := QC.cap
  unfold maxLen at hcr
  have HQC := hid QC
  clear HB HH HX HY HU HV HBC HUc QC KK SXa SXt SYa SYt SUa SUt SVa SVt Z1 Z2 QN H8 q0 q1a q1b q1c q2 q3a q3b q3c q4 q5a q5b q5c q6 q7a q7b q7c q8a q8b q8c q9a q9b q9c
  go_wp2
  go_loopw [153] (fun i wr => ∃ j : Nat, j ≤ mU ∧ i = .int .i64 j ∧ Scb wh.heap.size wc wr) (fun i _ => mU - (intOf i).toNat)
  case atStart => exact ⟨0, Nat.zero_le _, rfl, Scb.refl _ _⟩
  case round =>
    obtain ⟨j, hj, rfl, hscr⟩ := hrel
    have p0 := hscr.sl kr
    by_cases hlt : j < mU
    · obtain ⟨b, off, x, rfl, hbl, hfz, hx⟩ := cavs_new HQC.out hlt
      obtain ⟨y, hy⟩ := hscr.ints b _ _ x hx
      have hfz' := (hscr.fz ⟨b, off + j * 3 + 1, none⟩).trans hfz
      have HXX := hid hx
      clear hfz hx
      go_wp2
      go_roundw
      case rel => exact ⟨j + 1, by omega, by go_num, hscr.put (Nat.le_trans hloU hbl) HXX.out _⟩
      case measure => simp [intOf]; omega
    · have hj' : decide ((j : Int) < (mU : Int)) = false := by simp; omega
      have HH9 : Below wh.heap.size wh wr := HHc.out.trans hscr.bel
      have HB9 := HBc.out.trans (hscr.bel.mono HBh)
      have q0 := C0.out _ HB9
      have qw := BW.out _ HH9
      have HSM := hid (refSameA_any _ _ x0 x0 wr (P0.out _ HB9) (PW.out _ HH9))
      rw [decide_eq_true (rfl : x0 = x0)] at HSM
      clear p0
      go_wp2_with fail
      refine HSM.out.mono ?_
      rintro e wS ⟨rfl, hbS⟩
      have HBS := bel_call HB9 hbS
      have HHS := bel_call HH9 hbS
      obtain ⟨k1, k2, k3⟩ := C1.out _ HBS
      clear q0 qw HSM
      have HSC := hid (refSameCavs_any _ _ _ _ _ _ (· < wS.heap.size) x1.L x1.L wS (K1.out _ HBS) (KH.out _ HHS))
      rw [decide_eq_true (rfl : x1.L = x1.L)] at HSC
      go_wp2_with fail
      refine HSC.out.mono ?_
      rintro e wT ⟨rfl, mT, rfl⟩
      go_wp2
      go_ret
      exact ⟨rfl, bel_drewN (bel_call hb0 HBS) _⟩
end Go.Proofs.Ytgiapfenalhleaa
