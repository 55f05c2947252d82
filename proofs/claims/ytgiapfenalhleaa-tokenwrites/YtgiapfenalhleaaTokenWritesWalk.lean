/-
  The walk of TokenWrites.
-/
import Derived.Test.YtgiapfenalhleaaTokenBackWalk
namespace Go.Proofs.Ytgiapfenalhleaa
open Go.RowKit Go.WalkArith

theorem tgt_wf {xs : List Int} (hw : ∀ x ∈ xs, 0 ≤ x ∧ x ≤ 255) : (Lit.int .u64 (tgtT xs).Root).wf = true ∧ (Lit.int .i64 (tgtT xs).Tag).wf = true := by
  by_cases h : tgtE xs = 0
  · have h1 := (put_tget hw h).1
    exact ⟨wf_u64 (tgt_root hw h), wf_i64 (by have := h1.2.1; have := h1.2.2; omega)⟩
  · rw [tgt_err h]
    exact ⟨by decide, by decide⟩

set_option maxRecDepth 100000 in
set_option maxHeartbeats 8000000 in
theorem tokenWrites_walk (s0 : Array Value) (x0 : Tok) (A1 : Option Addr) (n1 c1 : Nat) (x1 : List Int) (w : World) (r0 : lay_Token.rep w (· < w.heap.size) x0 s0.toList) (r1 : Rd w w.heap.size .u8 A1 n1 c1 x1) :
    Calls Try.prog 4 #[.agg s0, .slice A1 n1 c1] w fun e w' => e = .returned (.bool true) ∧ Below w.heap.size w w' := by
  obtain ⟨A0, n0, c0, rfl, hR, hT, hL⟩ := agg_Token r0
  clear r0
  have hc1 := r1.cap
  unfold maxLen at hc1
  have hb0 : Below w.heap.size w (w.alloc (Obj.cells #[.int .u64 x0.Root, .slice A0 n0 c0, .int .i64 x0.Tag] 28)) := bel_alloc (Below.refl _ _) _
  have v0 := Var3.new w 28 (.int .u64 x0.Root) (.slice A0 n0 c0) (.int .i64 x0.Tag)
  have hs0 := Sl.call hL hb0
  have R1 := hid ((r1.below hb0).more hb0.size)
  have HOC := hid (tgt_wf (rd_octs r1))
  clear r1 hL
  go_enter Try.func4, Try.ntmps4
  go_wp2_with fail
  generalize w.alloc (Obj.cells #[.int .u64 x0.Root, .slice A0 n0 c0, .int .i64 x0.Tag] 28) = W0 at *
  have C0 := hid (fun (W : World) (h : Below W0.heap.size W0 W) => And.intro (v0.call h).c0 (And.intro (v0.call h).c1 (v0.call h).c2))
  have P0 := hid (fun (W : World) (h : Below W0.heap.size W0 W) => token_in hR hT hs0 h)
  have RW := hid (fun (W : World) (h : Below W0.heap.size W0 W) => (R1.out.below h).more h.size)
  have SW := hid (fun (W : World) (h : Below W0.heap.size W0 W) => Sl.call hs0 h)
  have hg0 := v0.lt
  refine (live7_any _).mono ?_
  rintro e w1 ⟨rfl, hb1⟩
  have HB := hb1
  clear hb1 R1 v0 hs0
  obtain ⟨k0, k1, k2⟩ := C0.out _ HB
  have HF := hid (fewK_any _ _ _ [x0] _ (sl_tok1 hR hT (SW.out _ HB) w1.heap.size rfl))
  rw [show fewK [x0] = decide (x0.L.length ≤ 20) from by simp [fewK]] at HF
  by_cases hfew : x0.L.length ≤ 20
  rotate_left
  · rw [decide_eq_false hfew] at HF
    go_wp2_with fail
    refine HF.out.mono ?_
    rintro e w2 ⟨rfl, hb2⟩
    go_wp2
    go_ret
    exact ⟨rfl, bel_call hb0 (bel_call (bel_alloc HB _) hb2)⟩
  rw [decide_eq_true hfew] at HF
  clear hfew
  by_cases hbig : 2000 < n1
  · have d1 : (2000 : Int) < (n1 : Int) := by omega
    go_wp2_with fail
    refine HF.out.mono ?_
    rintro e w2 ⟨rfl, hb2⟩
    go_wp2
    go_ret
    exact ⟨rfl, bel_call hb0 (bel_call (bel_alloc HB _) hb2)⟩
  have d1 : decide ((2000 : Int) < (n1 : Int)) = false := by simp; omega
  go_wp2_with fail
  refine HF.out.mono ?_
  rintro e w2 ⟨rfl, hb2⟩
  replace HB := bel_call (bel_alloc HB _) hb2
  clear hb2 HF k0 k1 k2
  obtain ⟨k0, k1, k2⟩ := C0.out _ HB
  obtain ⟨pe, hpe⟩ : ∃ z, tpE x0 = z := ⟨_, rfl⟩
  have HPE := hid hpe
  clear hpe
  go_wp2_with fail
  refine (tPut_any _ x0 _ (P0.out _ HB)).mono ?_
  rw [HPE.out]
  rintro e w3 ⟨v3, rfl, ho3, hb3⟩
  obtain ⟨A3, n3, c3, rfl, q3⟩ := ho3.formN
  replace HB := bel_call HB hb3
  have HX := Below.refl w3.heap.size w3
  have QX := hid (fun (W : World) (h : Below w3.heap.size w3 W) => q3.kept h)
  clear hb3 k0 k1 k2 ho3 q3
  obtain ⟨k0, k1, k2⟩ := C0.out _ HB
  go_wp2_with fail
  refine (refPutT_any _ x0 _ (P0.out _ HB)).mono ?_
  rw [HPE.out]
  rintro e w4 ⟨v4, rfl, ho4, hb4⟩
  obtain ⟨A4, n4, c4, rfl, q4⟩ := ho4.formN
  replace HB := bel_call HB hb4
  replace HX := bel_call HX hb4
  have HY := Below.refl w4.heap.size w4
  have QY := hid (fun (W : World) (h : Below w4.heap.size w4 W) => q4.kept h)
  clear hb4 k0 k1 k2 ho4 q4
  obtain ⟨d, hd⟩ : ∃ z, tgtT x1 = z := ⟨_, rfl⟩
  obtain ⟨ge, hge⟩ : ∃ z, tgtE x1 = z := ⟨_, rfl⟩
  rw [hd] at HOC
  have HD := hid hd
  have HG := hid hge
  clear hd hge
  obtain ⟨wR, wT⟩ := HOC.out
  go_wp2_with fail
  refine (tGet_any _ _ _ x1 _ (RW.out _ HB)).mono ?_
  rw [HD.out, HG.out]
  rintro e w5 ⟨vt, rfl, ⟨u, rfl, hu⟩, hb5⟩
  obtain ⟨A5, n5, c5, rfl, hs5⟩ := hu.read
  have hba := bel_alloc (Below.refl w5.heap.size w5) (Obj.cells #[.int .u64 d.Root, .slice A5 n5 c5, .int .i64 d.Tag] 28)
  have VP := Var3.new w5 28 (.int .u64 d.Root) (.slice A5 n5 c5) (.int .i64 d.Tag)
  have hp := Sl.call hs5 hba
  replace HB := bel_call (bel_call HB hb5) hba
  replace HX := bel_call (bel_call HX hb5) hba
  replace HY := bel_call (bel_call HY hb5) hba
  clear hb5 hba hs5 hu
  go_wp2_with fail
  generalize w5.alloc (Obj.cells #[.int .u64 d.Root, .slice A5 n5 c5, .int .i64 d.Tag] 28) = W5 at *
  generalize w5.heap.size = gp at *
  refine (refGetT_any _ _ _ x1 _ (RW.out _ HB)).mono ?_
  rw [HD.out, HG.out]
  rintro e w6 ⟨vt, rfl, ⟨u, rfl, hu⟩, hb6⟩
  obtain ⟨A6, n6, c6, rfl, hs6⟩ := hu.read
  have hba := bel_alloc (Below.refl w6.heap.size w6) (Obj.cells #[.int .u64 d.Root, .slice A6 n6 c6, .int .i64 d.Tag] 28)
  have VQ := Var3.new w6 28 (.int .u64 d.Root) (.slice A6 n6 c6) (.int .i64 d.Tag)
  have hq := Sl.call hs6 hba
  have hpB := bel_call hb6 hba
  replace HB := bel_call HB hpB
  replace HX := bel_call HX hpB
  replace HY := bel_call HY hpB
  have VP' := VP.call hpB
  have p0 := VP'.c0
  have p1 := VP'.c1
  have p2 := VP'.c2
  have q0 := VQ.c0
  have q1 := VQ.c1
  have q2 := VQ.c2
  have HSM := hid (refSameT_any _ _ d d _ (token_in wR wT hp hpB) (token_in wR wT hq (Below.refl _ _)))
  rw [decide_eq_true (rfl : d = d)] at HSM
  clear hb6 hba hs6 hu hp hq hpB VP VP' VQ
  go_wp2_with fail
  generalize w6.alloc (Obj.cells #[.int .u64 d.Root, .slice A6 n6 c6, .int .i64 d.Tag] 28) = W6 at *
  refine (sameBytes_any _ _ _ _ _ _ _ _ (tpO x0) (tpO x0) _ (QX.out _ HX) (QY.out _ HY)).mono ?_
  rw [decide_eq_true (rfl : tpO x0 = tpO x0)]
  rintro e w7 ⟨rfl, rfl⟩
  have dp : (pe == pe) = true := by simp
  have dg : (ge == ge) = true := by simp
  go_wp2_with fail
  refine HSM.out.mono ?_
  rintro e w8 ⟨rfl, hb8⟩
  go_wp2
  go_ret
  exact ⟨rfl, bel_call hb0 (bel_call HB hb8)⟩
end Go.Proofs.Ytgiapfenalhleaa
