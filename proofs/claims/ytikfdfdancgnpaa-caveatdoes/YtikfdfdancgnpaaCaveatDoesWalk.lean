/-
  The walk of CaveatDoes.
-/
import Derived.Test.YtikfdfdancgnpaaCaveatLive
import Derived.Test.YtikfdfdancgnpaaBigsizeSame
import Derived.Deep.RegionHeld3
import Derived.Deep.Cut
import Derived.Deep.CutRange
namespace Go.Proofs.Ytikfdfdancgnpaa
open Go.RowKit Go.WalkArith

set_option maxRecDepth 100000 in
set_option maxHeartbeats 8000000 in
theorem caveatDoes_walk (s0 : Array Value) (x0 : Cav) (s1 : Array Value) (x1 : Cav) (A2 : Option Addr) (n2 c2 : Nat) (x2 : List Int) (s3 : Array Value) (x3 : Usx) (w : World) (r0 : lay_Caveat.rep w (· < w.heap.size) x0 s0.toList) (r1 : lay_Caveat.rep w (· < w.heap.size) x1 s1.toList) (r2 : Rd w w.heap.size .u8 A2 n2 c2 x2) (r3 : lay_Use.rep w (· < w.heap.size) x3 s3.toList) :
    Calls Try.prog 3 #[.agg s0, .agg s1, .slice A2 n2 c2, .agg s3] w fun e w' => e = .returned (.bool true) ∧ Below w.heap.size w w' := by
  obtain ⟨rfl, h0⟩ := agg_Caveat r0
  obtain ⟨rfl, h1⟩ := agg_Caveat r1
  obtain ⟨rfl, h3⟩ := agg_Use r3
  clear r0 r1 r3
  have hc2 := r2.cap
  unfold maxLen at hc2
  have hb0 : Below w.heap.size w (((w.alloc (Obj.cells #[.int .i64 x0.Kind, .int .u64 x0.A, .int .u64 x0.B] 24)).alloc (Obj.cells #[.int .i64 x1.Kind, .int .u64 x1.A, .int .u64 x1.B] 24)).alloc (Obj.cells #[.int .u64 x3.Tick, .int .i64 x3.Method, .int .u64 x3.Amount, .int .u64 x3.Who] 27)) := bel_alloc (bel_alloc (bel_alloc (Below.refl _ _) _) _) _
  have hv := three_vars (w := w) (a := Obj.cells #[.int .i64 x0.Kind, .int .u64 x0.A, .int .u64 x0.B] 24) (b := Obj.cells #[.int .i64 x1.Kind, .int .u64 x1.A, .int .u64 x1.B] 24) (c := Obj.cells #[.int .u64 x3.Tick, .int .i64 x3.Method, .int .u64 x3.Amount, .int .u64 x3.Who] 27)
  have v0 : Var3 (((w.alloc (Obj.cells #[.int .i64 x0.Kind, .int .u64 x0.A, .int .u64 x0.B] 24)).alloc (Obj.cells #[.int .i64 x1.Kind, .int .u64 x1.A, .int .u64 x1.B] 24)).alloc (Obj.cells #[.int .u64 x3.Tick, .int .i64 x3.Method, .int .u64 x3.Amount, .int .u64 x3.Who] 27)) w.heap.size 24 _ _ _ := hv.1
  have v1 : Var3 (((w.alloc (Obj.cells #[.int .i64 x0.Kind, .int .u64 x0.A, .int .u64 x0.B] 24)).alloc (Obj.cells #[.int .i64 x1.Kind, .int .u64 x1.A, .int .u64 x1.B] 24)).alloc (Obj.cells #[.int .u64 x3.Tick, .int .i64 x3.Method, .int .u64 x3.Amount, .int .u64 x3.Who] 27)) (w.heap.size + 1) 24 _ _ _ := hv.2.1
  have v3 : Var4 (((w.alloc (Obj.cells #[.int .i64 x0.Kind, .int .u64 x0.A, .int .u64 x0.B] 24)).alloc (Obj.cells #[.int .i64 x1.Kind, .int .u64 x1.A, .int .u64 x1.B] 24)).alloc (Obj.cells #[.int .u64 x3.Tick, .int .i64 x3.Method, .int .u64 x3.Amount, .int .u64 x3.Who] 27)) (w.heap.size + 1 + 1) 27 _ _ _ _ := hv.2.2
  clear hv
  have P0 := hid (fun W : World => (show lay_Caveat.rep W (fun _ => True) x0 #[.int .i64 x0.Kind, .int .u64 x0.A, .int .u64 x0.B].toList from rep_Caveat.2 ⟨rfl, h0⟩))
  have P1 := hid (fun W : World => (show lay_Caveat.rep W (fun _ => True) x1 #[.int .i64 x1.Kind, .int .u64 x1.A, .int .u64 x1.B].toList from rep_Caveat.2 ⟨rfl, h1⟩))
  have P3 := hid (fun W : World => (show lay_Use.rep W (fun _ => True) x3 #[.int .u64 x3.Tick, .int .i64 x3.Method, .int .u64 x3.Amount, .int .u64 x3.Who].toList from rep_Use.2 ⟨rfl, h3⟩))
  have R2 := hid ((r2.below hb0).more hb0.size)
  have HGW := hid (getC_ok_wf (rd_octs r2))
  clear r2
  go_enter Try.func3, Try.ntmps3
  go_wp2_with fail
  generalize (((w.alloc (Obj.cells #[.int .i64 x0.Kind, .int .u64 x0.A, .int .u64 x0.B] 24)).alloc (Obj.cells #[.int .i64 x1.Kind, .int .u64 x1.A, .int .u64 x1.B] 24)).alloc (Obj.cells #[.int .u64 x3.Tick, .int .i64 x3.Method, .int .u64 x3.Amount, .int .u64 x3.Who] 27)) = W0 at *
  have C0 := hid (fun (W : World) (h : Below W0.heap.size W0 W) => And.intro (v0.call h).c0 (And.intro (v0.call h).c1 (v0.call h).c2))
  have C1 := hid (fun (W : World) (h : Below W0.heap.size W0 W) => And.intro (v1.call h).c0 (And.intro (v1.call h).c1 (v1.call h).c2))
  have C3 := hid (fun (W : World) (h : Below W0.heap.size W0 W) => And.intro (v3.call h).c0 (And.intro (v3.call h).c1 (And.intro (v3.call h).c2 (v3.call h).c3)))
  have RW := hid (fun (W : World) (h : Below W0.heap.size W0 W) => (R2.out.below h).more h.size)
  clear v0 v1 v3 R2
  refine (live6_any _).mono ?_
  rintro e w1 ⟨rfl, hb1⟩
  have HB := hb1
  clear hb1
  by_cases hbig : 200 < n2
  · have d1 : (200 : Int) < (n2 : Int) := by omega
    go_wp2
    go_ret
    exact ⟨rfl, bel_call hb0 HB⟩
  have d1 : decide ((200 : Int) < (n2 : Int)) = false := by simp; omega
  obtain ⟨px, hpx⟩ : ∃ p, putC x0 = p := ⟨_, rfl⟩
  obtain ⟨ce, hce⟩ : ∃ p, cavE x0 = p := ⟨_, rfl⟩
  obtain ⟨⟨d, ge⟩, hg⟩ : ∃ p, getC x2 = p := ⟨_, rfl⟩
  rw [hg] at HGW
  simp only at HGW
  obtain ⟨hV, hhV⟩ : ∃ p, hlV x0 x3 = p := ⟨_, rfl⟩
  obtain ⟨hE, hhE⟩ : ∃ p, hlE x0 x3 = p := ⟨_, rfl⟩
  obtain ⟨tV, htV⟩ : ∃ p, tgV x0 x1 = p := ⟨_, rfl⟩
  obtain ⟨tE, htE⟩ : ∃ p, tgE x0 x1 = p := ⟨_, rfl⟩
  have PX := hid hpx
  have CE := hid hce
  have HG := hid hg
  have HHV := hid hhV
  have HHE := hid hhE
  have HTV := hid htV
  have HTE := hid htE
  clear hpx hce hg hhV hhE htV htE
  obtain ⟨k0, k1, k2⟩ := C0.out _ HB
  go_wp2_with fail
  refine (cPut_any _ (fun _ => True) x0 _ (P0.out _)).mono ?_
  rw [PX.out, CE.out]
  rintro e w2 ⟨v2, rfl, ho2, hb2⟩
  obtain ⟨A5, n5, c5, rfl, q5⟩ := ho2.formN
  have Q5 := hid q5
  have H2 := Below.refl w2.heap.size w2
  replace HB := bel_call HB hb2
  clear hb2 ho2 q5 k0 k1 k2
  obtain ⟨k0, k1, k2⟩ := C0.out _ HB
  go_wp2_with fail
  refine (refPutC_any _ (fun _ => True) x0 _ (P0.out _)).mono ?_
  rw [PX.out, CE.out]
  rintro e w3 ⟨v3, rfl, ho3, hb3⟩
  obtain ⟨A6, n6, c6, rfl, q6⟩ := ho3.formN
  have Q6 := hid q6
  have H3 := Below.refl w3.heap.size w3
  replace HB := bel_call HB hb3
  replace H2 := bel_call H2 hb3
  clear hb3 ho3 q6 k0 k1 k2
  go_wp2_with fail
  refine (cGet_any _ _ _ x2 _ (RW.out _ HB) (by omega)).mono ?_
  rw [HG.out]
  rintro e w4 ⟨rfl, hb4⟩
  have hba := bel_alloc (Below.refl w4.heap.size w4) (Obj.cells #[.int .i64 d.Kind, .int .u64 d.A, .int .u64 d.B] 24)
  have VP := Var3.new w4 24 (.int .i64 d.Kind) (.int .u64 d.A) (.int .u64 d.B)
  replace HB := bel_call (bel_call HB hb4) hba
  replace H2 := bel_call (bel_call H2 hb4) hba
  replace H3 := bel_call (bel_call H3 hb4) hba
  clear hb4 hba
  go_wp2_with fail
  generalize w4.alloc (Obj.cells #[.int .i64 d.Kind, .int .u64 d.A, .int .u64 d.B] 24) = W4 at *
  generalize w4.heap.size = gp at *
  have H4 := Below.refl W4.heap.size W4
  refine (refGetC_any _ _ _ x2 _ (RW.out _ HB) (by omega)).mono ?_
  rw [HG.out]
  rintro e w5 ⟨rfl, hb5⟩
  have hba := bel_alloc (Below.refl w5.heap.size w5) (Obj.cells #[.int .i64 d.Kind, .int .u64 d.A, .int .u64 d.B] 24)
  have VQ := Var3.new w5 24 (.int .i64 d.Kind) (.int .u64 d.A) (.int .u64 d.B)
  replace HB := bel_call (bel_call HB hb5) hba
  replace H2 := bel_call (bel_call H2 hb5) hba
  replace H3 := bel_call (bel_call H3 hb5) hba
  replace H4 := bel_call (bel_call H4 hb5) hba
  clear hb5 hba
  obtain ⟨k0, k1, k2⟩ := C0.out _ HB
  obtain ⟨j0, j1, j2, j3⟩ := C3.out _ HB
  go_wp2_with fail
  generalize w5.alloc (Obj.cells #[.int .i64 d.Kind, .int .u64 d.A, .int .u64 d.B] 24) = W5 at *
  generalize w5.heap.size = gq at *
  have H5 := Below.refl W5.heap.size W5
  refine (cHolds_any _ _ (fun _ => True) x0 x3 _ (P0.out _) (P3.out _)).mono ?_
  rw [HHV.out, HHE.out]
  rintro e w6 ⟨rfl, hb6⟩
  replace HB := bel_call HB hb6
  replace H2 := bel_call H2 hb6
  replace H3 := bel_call H3 hb6
  replace H4 := bel_call H4 hb6
  replace H5 := bel_call H5 hb6
  clear hb6 k0 k1 k2 j0 j1 j2 j3
  obtain ⟨k0, k1, k2⟩ := C0.out _ HB
  obtain ⟨j0, j1, j2, j3⟩ := C3.out _ HB
  go_wp2_with fail
  refine (refHolds_any _ _ (fun _ => True) x0 x3 _ (P0.out _) (P3.out _)).mono ?_
  rw [HHV.out, HHE.out]
  rintro e w7 ⟨rfl, hb7⟩
  replace HB := bel_call HB hb7
  replace H2 := bel_call H2 hb7
  replace H3 := bel_call H3 hb7
  replace H4 := bel_call H4 hb7
  replace H5 := bel_call H5 hb7
  clear hb7 k0 k1 k2 j0 j1 j2 j3
  obtain ⟨k0, k1, k2⟩ := C0.out _ HB
  obtain ⟨j0, j1, j2⟩ := C1.out _ HB
  go_wp2_with fail
  refine (cTighter_any _ _ (fun _ => True) x0 x1 _ (P0.out _) (P1.out _)).mono ?_
  rw [HTV.out, HTE.out]
  rintro e w8 ⟨rfl, hb8⟩
  replace HB := bel_call HB hb8
  replace H2 := bel_call H2 hb8
  replace H3 := bel_call H3 hb8
  replace H4 := bel_call H4 hb8
  replace H5 := bel_call H5 hb8
  clear hb8 k0 k1 k2 j0 j1 j2
  obtain ⟨k0, k1, k2⟩ := C0.out _ HB
  obtain ⟨j0, j1, j2⟩ := C1.out _ HB
  go_wp2_with fail
  refine (refTighter_any _ _ (fun _ => True) x0 x1 _ (P0.out _) (P1.out _)).mono ?_
  rw [HTV.out, HTE.out]
  rintro e w9 ⟨rfl, hb9⟩
  replace HB := bel_call HB hb9
  replace H2 := bel_call H2 hb9
  replace H3 := bel_call H3 hb9
  replace H4 := bel_call H4 hb9
  replace H5 := bel_call H5 hb9
  clear hb9 k0 k1 k2 j0 j1 j2
  obtain ⟨k0, k1, k2⟩ := C0.out _ HB
  have KK := hid (fun (W : World) (h : Below w9.heap.size w9 W) => (show W.cell? ⟨w.heap.size, 0, none⟩ = some (.int .i64 x0.Kind) ∧ W.cell? ⟨w.heap.size, 1, none⟩ = some (.int .u64 x0.A) ∧ W.cell? ⟨w.heap.size, 2, none⟩ = some (.int .u64 x0.B) ∧ W.cell? ⟨gp, 0, none⟩ = some (.int .i64 d.Kind) ∧ W.cell? ⟨gp, 1, none⟩ = some (.int .u64 d.A) ∧ W.cell? ⟨gp, 2, none⟩ = some (.int .u64 d.B) ∧ W.cell? ⟨gq, 0, none⟩ = some (.int .i64 d.Kind) ∧ W.cell? ⟨gq, 1, none⟩ = some (.int .u64 d.A) ∧ W.cell? ⟨gq, 2, none⟩ = some (.int .u64 d.B) from
    ⟨(C0.out _ (bel_call HB h)).1, (C0.out _ (bel_call HB h)).2.1, (C0.out _ (bel_call HB h)).2.2, (VP.call (bel_call H4 h)).c0, (VP.call (bel_call H4 h)).c1, (VP.call (bel_call H4 h)).c2, (VQ.call (bel_call H5 h)).c0, (VQ.call (bel_call H5 h)).c1, (VQ.call (bel_call H5 h)).c2⟩))
  have S5 := hid (fun (W : World) (h : Below w9.heap.size w9 W) => Q5.out.below (bel_call H2 h))
  have S6 := hid (fun (W : World) (h : Below w9.heap.size w9 W) => Q6.out.below (bel_call H3 h))
  have heq := run_eqCav HGW.out HGW.out
  rw [decide_eq_true (rfl : d = d)] at heq
  have H9 := Below.refl w9.heap.size w9
  clear k0 k1 k2
  go_upto_region 13 with (fail)
  obtain ⟨k0, k1, k2, i0, i1, i2, j0, j1, j2⟩ := KK.out _ H9
  go_region_held3 (fun w' => w'.cell? ⟨w.heap.size, 0, none⟩ = some (.int .i64 x0.Kind) ∧ w'.cell? ⟨w.heap.size, 1, none⟩ = some (.int .u64 x0.A) ∧ w'.cell? ⟨w.heap.size, 2, none⟩ = some (.int .u64 x0.B) ∧ w'.cell? ⟨gp, 0, none⟩ = some (.int .i64 d.Kind) ∧ w'.cell? ⟨gp, 1, none⟩ = some (.int .u64 d.A) ∧ w'.cell? ⟨gp, 2, none⟩ = some (.int .u64 d.B) ∧ w'.cell? ⟨gq, 0, none⟩ = some (.int .i64 d.Kind) ∧ w'.cell? ⟨gq, 1, none⟩ = some (.int .u64 d.A) ∧ w'.cell? ⟨gq, 2, none⟩ = some (.int .u64 d.B))
    (first | exact KK.out _ H9 | exact KK.out _ H9.drew | exact KK.out _ HBA | exact KK.out _ HBB)
    (first
      | (go_at_call 17; (with_reducible refine (sameBytes_any _ _ _ _ _ _ _ _ px px _ (S5.out _ H9.drew) (S6.out _ H9.drew)).mono ?_; rw [decide_eq_true (rfl : px = px)]; rintro e w' ⟨rfl, rfl⟩))
      | (go_at_call 18; (with_reducible refine (cCheck_any _ (fun _ => True) x0 _ (P0.out _)).mono ?_; rw [CE.out]; rintro e wA ⟨rfl, hbA⟩; have HBA := bel_call H9.drew hbA))
      | (go_at_call 19; (with_reducible refine (refCheckC_any _ (fun _ => True) x0 _ (P0.out _)).mono ?_; rw [CE.out]; rintro e wB ⟨rfl, hbB⟩; have HBB := bel_call HBA hbB)))
  all_goals
    have HBE := hid (bel_call hb0 (bel_call HB HBB))
    go_wp2
    go_ret
    exact ⟨rfl, HBE.out⟩
end Go.Proofs.Ytikfdfdancgnpaa
