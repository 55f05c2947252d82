/-
  The walk of ArenaDoes.
-/
import Derived.Test.YthcikbmekjmmlaaArenaTellsWalk
import Derived.Test.YthcikbmekjmmlaaScb
import Derived.Deep.Cut
import Derived.Deep.CutRange
namespace Go.Proofs.Ythcikbmekjmmlaa
open Go.RowKit Go.WalkArith

/-- A struct's variable of one cell. -/
def Var1 (w : World) (g : Nat) (t : TypeId) (x : Value) : Prop := w.heap[g]? = some (.cells #[x] t (0, 0))
theorem Var1.c0 {w : World} {g : Nat} {t : TypeId} {x : Value} (h : Var1 w g t x) : w.cell? ⟨g, 0, none⟩ = some x := cell_of_one h
theorem Var1.lt {w : World} {g : Nat} {t : TypeId} {x : Value} (h : Var1 w g t x) : g < w.heap.size := (Array.getElem?_eq_some_iff.1 h).1
theorem Var1.call {w w' : World} {g : Nat} {t : TypeId} {x : Value} (h : Var1 w g t x) (hb : Below w.heap.size w w') : Var1 w' g t x := (hb.block g h.lt).trans h
theorem Var1.new (w : World) (t : TypeId) (x : Value) : Var1 (w.alloc (.cells #[x] t)) w.heap.size t x := heap_alloc_new w _
theorem ar_at {w w' : World} {s : Array Value} {x : List Trm} (h : lay_Arena.rep w (· < w.heap.size) x s.toList) (hb : Below w.heap.size w w') : lay_Arena.rep w' (· < w'.heap.size) x s.toList :=
  lay_Arena.wide (lay_Arena.keep h fun _ hp => hb.cell hp) fun _ hb' => Nat.lt_of_lt_of_le hb' hb.size
theorem fewA_short {l : List Trm} (h : fewA l = true) : ∀ x ∈ l, x.Text.length ≤ 4096 := by
  simp only [fewA, Bool.and_eq_true, decide_eq_true_eq, List.all_eq_true] at h
  intro x hx
  have := h.1 x hx
  omega
theorem trm_new {w : World} {lo : Nat} {A : Option Addr} {n c : Nat} {l : List Trm} (h : Sl lay_Term w (From w lo) A n c l) {j : Nat} (hj : j < n) :
    ∃ b off A' n' c', ∃ hx : j < l.length, A = some ⟨b, off, none⟩ ∧ w.cell? ⟨b, off + j * 3 + 2, none⟩ = some (.slice A' n' c') ∧ Sl (Lay.int .u8) w (From w lo) A' n' c' l[j].Text := by
  obtain ⟨b, off, A', n', c', hx, hA, _, _, _, h3, _, _, hs⟩ := trm_at h hj
  exact ⟨b, off, A', n', c', hx, hA, h3, hs⟩

set_option maxRecDepth 100000 in
set_option maxHeartbeats 8000000 in
theorem arenaDoes_walk (s0 : Array Value) (x0 : List Trm) (s1 : Array Value) (x1 : List Trm) (a2 : Int) (a3 : Int) (A4 : Option Addr) (n4 c4 : Nat) (x4 : List Int) (w : World) (r0 : lay_Arena.rep w (· < w.heap.size) x0 s0.toList) (r1 : lay_Arena.rep w (· < w.heap.size) x1 s1.toList) (b2 : 0 ≤ a2 ∧ a2 ≤ 18446744073709551615) (b3 : -9223372036854775808 ≤ a3 ∧ a3 ≤ 9223372036854775807) (r4 : Rd w w.heap.size .u8 A4 n4 c4 x4) :
    Calls Try.prog 3 #[.agg s0, .agg s1, .int .u64 a2, .int .i64 a3, .slice A4 n4 c4] w fun e w' => e = .returned (.bool true) ∧ Below w.heap.size w w' := by
  obtain ⟨A0, n0, c0, rfl, h0⟩ := agg_Arena r0
  obtain ⟨A1, n1, c1, rfl, h1⟩ := agg_Arena r1
  have W2 := wf_u64 b2
  have W3' := wf_i64 b3
  have hb0 : Below w.heap.size w ((w.alloc (Obj.cells #[.slice A0 n0 c0] 24)).alloc (Obj.cells #[.slice A1 n1 c1] 24)) := bel_alloc (bel_alloc (Below.refl _ _) _) _
  have v0 : Var1 ((w.alloc (Obj.cells #[.slice A0 n0 c0] 24)).alloc (Obj.cells #[.slice A1 n1 c1] 24)) w.heap.size 24 (.slice A0 n0 c0) := heap_alloc2_old _ _ _
  have v1 : Var1 ((w.alloc (Obj.cells #[.slice A0 n0 c0] 24)).alloc (Obj.cells #[.slice A1 n1 c1] 24)) (w.heap.size + 1) 24 (.slice A1 n1 c1) := alloc2_new _ _ _
  have P0 := hid (ar_at r0 hb0)
  have P1 := hid (ar_at r1 hb0)
  have R4 := hid ((r4.below hb0).more hb0.size)
  clear r0 r1 r4 h0 h1
  go_enter Try.func3, Try.ntmps3
  go_wp2_with fail
  generalize (w.alloc (Obj.cells #[.slice A0 n0 c0] 24)).alloc (Obj.cells #[.slice A1 n1 c1] 24) = W0 at *
  have PW0 := hid (fun (W : World) (h : Below W0.heap.size W0 W) => ar_at P0.out h)
  have PW1 := hid (fun (W : World) (h : Below W0.heap.size W0 W) => ar_at P1.out h)
  have RW4 := hid (fun (W : World) (h : Below W0.heap.size W0 W) => (R4.out.below h).more h.size)
  have C0 := hid (fun (W : World) (h : Below W0.heap.size W0 W) => (v0.call h).c0)
  have C1 := hid (fun (W : World) (h : Below W0.heap.size W0 W) => (v1.call h).c0)
  have hg1 := v1.lt
  clear P0 P1 R4 v0 v1
  refine (live5_any _).mono ?_
  rintro e w1 ⟨rfl, hb1⟩
  have HB := hb1
  clear hb1
  have k0 := C0.out _ HB
  go_wp2_with fail
  refine (refFewA_any _ x0 _ (PW0.out _ HB)).mono ?_
  rintro e w2 ⟨rfl, hb2⟩
  replace HB := bel_call HB hb2
  clear hb2 k0
  cases f0 : fewA x0 with
  | false =>
    go_wp2
    go_ret
    exact ⟨rfl, bel_call hb0 HB⟩
  | true =>
  have HSH := hid (fewA_short f0)
  have hlen0 := fewA_len f0
  clear f0
  have k1 := C1.out _ HB
  go_wp2_with fail
  refine (refFewA_any _ x1 _ (PW1.out _ HB)).mono ?_
  rintro e w3 ⟨rfl, hb3⟩
  replace HB := bel_call HB hb3
  clear hb3 k1
  cases f1 : fewA x1 with
  | false =>
    go_wp2
    go_ret
    exact ⟨rfl, bel_call hb0 HB⟩
  | true =>
  clear f1
  have HF4 := hid (lawFewT_any _ _ _ _ [x4] _ (one_txt (RW4.out _ HB).sl))
  cases f4 : fewT [x4] with
  | false =>
    rw [f4] at HF4
    go_wp2_with (refine HF4.out.mono ?_; rintro e w4 ⟨rfl, rfl⟩)
    go_ret
    exact ⟨rfl, bel_call hb0 (bel_alloc HB _)⟩
  | true =>
  rw [f4] at HF4
  replace HB := bel_alloc HB (Obj.cells #[.slice A4 n4 c4] 26)
  clear f4
  have k0 := C0.out _ HB
  go_wp2_with (refine HF4.out.mono ?_; rintro e w4 ⟨rfl, rfl⟩)
  clear HF4
  generalize w3.alloc (Obj.cells #[.slice A4 n4 c4] 26) = W3 at *
  refine (refCopy_any _ x0 _ (PW0.out _ HB) (by omega) HSH.out).mono ?_
  rintro e w4 ⟨v4, rfl, ho4, hb4⟩
  obtain ⟨A5, n5, c5, rfl, hs5⟩ := ho4.read
  have hba := bel_alloc (Below.refl w4.heap.size w4) (Obj.cells #[.slice A5 n5 c5] 24)
  have VW := Var1.new w4 24 (.slice A5 n5 c5)
  have PWS := hid (show lay_Arena.rep (w4.alloc (Obj.cells #[.slice A5 n5 c5] 24)) (· < (w4.alloc (Obj.cells #[.slice A5 n5 c5] 24)).heap.size) x0 #[.slice A5 n5 c5].toList from rep_Arena.2 ⟨A5, n5, c5, rfl, Sl.call hs5 hba⟩)
  replace HB := bel_call (bel_call HB hb4) hba
  clear hb4 ho4 hs5 hba k0
  have k0 := C0.out _ HB
  go_wp2_with fail
  generalize w4.alloc (Obj.cells #[.slice A5 n5 c5] 24) = W4 at *
  generalize w4.heap.size = gw at *
  have HW := Below.refl W4.heap.size W4
  have hlo := HB.size
  obtain ⟨wi, hwi⟩ : ∃ z, withI x0 (rootT a2 x4) = z := ⟨_, rfl⟩
  obtain ⟨we, hwe⟩ : ∃ z, withE x0 (rootT a2 x4) = z := ⟨_, rfl⟩
  obtain ⟨wl, hwl⟩ : ∃ z, withL x0 (rootT a2 x4) = z := ⟨_, rfl⟩
  obtain ⟨ni, hni⟩ : ∃ z, nextI x0 a3 x4 = z := ⟨_, rfl⟩
  obtain ⟨ne, hne⟩ : ∃ z, nextE x0 a3 x4 = z := ⟨_, rfl⟩
  obtain ⟨nl, hnl⟩ : ∃ z, nextL x0 a3 x4 = z := ⟨_, rfl⟩
  obtain ⟨dd, hdd⟩ : ∃ d, decide (x0 = x1) = d := ⟨_, rfl⟩
  obtain ⟨ae, hae⟩ : ∃ d, arE x0 = d := ⟨_, rfl⟩
  have WI := hid hwi
  have WE := hid hwe
  have WL := hid hwl
  have NI := hid hni
  have NE := hid hne
  have NL := hid hnl
  have DD := hid hdd
  have AE := hid hae
  clear hwi hwe hwl hni hne hnl hdd hae
  refine (aRoot_any _ x0 a2 _ _ _ x4 _ (PW0.out _ HB) W2 (RW4.out _ HB)).mono ?_
  rintro e w5 ⟨vw5, rfl, how5, hbw5⟩
  rw [WL.out] at how5
  rw [WI.out, WE.out]
  obtain ⟨A6, n6, c6, rfl, hsw5⟩ := how5.read
  obtain ⟨A6', n6', c6', he6, q6n⟩ := how5.sl (Nat.le_refl _) (Nat.le_refl _)
  injection he6 with e61 e62 e63
  subst e61 e62 e63
  have hba := bel_alloc (Below.refl w5.heap.size w5) (Obj.cells #[.slice A6 n6 c6] 24)
  have VX := Var1.new w5 24 (.slice A6 n6 c6)
  have PX := hid (show lay_Arena.rep (w5.alloc (Obj.cells #[.slice A6 n6 c6] 24)) (· < (w5.alloc (Obj.cells #[.slice A6 n6 c6] 24)).heap.size) wl #[.slice A6 n6 c6].toList from rep_Arena.2 ⟨A6, n6, c6, rfl, Sl.call hsw5 hba⟩)
  have QN := hid ((q6n.keep fun p hp => hba.cell hp.2.1).wide fun b hb => hb.keep hba)
  replace HB := bel_call (bel_call HB hbw5) hba
  replace HW := bel_call (bel_call HW hbw5) hba
  clear hbw5 how5 hsw5 hba k0 q6n
  have k0 := C0.out _ HB
  go_wp2_with fail
  generalize w5.alloc (Obj.cells #[.slice A6 n6 c6] 24) = W5 at *
  generalize w5.heap.size = gx at *
  have HX := Below.refl W5.heap.size W5
  refine (refRootA_any _ x0 a2 _ _ _ x4 _ (PW0.out _ HB) W2 (RW4.out _ HB)).mono ?_
  rintro e w6 ⟨vw6, rfl, how6, hbw6⟩
  rw [WL.out] at how6
  rw [WI.out, WE.out]
  obtain ⟨A7, n7, c7, rfl, hsw6⟩ := how6.read
  have hba := bel_alloc (Below.refl w6.heap.size w6) (Obj.cells #[.slice A7 n7 c7] 24)
  have VY := Var1.new w6 24 (.slice A7 n7 c7)
  have PY := hid (show lay_Arena.rep (w6.alloc (Obj.cells #[.slice A7 n7 c7] 24)) (· < (w6.alloc (Obj.cells #[.slice A7 n7 c7] 24)).heap.size) wl #[.slice A7 n7 c7].toList from rep_Arena.2 ⟨A7, n7, c7, rfl, Sl.call hsw6 hba⟩)
  replace HB := bel_call (bel_call HB hbw6) hba
  replace HW := bel_call (bel_call HW hbw6) hba
  replace HX := bel_call (bel_call HX hbw6) hba
  clear hbw6 how6 hsw6 hba k0
  have k0 := C0.out _ HB
  go_wp2_with fail
  generalize w6.alloc (Obj.cells #[.slice A7 n7 c7] 24) = W6 at *
  generalize w6.heap.size = gy at *
  have HY := Below.refl W6.heap.size W6
  refine (aNext_any _ x0 a3 _ _ _ x4 _ (PW0.out _ HB) W3' (RW4.out _ HB)).mono ?_
  rintro e w7 ⟨vw7, rfl, how7, hbw7⟩
  rw [NL.out] at how7
  rw [NI.out, NE.out]
  obtain ⟨A8, n8, c8, rfl, hsw7⟩ := how7.read
  have hba := bel_alloc (Below.refl w7.heap.size w7) (Obj.cells #[.slice A8 n8 c8] 24)
  have VP := Var1.new w7 24 (.slice A8 n8 c8)
  have PP := hid (show lay_Arena.rep (w7.alloc (Obj.cells #[.slice A8 n8 c8] 24)) (· < (w7.alloc (Obj.cells #[.slice A8 n8 c8] 24)).heap.size) nl #[.slice A8 n8 c8].toList from rep_Arena.2 ⟨A8, n8, c8, rfl, Sl.call hsw7 hba⟩)
  replace HB := bel_call (bel_call HB hbw7) hba
  replace HW := bel_call (bel_call HW hbw7) hba
  replace HX := bel_call (bel_call HX hbw7) hba
  replace HY := bel_call (bel_call HY hbw7) hba
  clear hbw7 how7 hsw7 hba k0
  have k0 := C0.out _ HB
  go_wp2_with fail
  generalize w7.alloc (Obj.cells #[.slice A8 n8 c8] 24) = W7 at *
  generalize w7.heap.size = gp at *
  have HP := Below.refl W7.heap.size W7
  refine (refNextA_any _ x0 a3 _ _ _ x4 _ (PW0.out _ HB) W3' (RW4.out _ HB)).mono ?_
  rintro e w8 ⟨vw8, rfl, how8, hbw8⟩
  rw [NL.out] at how8
  rw [NI.out, NE.out]
  obtain ⟨A9, n9, c9, rfl, hsw8⟩ := how8.read
  have hba := bel_alloc (Below.refl w8.heap.size w8) (Obj.cells #[.slice A9 n9 c9] 24)
  have VQ := Var1.new w8 24 (.slice A9 n9 c9)
  have PQ := hid (show lay_Arena.rep (w8.alloc (Obj.cells #[.slice A9 n9 c9] 24)) (· < (w8.alloc (Obj.cells #[.slice A9 n9 c9] 24)).heap.size) nl #[.slice A9 n9 c9].toList from rep_Arena.2 ⟨A9, n9, c9, rfl, Sl.call hsw8 hba⟩)
  replace HB := bel_call (bel_call HB hbw8) hba
  replace HW := bel_call (bel_call HW hbw8) hba
  replace HX := bel_call (bel_call HX hbw8) hba
  replace HY := bel_call (bel_call HY hbw8) hba
  replace HP := bel_call (bel_call HP hbw8) hba
  clear hbw8 how8 hsw8 hba k0
  have k0 := C0.out _ HB
  go_upto_region 10 with (fail)
  generalize w8.alloc (Obj.cells #[.slice A9 n9 c9] 24) = W8 at *
  generalize w8.heap.size = gq at *
  have HQ := Below.refl W8.heap.size W8
  have KK := hid (fun (W : World) (h : Below W8.heap.size W8 W) => (show W.cell? ⟨w.heap.size, 0, none⟩ = some (.slice A0 n0 c0) ∧ W.cell? ⟨w.heap.size + 1, 0, none⟩ = some (.slice A1 n1 c1) ∧ W.cell? ⟨gx, 0, none⟩ = some (.slice A6 n6 c6) ∧ W.cell? ⟨gy, 0, none⟩ = some (.slice A7 n7 c7) ∧ W.cell? ⟨gp, 0, none⟩ = some (.slice A8 n8 c8) ∧ W.cell? ⟨gq, 0, none⟩ = some (.slice A9 n9 c9) from
    ⟨C0.out _ (bel_call HB h), C1.out _ (bel_call HB h), (VX.call (bel_call HX h)).c0, (VY.call (bel_call HY h)).c0, (VP.call (bel_call HP h)).c0, (VQ.call h).c0⟩))
  have H8 := Below.refl W8.heap.size W8
  have SX := hid (fun (W : World) (h : Below W8.heap.size W8 W) => ar_at PX.out (bel_call HX h))
  have SY := hid (fun (W : World) (h : Below W8.heap.size W8 W) => ar_at PY.out (bel_call HY h))
  have SP := hid (fun (W : World) (h : Below W8.heap.size W8 W) => ar_at PP.out (bel_call HP h))
  have SQ := hid (fun (W : World) (h : Below W8.heap.size W8 W) => ar_at PQ.out h)
  have S0 := hid (fun (W : World) (h : Below W8.heap.size W8 W) => PW0.out _ (bel_call HB h))
  have S1 := hid (fun (W : World) (h : Below W8.heap.size W8 W) => PW1.out _ (bel_call HB h))
  clear k0
  obtain ⟨k0, k1, kx, ky, kp, kq⟩ := KK.out _ H8
  go_cut [24] from 77 to 120 (fun s wc => s = .bool true ∧ Below W8.heap.size W8 wc)
  case first =>
    go_region_held3 (fun w' => w'.cell? ⟨w.heap.size, 0, none⟩ = some (.slice A0 n0 c0) ∧ w'.cell? ⟨w.heap.size + 1, 0, none⟩ = some (.slice A1 n1 c1) ∧ w'.cell? ⟨gx, 0, none⟩ = some (.slice A6 n6 c6) ∧ w'.cell? ⟨gy, 0, none⟩ = some (.slice A7 n7 c7) ∧ w'.cell? ⟨gp, 0, none⟩ = some (.slice A8 n8 c8) ∧ w'.cell? ⟨gq, 0, none⟩ = some (.slice A9 n9 c9))
      (first | exact KK.out _ H8 | exact KK.out _ H8.drew | exact KK.out _ HBA | exact KK.out _ HBB | exact KK.out _ HBC | exact KK.out _ HBD | exact KK.out _ HBE | exact KK.out _ HBF)
      (first
        | (go_at_call 16; (with_reducible refine (refSameA_any _ _ wl wl _ (SX.out _ H8.drew) (SY.out _ H8.drew)).mono ?_; rw [decide_eq_true (rfl : wl = wl)]; rintro e wA ⟨rfl, hbA⟩; have HBA := bel_call H8.drew hbA))
        | (go_at_call 16; (with_reducible refine (refSameA_any _ _ nl nl _ (SP.out _ HBA) (SQ.out _ HBA)).mono ?_; rw [decide_eq_true (rfl : nl = nl)]; rintro e wB ⟨rfl, hbB⟩; have HBB := bel_call HBA hbB))
        | (go_at_call 17; (with_reducible refine (aCheck_any _ x0 _ (S0.out _ HBB)).mono ?_; rw [AE.out]; rintro e wC ⟨rfl, hbC⟩; have HBC := bel_call HBB hbC))
        | (go_at_call 18; (with_reducible refine (refCheckA_any _ x0 _ (S0.out _ HBC)).mono ?_; rw [AE.out]; rintro e wD ⟨rfl, hbD⟩; have HBD := bel_call HBC hbD))
        | (go_at_call 19; (with_reducible refine (aSame_any _ _ x0 x1 _ (S0.out _ HBD) (S1.out _ HBD)).mono ?_; rw [DD.out]; rintro e wE ⟨rfl, hbE⟩; have HBE := bel_call HBD hbE))
        | (go_at_call 16; (with_reducible refine (refSameA_any _ _ x0 x1 _ (S0.out _ HBE) (S1.out _ HBE)).mono ?_; rw [DD.out]; rintro e wF ⟨rfl, hbF⟩; have HBF := bel_call HBE hbF)))
    go_wp2_with fail
    go_meet
    case rel => exact ⟨rfl, HBF⟩
  case rest =>
  obtain ⟨rfl, HBC⟩ := hcut
  have HBc := bel_call HB HBC
  have HXc := bel_call HX HBC
  have HWc := bel_call HW HBC
  have QC := (QN.out.keep fun p hp => HXc.cell hp.2.1).wide fun b hb => hb.keep HXc
  have kx' := (VX.call HXc).c0
  have hq6 := QC.cap
  unfold maxLen at hq6
  have HQC := hid QC
  have HBB := hid HBc
  have HWB := hid HWc
  clear HB HX HY HP HQ HBC HXc QC KK SX SY SP SQ S0 S1 QN k0 k1 kx ky kp kq PX PY PP PQ H8 HBc HWc HW
  go_wp2
  go_loopw [124] (fun i wr => ∃ j : Nat, j ≤ n6 ∧ i = .int .i64 j ∧ Scb W4.heap.size wc wr) (fun i _ => n6 - (intOf i).toNat)
  case atStart => exact ⟨0, Nat.zero_le _, rfl, Scb.refl _ _⟩
  case round =>
    obtain ⟨j, hj, rfl, hscr⟩ := hrel
    have p0 := hscr.sl kx'
    by_cases hlt : j < n6
    · obtain ⟨b, off, A', n', c', hx, rfl, e1, hV'⟩ := trm_new HQC.out hlt
      have hcv := hV'.cap
      unfold maxLen at hcv
      have e1' := hscr.sl e1
      have HV' := hid hV'
      clear hV'
      go_wp2
      go_loopw [134] (fun i wr' => ∃ k : Nat, k ≤ n' ∧ i = .int .i64 k ∧ Scb W4.heap.size wc wr') (fun i _ => n' - (intOf i).toNat)
      case atStart => exact ⟨0, Nat.zero_le _, rfl, hscr⟩
      case round =>
        obtain ⟨k, hk, rfl, hscr'⟩ := hrel
        have e2 := hscr'.sl e1
        have p1 := hscr'.sl kx'
        by_cases hlk : k < n'
        · obtain ⟨b2, off2, rfl, hbl, hcells⟩ := nums_at HV'.out (by omega)
          obtain ⟨hfz, x, hx⟩ := hcells k hlk
          obtain ⟨y, hy⟩ := hscr'.ints b2 (off2 + k) _ x hx
          have hfz' := (hscr'.fz ⟨b2, off2 + k, none⟩).trans hfz
          have HX := hid hx
          clear hcells hfz hx e1 e1' p0
          go_wp2
          go_roundw
          case rel => exact ⟨k + 1, by omega, by go_num, hscr'.put hbl HX.out _⟩
          case measure => simp [intOf]; omega
        · go_wp2
          go_roundw
          case rel => exact ⟨j + 1, by omega, by go_num, hscr'⟩
          case measure => simp [intOf]; omega
    · have hj' : decide ((j : Int) < (n6 : Int)) = false := by simp; omega
      have HB9 := HBB.out.trans (hscr.bel.mono hlo)
      have HW9 : Below W4.heap.size W4 wr := HWB.out.trans hscr.bel
      have q0 := C0.out _ HB9
      have qw := (VW.call HW9).c0
      have HSM := hid (refSameA_any _ _ x0 x0 wr (PW0.out _ HB9) (ar_at PWS.out HW9))
      rw [decide_eq_true (rfl : x0 = x0)] at HSM
      have HBE := hid (bel_call hb0 HB9)
      clear p0
      go_wp2_with (go_at_call 16; go_must (refine HSM.out.mono ?_; rintro e w9 ⟨rfl, hb9⟩))
      go_ret
      exact ⟨rfl, bel_call HBE.out hb9⟩
end Go.Proofs.Ythcikbmekjmmlaa
