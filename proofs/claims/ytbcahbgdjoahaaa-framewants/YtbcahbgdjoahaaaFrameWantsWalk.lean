/-
  The walk of FrameWants.
-/
import Derived.Test.YtbcahbgdjoahaaaFrameLive
namespace Go.Proofs.Ytbcahbgdjoahaaa
open Go.RowKit Go.WalkArith

set_option maxRecDepth 100000 in
set_option maxHeartbeats 2000000 in
theorem frameWants_walk (s0 : Array Value) (x0 : Rdr) (A1 : Option Addr) (n1 c1 : Nat) (x1 : List Int) (w : World) (r0 : lay_Reader.rep w (· < w.heap.size) x0 s0.toList) (r1 : Rd w w.heap.size .u8 A1 n1 c1 x1) :
    Calls Try.prog 6 #[.agg s0, .slice A1 n1 c1] w fun e w' => e = .returned (.bool true) ∧ Below w.heap.size w w' := by
  obtain ⟨A0, n0, c0, hcs, hV⟩ := rep_Reader.1 r0
  obtain rfl : s0 = #[.slice A0 n0 c0, .bool x0.Bad] := Array.ext' hcs
  have hc0 := hV.cap
  have hc1 := r1.cap
  unfold maxLen at hc0 hc1
  have HL0 := hid hV.len
  have HL1 := hid r1.len
  have O0 := hid (oct_of (hV.rd (B := w.heap.size) fun _ h => h))
  have O1 := hid (oct_of r1)
  have hb0 : Below w.heap.size w (w.alloc (Obj.cells #[.slice A0 n0 c0, .bool x0.Bad] 24)) := bel_alloc (Below.refl _ _) _
  have V0 := Var2.new w 24 (.slice A0 n0 c0) (.bool x0.Bad)
  have P0 := hid (rep_at r0 hb0)
  have R1 := hid (r1.below hb0)
  clear r0 r1 hV hcs
  go_enter Try.func6, Try.ntmps6
  go_wp2_with fail
  generalize (w.alloc (Obj.cells #[.slice A0 n0 c0, .bool x0.Bad] 24)) = W0 at *
  have RW := hid (fun (W : World) (h : Below W0.heap.size W0 W) => (R1.out.below (h.mono hb0.size)))
  with_reducible refine (live3_any _).mono ?_
  rintro e w1 ⟨rfl, hb1⟩
  have HB := hb1
  clear hb1
  have k0 := (V0.call HB).c0
  have HBE := hid (bel_call hb0 HB)
  by_cases h5 : 200 < n0 ∨ 5000 < n1
  · rcases Nat.lt_or_ge 200 n0 with h6 | h6
    · have d5 : decide ((200 : Int) < (n0 : Int)) = true := by simp; omega
      go_wp2
      go_ret
      exact ⟨rfl, HBE.out⟩
    · have d5 : decide ((200 : Int) < (n0 : Int)) = false := by simp; omega
      have d6 : decide ((5000 : Int) < (n1 : Int)) = true := by simp; omega
      go_wp2
      go_ret
      exact ⟨rfl, HBE.out⟩
  have d5 : decide ((200 : Int) < (n0 : Int)) = false := by simp; omega
  have d6 : decide ((5000 : Int) < (n1 : Int)) = false := by simp; omega
  have hn0 : n0 ≤ 200 := by omega
  have hn1 : n1 ≤ 5000 := by omega
  clear h5
  have k1 := (V0.call HB).c1
  go_wp2_with fail
  with_reducible refine (frameWants_any _ x0 _ (rep_at P0.out HB)).mono ?_
  rintro e w2 ⟨rfl, hb2⟩
  replace HB := bel_call HB hb2
  clear hb2 HBE
  replace k0 := (V0.call HB).c0
  replace k1 := (V0.call HB).c1
  have HBE := hid (bel_call hb0 HB)
  by_cases hk : RdrOk x0
  case neg =>
    have HE := hid (show waE x0 = 1 from chkF_no hk)
    have HN := hid (waN_no hk)
    rw [HE.out, HN.out]
    clear hk
    go_wp2
    go_ret
    exact ⟨rfl, HBE.out⟩
  have HE := hid (show waE x0 = 0 from chkF_ok hk)
  rw [HE.out]
  by_cases hbad : x0.Bad = true
  · have HN := hid (waN_bad hk hbad)
    rw [HN.out]
    rw [hbad] at k1
    clear hk hbad
    go_wp2
    go_ret
    exact ⟨rfl, HBE.out⟩
  have hbad' : x0.Bad = false := by simpa using hbad
  have HN := hid (waN_ok hk hbad')
  rw [HN.out]
  rw [hbad'] at k1 V0 P0
  have hx0 : x0 = ⟨x0.B, false⟩ := by cases x0; simp_all
  have hk' : RdrOk ⟨x0.B, false⟩ := by rw [← hx0]; exact hk
  have hwp := want_pos hk'
  obtain ⟨N, hN⟩ : ∃ N : Nat, wantN x0.B = (N : Int) := Int.eq_ofNat_of_zero_le (by omega)
  have HX0 := hid hx0
  have HK := hid hk
  have HK' := hid hk'
  have hN1 : 1 ≤ N := by omega
  have hNb : N ≤ 65537 := by
    have h1 := longN_bd O0.out
    unfold wantN at hN
    split at hN <;> omega
  have HNN := hid hN
  rw [HNN.out]
  have dN : decide ((N : Int) < 1) = false := by simp; omega
  have HFE := hid (fun (ys : List Int) (h : ys.length ≤ 65535) => (show fdE x0 ys = 0 from by unfold fdE; rw [if_neg (by simpa using HK.out), if_neg (by omega)]))
  have HFR := hid (fun (ys : List Int) (h : ys.length ≤ 65535) => (show fdR x0 ys = (feedS x0 ys).1 ∧ fdL x0 ys = (feedS x0 ys).2 from ⟨if_pos (HFE.out ys h), if_pos (HFE.out ys h)⟩))
  clear hx0 hk hk' hbad hbad' hwp hN HBE
  by_cases hlt : n1 < N
  · have dl : decide ((n1 : Int) < (N : Int)) = true := by simp; omega
    obtain ⟨g1, g2⟩ := feedS_wait x1 x0.B HK'.out O0.out O1.out (by rw [HL1.out, HNN.out]; omega)
    have F1 : feedS x0 x1 = (⟨x0.B ++ x1, false⟩, []) := by
      have h9 := g1
      rw [← HX0.out] at h9
      exact h9
    have hok := (feedS_ok x1 x0 HK.out O0.out O1.out).1
    have HF1 := hid (show fdE x0 x1 = 0 ∧ fdR x0 x1 = ⟨x0.B ++ x1, false⟩ ∧ fdL x0 x1 = [] from ⟨HFE.out x1 (by rw [HL1.out]; omega), by rw [(HFR.out x1 (by rw [HL1.out]; omega)).1, F1], by rw [(HFR.out x1 (by rw [HL1.out]; omega)).2, F1]⟩)
    have HW2 := hid (show waE ⟨x0.B ++ x1, false⟩ = 0 ∧ waN ⟨x0.B ++ x1, false⟩ = (N : Int) - (n1 : Int) from by
      rw [F1] at hok
      refine ⟨chkF_ok hok, ?_⟩
      rw [waN_ok hok rfl]
      show wantN (x0.B ++ x1) = _
      rw [g2, HNN.out, HL1.out])
    clear g1 g2 F1 hok
    go_wp2_with fail
    with_reducible refine (frameFeed_any _ x0 _ _ _ x1 _ (rep_at P0.out HB) ((RW.out _ HB).more (Nat.le_trans hb0.size HB.size))).mono ?_
    rintro e w3 ⟨A3, n3, c3, v3, rfl, hs3, hown3, hb3⟩
    rw [HF1.out.1, HF1.out.2.1, HF1.out.2.2] at *
    obtain ⟨A4, n4, c4, rfl, q4⟩ := hown3.read
    have hl4 : n4 = 0 := q4.len.symm
    subst hl4
    have hba := bel_alloc (Below.refl w3.heap.size w3) (Obj.cells #[.slice A3 n3 c3, .bool false] 24)
    have PX := hid (show lay_Reader.rep (w3.alloc (Obj.cells #[.slice A3 n3 c3, .bool false] 24)) (· < (w3.alloc (Obj.cells #[.slice A3 n3 c3, .bool false] 24)).heap.size) ⟨x0.B ++ x1, false⟩ (#[.slice A3 n3 c3, .bool false] : Array Value).toList from
      rep_at (rep_Reader.2 ⟨A3, n3, c3, rfl, hs3.wide fun _ hb => hb.2.1⟩) hba)
    have V3 := Var2.new w3 24 (.slice A3 n3 c3) (.bool false)
    replace HB := bel_call (bel_call HB hb3) hba
    clear hb3 hba hs3 hown3 q4
    simp only at *
    go_wp2_with fail
    generalize w3.alloc (Obj.cells #[.slice A3 n3 c3, .bool false] 24) = W3 at *
    with_reducible refine (frameWants_any _ ⟨x0.B ++ x1, false⟩ _ PX.out).mono ?_
    rw [HW2.out.1, HW2.out.2]
    rintro e w4 ⟨rfl, hb4⟩
    have m0 := (V3.call hb4).c0
    have m1 := (V3.call hb4).c1
    have HBE := hid (bel_call hb0 (bel_call HB hb4))
    have ws : IntKind.i64.wrap ((N : Int) - (n1 : Int)) = (N : Int) - (n1 : Int) := IntWalk.i64_in _ (by omega)
    go_wp2
    go_ret
    exact ⟨rfl, HBE.out⟩
  · have dl : decide ((n1 : Int) < (N : Int)) = false := by simp; omega
    have hx1t : (x1.take N).length = N := by rw [List.length_take, HL1.out]; omega
    have hot : Oct (x1.take N) := oct_take O1.out N
    have hj := feedS_just HK'.out O0.out hot (by rw [hx1t, HNN.out])
    rw [← HX0.out] at hj
    have HF1 := hid (show fdE x0 (x1.take N) = 0 ∧ fdR x0 (x1.take N) = (feedS x0 (x1.take N)).1 ∧ fdL x0 (x1.take N) = (feedS x0 (x1.take N)).2 from ⟨HFE.out _ (by omega), (HFR.out _ (by omega)).1, (HFR.out _ (by omega)).2⟩)
    have hup := run_uptoL (P := Try.prog) 22 5 .i64 Try.underlying22 Try.elemU8 Try.infoU8 A1 n1 c1 N (by omega)
    have RU := hid (fun (W : World) (h : Below W0.heap.size W0 W) => ((RW.out _ h).upto (i := N) (by omega)).more (Nat.le_trans hb0.size h.size))
    have PW := hid (fun (W : World) (h : Below W0.heap.size W0 W) => rep_at P0.out h)
    have KC := hid (fun (W : World) (h : Below W0.heap.size W0 W) => And.intro (V0.call h).c0 (V0.call h).c1)
    have hg2 : w.heap.size < w2.heap.size := Nat.lt_of_lt_of_le V0.lt HB.size
    generalize hG : feedS x0 (x1.take N) = p at *
    obtain ⟨⟨B2, b2⟩, l2⟩ := p
    have HJ := hid hj
    clear hj hG hx1t hot HFE HFR
    simp only at *
    go_wp2_with fail
    go_region_held3 (fun w' => w'.cell? ⟨w.heap.size, 0, none⟩ = some (.slice A0 n0 c0) ∧ w'.cell? ⟨w.heap.size, 1, none⟩ = some (.bool false))
      (first | exact ⟨k0, k1⟩ | exact KC.out _ HB3 | exact ⟨(World.cell?_alloc_past _ _ _ hg2).trans k0, (World.cell?_alloc_past _ _ _ hg2).trans k1⟩ | exact KC.out _ (bel_alloc HB3 _) | exact KC.out _ ((HB3.setCell (p := ⟨w2.heap.size, 0, none⟩) HB.size _).setCell (p := ⟨w2.heap.size, 1, none⟩) HB.size _) | go_keep)
      (first
        | (go_at_call 10; (refine (frameFeed_any _ x0 _ _ _ (x1.take N) _ (PW.out _ HB.drew) (RU.out _ HB.drew)).mono ?_; rintro e w3 ⟨A3, n3, c3, v3, rfl, hs3, hown3, hb3⟩; rw [HF1.out.1, HF1.out.2.1, HF1.out.2.2] at *; obtain ⟨A4, n4, c4, rfl, q4⟩ := hown3.read; have HB3 := bel_call HB.drew hb3; simp only at *))
        | (go_at_call 10; (refine (frameFeed_any _ x0 _ _ _ (x1.take N) _ (PW.out _ (bel_alloc HB.drew _)) (RU.out _ (bel_alloc HB.drew _))).mono ?_; rintro e w3 ⟨A3, n3, c3, v3, rfl, hs3, hown3, hb3⟩; rw [HF1.out.1, HF1.out.2.1, HF1.out.2.2] at *; obtain ⟨A4, n4, c4, rfl, q4⟩ := hown3.read; have HB3 := bel_call (bel_alloc HB.drew _) hb3; have T : Var2 w3 w2.heap.size 24 (.slice none 0 0) (.bool false) := (Var2.new w2.drew 24 (.slice none 0 0) (.bool false)).call hb3; have t0 := T.c0; have t1 := T.c1; have t2 := T.f 0; have t3 := T.f 1; simp only at *)))
    · have e4 := q4.len
      have e3 := hs3.len
      have HBE := hid (bel_call hb0 (bel_alloc HB3 (Obj.cells #[.slice A3 n3 c3, .bool b2] 24)))
      rcases HJ.out with ⟨j1, j2⟩ | ⟨j1, j2 | j2⟩
      · have f4 : n4 = 1 := by omega
        have f3 : n3 = 0 := by omega
        subst f4 f3
        clear e4 e3 j1 j2 HJ
        go_wp2
        go_ret
        exact ⟨rfl, HBE.out⟩
      · have f4 : n4 = 0 := by omega
        subst f4 j2
        clear e4 e3 j1 HJ
        go_wp2
        go_ret
        exact ⟨rfl, HBE.out⟩
      · have f4 : n4 = 0 := by omega
        have f3 : n3 = 2 := by omega
        subst f4 f3
        clear e4 e3 j1 j2 HJ
        cases b2
        all_goals
          go_wp2
          go_ret
          exact ⟨rfl, HBE.out⟩
    · have e4 := q4.len
      have e3 := hs3.len
      have HBE := hid (bel_call hb0 ((HB3.setCell (p := ⟨w2.heap.size, 0, none⟩) HB.size (.slice A3 n3 c3)).setCell (p := ⟨w2.heap.size, 1, none⟩) HB.size (.bool b2)))
      have s0 := (set2' (x := .slice A3 n3 c3) (y := .bool b2) t0 t1).1
      have s1 := (set2' (x := .slice A3 n3 c3) (y := .bool b2) t0 t1).2
      clear t0 t1 t2 t3 T
      rcases HJ.out with ⟨j1, j2⟩ | ⟨j1, j2 | j2⟩
      · have f4 : n4 = 1 := by omega
        have f3 : n3 = 0 := by omega
        subst f4 f3
        clear e4 e3 j1 j2 HJ
        go_wp2
        go_ret
        exact ⟨rfl, HBE.out⟩
      · have f4 : n4 = 0 := by omega
        subst f4 j2
        clear e4 e3 j1 HJ
        go_wp2
        go_ret
        exact ⟨rfl, HBE.out⟩
      · have f4 : n4 = 0 := by omega
        have f3 : n3 = 2 := by omega
        subst f4 f3
        clear e4 e3 j1 j2 HJ
        cases b2
        all_goals
          go_wp2
          go_ret
          exact ⟨rfl, HBE.out⟩
end Go.Proofs.Ytbcahbgdjoahaaa
