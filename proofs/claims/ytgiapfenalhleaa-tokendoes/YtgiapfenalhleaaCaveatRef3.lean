/-
  The contract of the document's Get of layer 6.
-/
import Derived.Test.YtgiapfenalhleaaCaveatRef2
namespace Go.Proofs.Ytgiapfenalhleaa
open Go.RowKit Go.WalkArith

/-- A caveat, handed back by value. -/
abbrev cavV (c : Cav) : Value := .agg #[.int .i64 c.Kind, .int .u64 c.A, .int .u64 c.B]
theorem cavWf_mk {k a b : Int} (h1 : -9223372036854775808 ≤ k ∧ k ≤ 9223372036854775807) (h2 : 0 ≤ a ∧ a ≤ 18446744073709551615) (h3 : 0 ≤ b ∧ b ≤ 18446744073709551615) : CavWf ⟨k, a, b⟩ := ⟨wf_i64 h1, wf_u64 h2, wf_u64 h3⟩
theorem rd_octs {w : World} {B : Nat} {A : Option Addr} {n c : Nat} {xs : List Int} (h : Rd w B .u8 A n c xs) : ∀ x ∈ xs, 0 ≤ x ∧ x ≤ 255 := fun x hx => bounds_u8 (h.wf x hx)

set_option maxRecDepth 100000 in
set_option maxHeartbeats 4000000 in
theorem refGetC_any (A : Option Addr) (n c : Nat) (xs : List Int) (w : World) (hr : Rd w w.heap.size .u8 A n c xs) (hn : n ≤ 1000000) :
    Calls Try.prog 60 #[.slice A n c] w fun e w' => e = .returned (.tuple #[cavV (getC xs).1, .int .i64 (getC xs).2]) ∧ Below w.heap.size w w' := by
  have hcap := hr.cap
  unfold maxLen at hcap
  have HL := hid hr.len
  have HW := hid (rd_octs hr)
  have hb0 : Below w.heap.size w (w.alloc (Obj.cells #[.int .i64 0, .int .u64 0, .int .u64 0] 30)) := bel_alloc (Below.refl _ _) _
  have V0 := Var3.new w 30 (.int .i64 0) (.int .u64 0) (.int .u64 0)
  have hz0 : (w.alloc (Obj.cells #[.int .i64 0, .int .u64 0, .int .u64 0] 30)).heap.size = w.heap.size + 1 := by simp
  have RX := hid (fun (W : World) (h : Below w.heap.size w W) => (hr.below h).more h.size)
  clear hr
  go_enter Try.func60, Try.ntmps60
  go_wp2_with fail
  generalize w.alloc (Obj.cells #[.int .i64 0, .int .u64 0, .int .u64 0] 30) = W0 at *
  by_cases e1 : getE xs = 0
  rotate_left
  · have HG := hid (show getC xs = (zeroC, getE xs) from if_neg e1)
    refine (refGet_bad _ _ _ xs W0 (RX.out W0 hb0) e1).mono ?_
    rintro e w1 ⟨rfl, hb1⟩
    have HB1 := bel_call hb0 hb1
    have V1 := V0.call hb1
    have k0 := V1.c0
    have k1 := V1.c1
    have k2 := V1.c2
    have f0 := V1.f 0
    have f1 := V1.f 1
    have f2 := V1.f 2
    have V2 := hid (V1.set (.int .i64 0) (.int .u64 0) (.int .u64 0))
    have HB2 := hid (((HB1.setCell (p := ⟨w.heap.size, 0, none⟩) (Nat.le_refl _) (.int .i64 0)).setCell (p := ⟨w.heap.size, 1, none⟩) (Nat.le_refl _) (.int .u64 0)).setCell (p := ⟨w.heap.size, 2, none⟩) (Nat.le_refl _) (.int .u64 0))
    have hne : (getE xs != 0) = true := by simpa using e1
    clear e1 hb1 hb0 V0 V1
    generalize getE xs = ge at *
    go_wp2
    refine bodyPost_ret_by (results_ct rfl _ _ w.heap.size 0 rfl [.int .i64 0, .int .u64 0, .int .u64 0] _ (range3 V2.out.c0 V2.out.c1 V2.out.c2) Try.underlying30 rfl (by kernel_rfl)) rfl ?_
    exact ⟨by rw [HG.out]; rfl, HB2.out⟩
  refine (refGet_ok _ _ _ xs W0 (RX.out W0 hb0) e1).mono ?_
  rintro e w1 ⟨rfl, hb1⟩
  have HB1 := bel_call hb0 hb1
  have V1 := V0.call hb1
  have hz1 := hb1.size
  have bK := getE_rd HW.out e1
  have hk1 := (put_get HW.out e1).2
  rw [HL.out] at hk1
  have HG := hid (show getC xs = if 1 ≤ rdN xs ∧ rdN xs ≤ 5 then getC1 (rdN xs) (xs.drop (oct (rdN xs)).length) else (zeroC, 2) from if_pos e1)
  have RY := hid (fun (W : World) (h : Below w.heap.size w W) => (RX.out W h).cut (i := (oct (rdN xs)).length) hk1)
  have HWY := hid (drop_bd HW.out (oct (rdN xs)).length)
  have HLY := hid (show (xs.drop (oct (rdN xs)).length).length = n - (oct (rdN xs)).length from by rw [List.length_drop, HL.out])
  have hcut := run_from (P := Try.prog) 46 5 Try.underlying46 Try.elemU8 Try.infoU8 A n c (oct (rdN xs)).length hk1
  clear hb1 hb0 V0 RX e1 HW HL
  generalize xs.drop (oct (rdN xs)).length = ys at *
  generalize (oct (rdN xs)).length = l1 at *
  generalize rdN xs = kd at *
  by_cases hkd : 1 ≤ kd ∧ kd ≤ 5
  rotate_left
  · have HG2 := hid (HG.out.trans (if_neg hkd))
    have k0 := V1.c0
    have k1 := V1.c1
    have k2 := V1.c2
    have f0 := V1.f 0
    have f1 := V1.f 1
    have f2 := V1.f 2
    have V2 := hid (V1.set (.int .i64 0) (.int .u64 0) (.int .u64 0))
    have HB2 := hid (((HB1.setCell (p := ⟨w.heap.size, 0, none⟩) (Nat.le_refl _) (.int .i64 0)).setCell (p := ⟨w.heap.size, 1, none⟩) (Nat.le_refl _) (.int .u64 0)).setCell (p := ⟨w.heap.size, 2, none⟩) (Nat.le_refl _) (.int .u64 0))
    clear V1 HG
    by_cases h0 : kd < 1
    · have d1 : decide (kd < 1) = true := by simpa using h0
      go_wp2
      refine bodyPost_ret_by (results_ct rfl _ _ w.heap.size 0 rfl [.int .i64 0, .int .u64 0, .int .u64 0] _ (range3 V2.out.c0 V2.out.c1 V2.out.c2) Try.underlying30 rfl (by kernel_rfl)) rfl ?_
      exact ⟨by rw [HG2.out]; rfl, HB2.out⟩
    · have d1 : decide (kd < 1) = false := by simpa using h0
      have d2 : decide (5 < kd) = true := by simp; omega
      go_wp2
      refine bodyPost_ret_by (results_ct rfl _ _ w.heap.size 0 rfl [.int .i64 0, .int .u64 0, .int .u64 0] _ (range3 V2.out.c0 V2.out.c1 V2.out.c2) Try.underlying30 rfl (by kernel_rfl)) rfl ?_
      exact ⟨by rw [HG2.out]; rfl, HB2.out⟩
  have HG2 := hid (HG.out.trans (if_pos hkd))
  have d1 : decide (kd < 1) = false := by simp; omega
  have d2 : decide (5 < kd) = false := by simp; omega
  have wk : IntKind.i64.wrap kd = kd := IntWalk.i64_in _ (by omega)
  have hba : Below w1.heap.size w1 (w1.alloc (Obj.cells #[.int .i64 kd, .int .u64 0, .int .u64 0] 30)) := bel_alloc (Below.refl _ _) _
  have C1 := Var3.new w1 30 (.int .i64 kd) (.int .u64 0) (.int .u64 0)
  clear HG
  go_wp2_with fail
  generalize w1.alloc (Obj.cells #[.int .i64 kd, .int .u64 0, .int .u64 0] 30) = W1 at *
  have HB1' := bel_call HB1 hba
  have V1' := V1.call hba
  have hza := hba.size
  have hgc : w.heap.size < w1.heap.size := V1.lt
  generalize w1.heap.size = gc at *
  by_cases e2 : getE ys = 0
  rotate_left
  · have HG3 := hid (HG2.out.trans (show getC1 kd ys = (zeroC, getE ys) from if_neg e2))
    refine (refGet_bad _ _ _ ys W1 (RY.out W1 HB1') e2).mono ?_
    rintro e w2 ⟨rfl, hb2⟩
    have C2 := C1.call hb2
    have V2 := V1'.call hb2
    have HB2 := bel_call HB1' hb2
    have c1 := C2.c1
    have g1 := C2.f 1
    have V3 := V2.setOther (b := gc) (by omega) 1 (.int .u64 0)
    have HB3 := HB2.setCell (p := ⟨gc, 1, none⟩) (by show w.heap.size ≤ gc; omega) (.int .u64 0)
    have hne : (getE ys != 0) = true := by simpa using e2
    clear e2 hb2 V1 V1' V2 C1 C2
    generalize getE ys = ge at *
    have k0 := V3.c0
    have k1 := V3.c1
    have k2 := V3.c2
    have f0 := V3.f 0
    have f1 := V3.f 1
    have f2 := V3.f 2
    have V9 := hid (V3.set (.int .i64 0) (.int .u64 0) (.int .u64 0))
    have HB9 := hid (((HB3.setCell (p := ⟨w.heap.size, 0, none⟩) (Nat.le_refl _) (.int .i64 0)).setCell (p := ⟨w.heap.size, 1, none⟩) (Nat.le_refl _) (.int .u64 0)).setCell (p := ⟨w.heap.size, 2, none⟩) (Nat.le_refl _) (.int .u64 0))
    clear V3
    go_wp2
    refine bodyPost_ret_by (results_ct rfl _ _ w.heap.size 0 rfl [.int .i64 0, .int .u64 0, .int .u64 0] _ (range3 V9.out.c0 V9.out.c1 V9.out.c2) Try.underlying30 rfl (by kernel_rfl)) rfl ?_
    exact ⟨by rw [HG3.out]; rfl, HB9.out⟩
  refine (refGet_ok _ _ _ ys W1 (RY.out W1 HB1') e2).mono ?_
  rintro e w2 ⟨rfl, hb2⟩
  have C2 := C1.call hb2
  have V2 := V1'.call hb2
  have HB2 := bel_call HB1' hb2
  have c1 := C2.c1
  have g1 := C2.f 1
  have bA := getE_rd HWY.out e2
  have hk2 := (put_get HWY.out e2).2
  rw [HLY.out] at hk2
  have HG3 := hid (HG2.out.trans (show getC1 kd ys = getC2 kd (rdN ys) (ys.drop (oct (rdN ys)).length) from if_pos e2))
  have RZ := hid (fun (W : World) (h : Below w.heap.size w W) => (RY.out W h).cut (i := (oct (rdN ys)).length) hk2)
  have HWZ := hid (drop_bd HWY.out (oct (rdN ys)).length)
  have HLZ := hid (show (ys.drop (oct (rdN ys)).length).length = n - l1 - (oct (rdN ys)).length from by rw [List.length_drop, HLY.out])
  have hcut2 := run_from (P := Try.prog) 46 5 Try.underlying46 Try.elemU8 Try.infoU8 (cutA A c l1) (n - l1) (c - l1) (oct (rdN ys)).length hk2
  clear HG2 RY e2 HWY HLY hb2 C1 V1 V1' HB1' HB1 hba
  generalize ys.drop (oct (rdN ys)).length = zs at *
  generalize (oct (rdN ys)).length = l2 at *
  generalize rdN ys = an at *
  have C3 := C2.set1 (.int .u64 an)
  have V3 := V2.setOther (b := gc) (by omega) 1 (.int .u64 an)
  have HB3 := HB2.setCell (p := ⟨gc, 1, none⟩) (by show w.heap.size ≤ gc; omega) (.int .u64 an)
  clear C2 V2 HB2
  generalize hA2 : cutA (cutA A c l1) (c - l1) l2 = A2 at *
  clear hA2
  generalize hn2 : n - l1 - l2 = n2 at *
  have hn2' : n2 ≤ 1000000 := by omega
  generalize hc2 : c - l1 - l2 = c2 at *
  clear hc2 hn2
  have HCK := hid (fun (cc : Cav) (hcw : CavWf cc) W => refCheckC_any #[.int .i64 cc.Kind, .int .u64 cc.A, .int .u64 cc.B] (fun _ => True) cc W (rep_Caveat.2 ⟨rfl, hcw⟩))
  by_cases h4 : kd = 4
  · subst h4
    by_cases e3 : getE zs = 0
    rotate_left
    · have HG4 := hid (HG3.out.trans ((show getC2 4 an zs = _ from if_pos rfl).trans (if_neg e3)))
      have HGB := hid (refGet_bad _ _ _ zs _ (RZ.out _ HB3) e3)
      have hne : (getE zs != 0) = true := by simpa using e3
      have q2 := C3.c2
      clear e3
      generalize getE zs = ge at *
      go_wp2_with fail
      refine HGB.out.mono ?_
      rintro e w5 ⟨rfl, hb5⟩
      have C5 := C3.call hb5
      have V5 := V3.call hb5
      have HB5 := bel_call HB3 hb5
      have p2 := C5.c2
      have pf := C5.f 2
      have V6 := V5.setOther (b := gc) (by omega) 2 (.int .u64 0)
      have HB6 := HB5.setCell (p := ⟨gc, 2, none⟩) (by show w.heap.size ≤ gc; omega) (.int .u64 0)
      clear hb5 C5 V5 C3 V3 HGB
      have k0 := V6.c0
      have k1 := V6.c1
      have k2 := V6.c2
      have f0 := V6.f 0
      have f1 := V6.f 1
      have f2 := V6.f 2
      have V9 := hid (V6.set (.int .i64 0) (.int .u64 0) (.int .u64 0))
      have HB9 := hid (((HB6.setCell (p := ⟨w.heap.size, 0, none⟩) (Nat.le_refl _) (.int .i64 0)).setCell (p := ⟨w.heap.size, 1, none⟩) (Nat.le_refl _) (.int .u64 0)).setCell (p := ⟨w.heap.size, 2, none⟩) (Nat.le_refl _) (.int .u64 0))
      clear V6
      go_wp2
      refine bodyPost_ret_by (results_ct rfl _ _ w.heap.size 0 rfl [.int .i64 0, .int .u64 0, .int .u64 0] _ (range3 V9.out.c0 V9.out.c1 V9.out.c2) Try.underlying30 rfl (by kernel_rfl)) rfl ?_
      exact ⟨by rw [HG4.out]; rfl, HB9.out⟩
    · have HG4 := hid (HG3.out.trans ((show getC2 4 an zs = _ from if_pos rfl).trans (if_pos e3)))
      have HGB := hid (refGet_ok _ _ _ zs _ (RZ.out _ HB3) e3)
      have bB := getE_rd HWZ.out e3
      have hk3 := (put_get HWZ.out e3).2
      rw [HLZ.out] at hk3
      have HLT := hid (show (zs.drop (oct (rdN zs)).length).length = n2 - (oct (rdN zs)).length from by rw [List.length_drop, HLZ.out])
      have hcut3 := run_from (P := Try.prog) 46 5 Try.underlying46 Try.elemU8 Try.infoU8 A2 n2 c2 (oct (rdN zs)).length hk3
      clear e3 HG3
      generalize zs.drop (oct (rdN zs)).length = ts at *
      generalize (oct (rdN zs)).length = l3 at *
      generalize rdN zs = bn at *
      go_wp2_with fail
      refine HGB.out.mono ?_
      rintro e w5 ⟨rfl, hb5⟩
      have C5 := C3.call hb5
      have V5 := V3.call hb5
      have HB5 := bel_call HB3 hb5
      have p2 := C5.c2
      have pf := C5.f 2
      have C6 := C5.set2 (.int .u64 bn)
      have V6 := V5.setOther (b := gc) (by omega) 2 (.int .u64 bn)
      have HB6 := HB5.setCell (p := ⟨gc, 2, none⟩) (by show w.heap.size ≤ gc; omega) (.int .u64 bn)
      clear hb5 C5 V5 C3 V3 HGB HB5
      generalize hn3 : n2 - l3 = n3 at *
      have hn3' : n3 ≤ 1000000 := by omega
      clear hn3
      have q0 := C6.c0
      have q1 := C6.c1
      have q2 := C6.c2
      have hcw : CavWf ⟨4, an, bn⟩ := cavWf_mk (by omega) (by omega) (by omega)
      by_cases hz : ts = []
      · have hn0 : n3 = 0 := by rw [← HLT.out, hz]; rfl
        subst hn0
        have HCE := hid (cavE_is (c := ⟨4, an, bn⟩))
        have HC := hid (HCK.out ⟨4, an, bn⟩ hcw)
        clear HCK
        go_wp2_with fail
        refine (HC.out _).mono ?_
        rintro e w5 ⟨rfl, hb5⟩
        have C5 := C6.call hb5
        have V5 := V6.call hb5
        have HB5 := bel_call HB6 hb5
        have r0 := C5.c0
        have r1 := C5.c1
        have r2 := C5.c2
        clear hb5 q0 q1 q2 C6 V6
        rcases HCE.out with ⟨hE, hok⟩ | ⟨hE, hok⟩
        · rw [hE]
          have HGF := hid (HG4.out.trans (show finC ⟨4, an, bn⟩ ts = (⟨4, an, bn⟩, 0) from if_pos ⟨hz, hok⟩))
          clear hE hok
          have k0 := V5.c0
          have k1 := V5.c1
          have k2 := V5.c2
          have f0 := V5.f 0
          have f1 := V5.f 1
          have f2 := V5.f 2
          have V9 := hid (V5.set (.int .i64 4) (.int .u64 an) (.int .u64 bn))
          have HB9 := hid (((HB5.setCell (p := ⟨w.heap.size, 0, none⟩) (Nat.le_refl _) (.int .i64 4)).setCell (p := ⟨w.heap.size, 1, none⟩) (Nat.le_refl _) (.int .u64 an)).setCell (p := ⟨w.heap.size, 2, none⟩) (Nat.le_refl _) (.int .u64 bn))
          clear V5 C5
          go_wp2
          refine bodyPost_ret_by (results_ct rfl _ _ w.heap.size 0 rfl [.int .i64 4, .int .u64 an, .int .u64 bn] _ (range3 V9.out.c0 V9.out.c1 V9.out.c2) Try.underlying30 rfl (by kernel_rfl)) rfl ?_
          exact ⟨by rw [HGF.out]; rfl, HB9.out⟩
        · rw [hE]
          have HGF := hid (HG4.out.trans (show finC ⟨4, an, bn⟩ ts = (zeroC, 2) from if_neg fun k => hok k.2))
          clear hE hok
          have k0 := V5.c0
          have k1 := V5.c1
          have k2 := V5.c2
          have f0 := V5.f 0
          have f1 := V5.f 1
          have f2 := V5.f 2
          have V9 := hid (V5.set (.int .i64 0) (.int .u64 0) (.int .u64 0))
          have HB9 := hid (((HB5.setCell (p := ⟨w.heap.size, 0, none⟩) (Nat.le_refl _) (.int .i64 0)).setCell (p := ⟨w.heap.size, 1, none⟩) (Nat.le_refl _) (.int .u64 0)).setCell (p := ⟨w.heap.size, 2, none⟩) (Nat.le_refl _) (.int .u64 0))
          clear V5 C5
          go_wp2
          refine bodyPost_ret_by (results_ct rfl _ _ w.heap.size 0 rfl [.int .i64 0, .int .u64 0, .int .u64 0] _ (range3 V9.out.c0 V9.out.c1 V9.out.c2) Try.underlying30 rfl (by kernel_rfl)) rfl ?_
          exact ⟨by rw [HGF.out]; rfl, HB9.out⟩
      · have HGF := hid (HG4.out.trans (show finC ⟨4, an, bn⟩ ts = (zeroC, 2) from if_neg fun k => hz k.1))
        have hnp : 0 < n3 := by rw [← HLT.out]; exact List.length_pos_iff.2 hz
        have dn : decide ((0 : Int) < (n3 : Int)) = true := by simp; omega
        have k0 := V6.c0
        have k1 := V6.c1
        have k2 := V6.c2
        have f0 := V6.f 0
        have f1 := V6.f 1
        have f2 := V6.f 2
        have V9 := hid (V6.set (.int .i64 0) (.int .u64 0) (.int .u64 0))
        have HB9 := hid (((HB6.setCell (p := ⟨w.heap.size, 0, none⟩) (Nat.le_refl _) (.int .i64 0)).setCell (p := ⟨w.heap.size, 1, none⟩) (Nat.le_refl _) (.int .u64 0)).setCell (p := ⟨w.heap.size, 2, none⟩) (Nat.le_refl _) (.int .u64 0))
        clear C6
        go_wp2
        refine bodyPost_ret_by (results_ct rfl _ _ w.heap.size 0 rfl [.int .i64 0, .int .u64 0, .int .u64 0] _ (range3 V9.out.c0 V9.out.c1 V9.out.c2) Try.underlying30 rfl (by kernel_rfl)) rfl ?_
        exact ⟨by rw [HGF.out]; rfl, HB9.out⟩
  · have HG4 := hid (HG3.out.trans (show getC2 kd an zs = finC ⟨kd, an, 0⟩ zs from if_neg h4))
    have d4 : (kd == 4) = false := by simpa using h4
    clear HG3
    have q0 := C3.c0
    have q1 := C3.c1
    have q2 := C3.c2
    have hcw : CavWf ⟨kd, an, 0⟩ := cavWf_mk (by omega) (by omega) (by omega)
    by_cases hz : zs = []
    · have hn0 : n2 = 0 := by rw [← HLZ.out, hz]; rfl
      subst hn0
      have HCE := hid (cavE_is (c := ⟨kd, an, 0⟩))
      have HC := hid (HCK.out ⟨kd, an, 0⟩ hcw)
      clear HCK
      go_wp2_with fail
      refine (HC.out _).mono ?_
      rintro e w5 ⟨rfl, hb5⟩
      have C5 := C3.call hb5
      have V5 := V3.call hb5
      have HB5 := bel_call HB3 hb5
      have r0 := C5.c0
      have r1 := C5.c1
      have r2 := C5.c2
      clear hb5 q0 q1 q2 C3 V3
      rcases HCE.out with ⟨hE, hok⟩ | ⟨hE, hok⟩
      · rw [hE]
        have HGF := hid (HG4.out.trans (show finC ⟨kd, an, 0⟩ zs = (⟨kd, an, 0⟩, 0) from if_pos ⟨hz, hok⟩))
        clear hE hok
        have k0 := V5.c0
        have k1 := V5.c1
        have k2 := V5.c2
        have f0 := V5.f 0
        have f1 := V5.f 1
        have f2 := V5.f 2
        have V9 := hid (V5.set (.int .i64 kd) (.int .u64 an) (.int .u64 0))
        have HB9 := hid (((HB5.setCell (p := ⟨w.heap.size, 0, none⟩) (Nat.le_refl _) (.int .i64 kd)).setCell (p := ⟨w.heap.size, 1, none⟩) (Nat.le_refl _) (.int .u64 an)).setCell (p := ⟨w.heap.size, 2, none⟩) (Nat.le_refl _) (.int .u64 0))
        clear V5 C5
        go_wp2
        refine bodyPost_ret_by (results_ct rfl _ _ w.heap.size 0 rfl [.int .i64 kd, .int .u64 an, .int .u64 0] _ (range3 V9.out.c0 V9.out.c1 V9.out.c2) Try.underlying30 rfl (by kernel_rfl)) rfl ?_
        exact ⟨by rw [HGF.out]; rfl, HB9.out⟩
      · rw [hE]
        have HGF := hid (HG4.out.trans (show finC ⟨kd, an, 0⟩ zs = (zeroC, 2) from if_neg fun k => hok k.2))
        clear hE hok
        have k0 := V5.c0
        have k1 := V5.c1
        have k2 := V5.c2
        have f0 := V5.f 0
        have f1 := V5.f 1
        have f2 := V5.f 2
        have V9 := hid (V5.set (.int .i64 0) (.int .u64 0) (.int .u64 0))
        have HB9 := hid (((HB5.setCell (p := ⟨w.heap.size, 0, none⟩) (Nat.le_refl _) (.int .i64 0)).setCell (p := ⟨w.heap.size, 1, none⟩) (Nat.le_refl _) (.int .u64 0)).setCell (p := ⟨w.heap.size, 2, none⟩) (Nat.le_refl _) (.int .u64 0))
        clear V5 C5
        go_wp2
        refine bodyPost_ret_by (results_ct rfl _ _ w.heap.size 0 rfl [.int .i64 0, .int .u64 0, .int .u64 0] _ (range3 V9.out.c0 V9.out.c1 V9.out.c2) Try.underlying30 rfl (by kernel_rfl)) rfl ?_
        exact ⟨by rw [HGF.out]; rfl, HB9.out⟩
    · have HGF := hid (HG4.out.trans (show finC ⟨kd, an, 0⟩ zs = (zeroC, 2) from if_neg fun k => hz k.1))
      have hnp : 0 < n2 := by rw [← HLZ.out]; exact List.length_pos_iff.2 hz
      have dn : decide ((0 : Int) < (n2 : Int)) = true := by simp; omega
      have k0 := V3.c0
      have k1 := V3.c1
      have k2 := V3.c2
      have f0 := V3.f 0
      have f1 := V3.f 1
      have f2 := V3.f 2
      have V9 := hid (V3.set (.int .i64 0) (.int .u64 0) (.int .u64 0))
      have HB9 := hid (((HB3.setCell (p := ⟨w.heap.size, 0, none⟩) (Nat.le_refl _) (.int .i64 0)).setCell (p := ⟨w.heap.size, 1, none⟩) (Nat.le_refl _) (.int .u64 0)).setCell (p := ⟨w.heap.size, 2, none⟩) (Nat.le_refl _) (.int .u64 0))
      clear C3
      go_wp2
      refine bodyPost_ret_by (results_ct rfl _ _ w.heap.size 0 rfl [.int .i64 0, .int .u64 0, .int .u64 0] _ (range3 V9.out.c0 V9.out.c1 V9.out.c2) Try.underlying30 rfl (by kernel_rfl)) rfl ?_
      exact ⟨by rw [HGF.out]; rfl, HB9.out⟩
end Go.Proofs.Ytgiapfenalhleaa
