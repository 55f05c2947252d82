/-
  The contract of package caveat's own read.
  The contract of package caveat's own Get.
-/
import Derived.Test.YtgiapfenalhleaaPack1
import Derived.Test.YtgiapfenalhleaaPack2
import Derived.Test.YtgiapfenalhleaaPack3
import Derived.Test.YtgiapfenalhleaaPack4
import Derived.Test.YtgiapfenalhleaaPack5
import Derived.Test.YtgiapfenalhleaaPack6
import Derived.Test.YtgiapfenalhleaaPack7
import Derived.Test.YtgiapfenalhleaaPack8
import Derived.Test.YtgiapfenalhleaaPack9
import Derived.Test.YtgiapfenalhleaaPack10
import Derived.Test.YtgiapfenalhleaaPack11
import Derived.Test.YtgiapfenalhleaaPack12
import Derived.Test.YtgiapfenalhleaaPack13
import Derived.Test.YtgiapfenalhleaaPack14
import Derived.Test.YtgiapfenalhleaaPack15
import Derived.Test.YtgiapfenalhleaaPack16
import Derived.Test.YtgiapfenalhleaaPack17
import Derived.Test.YtgiapfenalhleaaPack18
import Derived.Test.YtgiapfenalhleaaPack19
import Derived.Test.YtgiapfenalhleaaPack20
import Derived.Test.YtgiapfenalhleaaPack21
namespace Go.Proofs.Ytgiapfenalhleaa
open Go.RowKit Go.WalkArith

abbrev numsV (k a b : Int) : Value := .agg #[.int .u64 k, .int .u64 a, .int .u64 b]
/-- What is told of these octets: numbers, how many octets are left behind them, and an error. -/
def ReadC (xs : List Int) (k a b : Int) (n' : Nat) (er : Int) : Prop :=
  (er ≠ 0 ∧ getC xs = (zeroC, er)) ∨ (er = 0 ∧ getC xs = (if n' = 0 ∧ CavOk ⟨k, a, b⟩ then (⟨k, a, b⟩, 0) else (zeroC, 2)) ∧ (1 ≤ k ∧ k ≤ 5) ∧ (0 ≤ a ∧ a ≤ 18446744073709551615) ∧ 0 ≤ b ∧ b ≤ 18446744073709551615)
theorem finC_n {c : Cav} {r : List Int} {n : Nat} (h : r.length = n) : finC c r = if n = 0 ∧ CavOk c then (c, 0) else (zeroC, 2) := by
  unfold finC
  have : r = [] ↔ n = 0 := by rw [← h]; exact List.length_eq_zero_iff.symm
  simp only [this]
theorem Var3.set0 {w : World} {g : Nat} {t : TypeId} {x y z : Value} (h : Var3 w g t x y z) (v : Value) : Var3 (w.setCell ⟨g, 0, none⟩ v) g t v y z := heap_setCell_same w g 0 _ t v h

set_option maxRecDepth 100000 in
set_option maxHeartbeats 4000000 in
theorem cread_any (A : Option Addr) (n c : Nat) (xs : List Int) (w : World) (hr : Rd w w.heap.size .u8 A n c xs) (hn : n ≤ 1000000) :
    Calls Try.prog 97 #[.slice A n c] w fun e w' => ∃ k a b A' n' c' er, e = .returned (.tuple #[numsV k a b, .slice A' n' c', .int .i64 er]) ∧ ReadC xs k a b n' er ∧ n' ≤ 1000000 ∧ Below w.heap.size w w' := by
  have hcap := hr.cap
  unfold maxLen at hcap
  have HL := hid hr.len
  have HW := hid (rd_octs hr)
  have HB0 : Below w.heap.size w ((w.alloc (Obj.cells #[.int .u64 0, .int .u64 0, .int .u64 0] 107)).alloc (Obj.cells #[.int .u64 0, .int .u64 0, .int .u64 0] 107)) := bel_alloc (bel_alloc (Below.refl _ _) _) _
  have V0 : Var3 ((w.alloc (Obj.cells #[.int .u64 0, .int .u64 0, .int .u64 0] 107)).alloc (Obj.cells #[.int .u64 0, .int .u64 0, .int .u64 0] 107)) w.heap.size 107 (.int .u64 0) (.int .u64 0) (.int .u64 0) := heap_alloc2_old _ _ _
  have L0 : Var3 ((w.alloc (Obj.cells #[.int .u64 0, .int .u64 0, .int .u64 0] 107)).alloc (Obj.cells #[.int .u64 0, .int .u64 0, .int .u64 0] 107)) (w.heap.size + 1) 107 (.int .u64 0) (.int .u64 0) (.int .u64 0) := alloc2_new _ _ _
  have RX := hid (fun (W : World) (h : Below w.heap.size w W) => (hr.below h).more h.size)
  clear hr
  go_enter Try.func97, Try.ntmps97
  go_wp2_with fail
  refine wp_loop_rounds 4 ?_
  rw [rounds_succ]
  go_wp2_with fail
  generalize (w.alloc (Obj.cells #[.int .u64 0, .int .u64 0, .int .u64 0] 107)).alloc (Obj.cells #[.int .u64 0, .int .u64 0, .int .u64 0] 107) = W0 at *
  obtain ⟨gl, hgl⟩ : ∃ g, g = w.heap.size + 1 := ⟨_, rfl⟩
  rw [← hgl] at L0 ⊢
  have hlt : w.heap.size < gl := by omega
  clear hgl
  have HR0 := hid (written_any 0 W0)
  rw [if_neg (by decide : ¬ (0 : Int) = 4)] at HR0
  refine HR0.out.mono ?_
  rintro e w9 ⟨rfl, rfl⟩
  clear HR0
  go_wp2_with fail
  by_cases e1 : getE xs = 0
  rotate_left
  · have HP := hid (show getC xs = (zeroC, getE xs) from if_neg e1)
    refine (get_bad _ _ _ _ xs _ (RX.out _ HB0) e1).mono ?_
    rintro e w7 ⟨rfl, hb7⟩
    have HB7 := bel_call HB0 hb7
    have V7 := V0.call hb7
    have hne : (getE xs != 0) = true := by simpa using e1
    have HNE := hid e1
    clear e1 hb7 HB0 V0 L0
    generalize getE xs = ge at *
    have k0 := V7.c0
    have k1 := V7.c1
    have k2 := V7.c2
    have f0 := V7.f 0
    have f1 := V7.f 1
    have f2 := V7.f 2
    have V9 := hid (V7.set (.int .u64 0) (.int .u64 0) (.int .u64 0))
    have HB9 := hid (((HB7.setCell (p := ⟨w.heap.size, 0, none⟩) (Nat.le_refl _) (.int .u64 0)).setCell (p := ⟨w.heap.size, 1, none⟩) (Nat.le_refl _) (.int .u64 0)).setCell (p := ⟨w.heap.size, 2, none⟩) (Nat.le_refl _) (.int .u64 0))
    clear V7
    go_wp2
    refine bodyPost_ret_by (results_ctt rfl _ _ w.heap.size 0 rfl [.int .u64 0, .int .u64 0, .int .u64 0] _ (range3 V9.out.c0 V9.out.c1 V9.out.c2) Try.underlying107 rfl (by kernel_rfl)) rfl ?_
    exact ⟨0, 0, 0, none, 0, 0, ge, rfl, .inl ⟨HNE.out, HP.out⟩, by decide, HB9.out⟩
  refine (get_ok _ _ _ _ xs _ (RX.out _ HB0) e1).mono ?_
  rintro e w1 ⟨rfl, hb1⟩
  have HB1 := bel_call HB0 hb1
  have V1 := V0.call hb1
  have L1 := L0.call hb1
  have bd1 := getE_rd HW.out e1
  have hk1 := (put_get HW.out e1).2
  rw [HL.out] at hk1
  have HG1 := hid (show getC xs = if 1 ≤ rdN xs ∧ rdN xs ≤ 5 then getC1 (rdN xs) (xs.drop (oct (rdN xs)).length) else (zeroC, 2) from if_pos e1)
  have RY1 := hid (fun (W : World) (h : Below w.heap.size w W) => (RX.out W h).cut (i := (oct (rdN xs)).length) hk1)
  have HWY1 := hid (drop_bd HW.out (oct (rdN xs)).length)
  have HLY1 := hid (show (xs.drop (oct (rdN xs)).length).length = n - (oct (rdN xs)).length from by rw [List.length_drop, HL.out])
  have hcut1 := run_from (P := Try.prog) 46 5 Try.underlying46 Try.elemU8 Try.infoU8 A n c (oct (rdN xs)).length hk1
  clear hb1 HB0 V0 L0 RX e1 HW HL
  generalize xs.drop (oct (rdN xs)).length = ys at *
  generalize (oct (rdN xs)).length = l1 at *
  generalize rdN xs = kd at *
  generalize hA1 : cutA A c l1 = A1 at *
  clear hA1
  generalize hn1 : n - l1 = n1 at *
  have hm1 : n1 ≤ 1000000 := by omega
  generalize hc1 : c - l1 = c1 at *
  clear hc1 hn1 hk1
  have p1 := L1.c0
  have pf1 := L1.f 0
  have M1 := L1.set0 (.int .u64 kd)
  have U1 := V1.setOther (b := gl) (by omega) 0 (.int .u64 kd)
  have HC1 := HB1.setCell (p := ⟨gl, 0, none⟩) (by show w.heap.size ≤ gl; omega) (.int .u64 kd)
  have z1 := M1.c0
  clear L1 V1 HB1
  by_cases hkd : 1 ≤ kd ∧ kd ≤ 5
  rotate_left
  · have HP := hid (HG1.out.trans (if_neg hkd))
    clear M1
    by_cases h0 : kd < 1
    · have d1 : decide (kd < 1) = true := by simpa using h0
      have k0 := U1.c0
      have k1 := U1.c1
      have k2 := U1.c2
      have f0 := U1.f 0
      have f1 := U1.f 1
      have f2 := U1.f 2
      have V9 := hid (U1.set (.int .u64 0) (.int .u64 0) (.int .u64 0))
      have HB9 := hid (((HC1.setCell (p := ⟨w.heap.size, 0, none⟩) (Nat.le_refl _) (.int .u64 0)).setCell (p := ⟨w.heap.size, 1, none⟩) (Nat.le_refl _) (.int .u64 0)).setCell (p := ⟨w.heap.size, 2, none⟩) (Nat.le_refl _) (.int .u64 0))
      clear U1
      go_wp2
      refine bodyPost_ret_by (results_ctt rfl _ _ w.heap.size 0 rfl [.int .u64 0, .int .u64 0, .int .u64 0] _ (range3 V9.out.c0 V9.out.c1 V9.out.c2) Try.underlying107 rfl (by kernel_rfl)) rfl ?_
      exact ⟨0, 0, 0, none, 0, 0, 2, rfl, .inl ⟨by decide, HP.out⟩, by decide, HB9.out⟩
    · have d1 : decide (kd < 1) = false := by simpa using h0
      have d2 : decide (5 < kd) = true := by simp; omega
      have k0 := U1.c0
      have k1 := U1.c1
      have k2 := U1.c2
      have f0 := U1.f 0
      have f1 := U1.f 1
      have f2 := U1.f 2
      have V9 := hid (U1.set (.int .u64 0) (.int .u64 0) (.int .u64 0))
      have HB9 := hid (((HC1.setCell (p := ⟨w.heap.size, 0, none⟩) (Nat.le_refl _) (.int .u64 0)).setCell (p := ⟨w.heap.size, 1, none⟩) (Nat.le_refl _) (.int .u64 0)).setCell (p := ⟨w.heap.size, 2, none⟩) (Nat.le_refl _) (.int .u64 0))
      clear U1
      go_wp2
      refine bodyPost_ret_by (results_ctt rfl _ _ w.heap.size 0 rfl [.int .u64 0, .int .u64 0, .int .u64 0] _ (range3 V9.out.c0 V9.out.c1 V9.out.c2) Try.underlying107 rfl (by kernel_rfl)) rfl ?_
      exact ⟨0, 0, 0, none, 0, 0, 2, rfl, .inl ⟨by decide, HP.out⟩, by decide, HB9.out⟩
  have d1 : decide (kd < 1) = false := by simp; omega
  have d2 : decide (5 < kd) = false := by simp; omega
  have HG := hid (HG1.out.trans (if_pos hkd))
  clear HG1
  go_wp2_with fail
  rw [rounds_succ]
  go_wp2_with fail
  generalize w1.setCell ⟨gl, 0, none⟩ (.int .u64 kd) = W1 at *
  clear p1 pf1
  have HRW := hid (written_any kd)
  by_cases h4 : kd = 4
  · skip
    subst h4
    simp only [if_true] at HRW
    refine (HRW.out _).mono ?_
    rintro e w9 ⟨rfl, rfl⟩
    go_wp2_with fail
    by_cases e2 : getE ys = 0
    rotate_left
    · have HP := hid (HG.out.trans (show getC1 4 ys = (zeroC, getE ys) from if_neg e2))
      refine (get_bad _ _ _ _ ys _ (RY1.out _ HC1) e2).mono ?_
      rintro e w7 ⟨rfl, hb7⟩
      have HB7 := bel_call HC1 hb7
      have V7 := U1.call hb7
      have hne : (getE ys != 0) = true := by simpa using e2
      have HNE := hid e2
      clear e2 hb7 HC1 U1 M1
      generalize getE ys = ge at *
      have k0 := V7.c0
      have k1 := V7.c1
      have k2 := V7.c2
      have f0 := V7.f 0
      have f1 := V7.f 1
      have f2 := V7.f 2
      have V9 := hid (V7.set (.int .u64 0) (.int .u64 0) (.int .u64 0))
      have HB9 := hid (((HB7.setCell (p := ⟨w.heap.size, 0, none⟩) (Nat.le_refl _) (.int .u64 0)).setCell (p := ⟨w.heap.size, 1, none⟩) (Nat.le_refl _) (.int .u64 0)).setCell (p := ⟨w.heap.size, 2, none⟩) (Nat.le_refl _) (.int .u64 0))
      clear V7
      go_wp2
      refine bodyPost_ret_by (results_ctt rfl _ _ w.heap.size 0 rfl [.int .u64 0, .int .u64 0, .int .u64 0] _ (range3 V9.out.c0 V9.out.c1 V9.out.c2) Try.underlying107 rfl (by kernel_rfl)) rfl ?_
      exact ⟨0, 0, 0, none, 0, 0, ge, rfl, .inl ⟨HNE.out, HP.out⟩, by decide, HB9.out⟩
    refine (get_ok _ _ _ _ ys _ (RY1.out _ HC1) e2).mono ?_
    rintro e w2 ⟨rfl, hb2⟩
    have HB2 := bel_call HC1 hb2
    have V2 := U1.call hb2
    have L2 := M1.call hb2
    have bd2 := getE_rd HWY1.out e2
    have hk2 := (put_get HWY1.out e2).2
    rw [HLY1.out] at hk2
    have HG2 := hid (HG.out.trans (show getC1 4 ys = getC2 4 (rdN ys) (ys.drop (oct (rdN ys)).length) from if_pos e2))
    have RY2 := hid (fun (W : World) (h : Below w.heap.size w W) => (RY1.out W h).cut (i := (oct (rdN ys)).length) hk2)
    have HWY2 := hid (drop_bd HWY1.out (oct (rdN ys)).length)
    have HLY2 := hid (show (ys.drop (oct (rdN ys)).length).length = n1 - (oct (rdN ys)).length from by rw [List.length_drop, HLY1.out])
    have hcut2 := run_from (P := Try.prog) 46 5 Try.underlying46 Try.elemU8 Try.infoU8 A1 n1 c1 (oct (rdN ys)).length hk2
    clear hb2 HC1 U1 M1 RY1 e2 HWY1 HLY1
    generalize ys.drop (oct (rdN ys)).length = zs at *
    generalize (oct (rdN ys)).length = l2 at *
    generalize rdN ys = an at *
    generalize hA2 : cutA A1 c1 l2 = A2 at *
    clear hA2
    generalize hn2 : n1 - l2 = n2 at *
    have hm2 : n2 ≤ 1000000 := by omega
    generalize hc2 : c1 - l2 = c2 at *
    clear hc2 hn2 hk2
    have p2 := L2.c1
    have pf2 := L2.f 1
    have M2 := L2.set1 (.int .u64 an)
    have U2 := V2.setOther (b := gl) (by omega) 1 (.int .u64 an)
    have HC2 := HB2.setCell (p := ⟨gl, 1, none⟩) (by show w.heap.size ≤ gl; omega) (.int .u64 an)
    have z2 := M2.c0
    clear L2 V2 HB2
    clear z1 HG
    go_wp2_with fail
    rw [rounds_succ]
    go_wp2_with fail
    generalize w2.setCell ⟨gl, 1, none⟩ (.int .u64 an) = W2 at *
    clear p2 pf2
    refine (HRW.out _).mono ?_
    rintro e w9 ⟨rfl, rfl⟩
    go_wp2_with fail
    by_cases e3 : getE zs = 0
    rotate_left
    · have HP := hid (HG2.out.trans ((show getC2 4 an zs = _ from if_pos rfl).trans (if_neg e3)))
      refine (get_bad _ _ _ _ zs _ (RY2.out _ HC2) e3).mono ?_
      rintro e w7 ⟨rfl, hb7⟩
      have HB7 := bel_call HC2 hb7
      have V7 := U2.call hb7
      have hne : (getE zs != 0) = true := by simpa using e3
      have HNE := hid e3
      clear e3 hb7 HC2 U2 M2
      generalize getE zs = ge at *
      have k0 := V7.c0
      have k1 := V7.c1
      have k2 := V7.c2
      have f0 := V7.f 0
      have f1 := V7.f 1
      have f2 := V7.f 2
      have V9 := hid (V7.set (.int .u64 0) (.int .u64 0) (.int .u64 0))
      have HB9 := hid (((HB7.setCell (p := ⟨w.heap.size, 0, none⟩) (Nat.le_refl _) (.int .u64 0)).setCell (p := ⟨w.heap.size, 1, none⟩) (Nat.le_refl _) (.int .u64 0)).setCell (p := ⟨w.heap.size, 2, none⟩) (Nat.le_refl _) (.int .u64 0))
      clear V7
      go_wp2
      refine bodyPost_ret_by (results_ctt rfl _ _ w.heap.size 0 rfl [.int .u64 0, .int .u64 0, .int .u64 0] _ (range3 V9.out.c0 V9.out.c1 V9.out.c2) Try.underlying107 rfl (by kernel_rfl)) rfl ?_
      exact ⟨0, 0, 0, none, 0, 0, ge, rfl, .inl ⟨HNE.out, HP.out⟩, by decide, HB9.out⟩
    refine (get_ok _ _ _ _ zs _ (RY2.out _ HC2) e3).mono ?_
    rintro e w3 ⟨rfl, hb3⟩
    have HB3 := bel_call HC2 hb3
    have V3 := U2.call hb3
    have L3 := M2.call hb3
    have bd3 := getE_rd HWY2.out e3
    have hk3 := (put_get HWY2.out e3).2
    rw [HLY2.out] at hk3
    have HG3 := hid (HG2.out.trans ((show getC2 4 an zs = _ from if_pos rfl).trans (if_pos e3)))
    have RY3 := hid (fun (W : World) (h : Below w.heap.size w W) => (RY2.out W h).cut (i := (oct (rdN zs)).length) hk3)
    have HWY3 := hid (drop_bd HWY2.out (oct (rdN zs)).length)
    have HLY3 := hid (show (zs.drop (oct (rdN zs)).length).length = n2 - (oct (rdN zs)).length from by rw [List.length_drop, HLY2.out])
    have hcut3 := run_from (P := Try.prog) 46 5 Try.underlying46 Try.elemU8 Try.infoU8 A2 n2 c2 (oct (rdN zs)).length hk3
    clear hb3 HC2 U2 M2 RY2 e3 HWY2 HLY2
    generalize zs.drop (oct (rdN zs)).length = ts at *
    generalize (oct (rdN zs)).length = l3 at *
    generalize rdN zs = bn at *
    generalize hA3 : cutA A2 c2 l3 = A3 at *
    clear hA3
    generalize hn3 : n2 - l3 = n3 at *
    have hm3 : n3 ≤ 1000000 := by omega
    generalize hc3 : c2 - l3 = c3 at *
    clear hc3 hn3 hk3
    have p3 := L3.c2
    have pf3 := L3.f 2
    have M3 := L3.set2 (.int .u64 bn)
    have U3 := V3.setOther (b := gl) (by omega) 2 (.int .u64 bn)
    have HC3 := HB3.setCell (p := ⟨gl, 2, none⟩) (by show w.heap.size ≤ gl; omega) (.int .u64 bn)
    have z3 := M3.c0
    clear L3 V3 HB3
    clear z2 HG2
    go_wp2_with fail
    rw [rounds_succ]
    go_wp2_with fail
    generalize w3.setCell ⟨gl, 2, none⟩ (.int .u64 bn) = W3 at *
    clear p3 pf3
    refine (HRW.out _).mono ?_
    rintro e w9 ⟨rfl, rfl⟩
    have HF := hid (HG3.out.trans (finC_n HLY3.out))
    clear HG3
    have k0 := U3.c0
    have k1 := U3.c1
    have k2 := U3.c2
    have f0 := U3.f 0
    have f1 := U3.f 1
    have f2 := U3.f 2
    have m0 := M3.c0
    have m1 := M3.c1
    have m2 := M3.c2
    have V9 := hid (U3.set (.int .u64 4) (.int .u64 an) (.int .u64 bn))
    have HB9 := hid (((HC3.setCell (p := ⟨w.heap.size, 0, none⟩) (Nat.le_refl _) (.int .u64 4)).setCell (p := ⟨w.heap.size, 1, none⟩) (Nat.le_refl _) (.int .u64 an)).setCell (p := ⟨w.heap.size, 2, none⟩) (Nat.le_refl _) (.int .u64 bn))
    clear U3 M3
    go_wp2
    refine bodyPost_ret_by (results_ctt rfl _ _ w.heap.size 0 rfl [.int .u64 4, .int .u64 an, .int .u64 bn] _ (range3 V9.out.c0 V9.out.c1 V9.out.c2) Try.underlying107 rfl (by kernel_rfl)) rfl ?_
    exact ⟨4, an, bn, A3, n3, c3, 0, rfl, .inr ⟨rfl, HF.out, hkd, by omega, by omega, by omega⟩, by omega, HB9.out⟩
  · skip
    simp only [if_neg h4] at HRW
    refine (HRW.out _).mono ?_
    rintro e w9 ⟨rfl, rfl⟩
    go_wp2_with fail
    by_cases e2 : getE ys = 0
    rotate_left
    · have HP := hid (HG.out.trans (show getC1 kd ys = (zeroC, getE ys) from if_neg e2))
      refine (get_bad _ _ _ _ ys _ (RY1.out _ HC1) e2).mono ?_
      rintro e w7 ⟨rfl, hb7⟩
      have HB7 := bel_call HC1 hb7
      have V7 := U1.call hb7
      have hne : (getE ys != 0) = true := by simpa using e2
      have HNE := hid e2
      clear e2 hb7 HC1 U1 M1
      generalize getE ys = ge at *
      have k0 := V7.c0
      have k1 := V7.c1
      have k2 := V7.c2
      have f0 := V7.f 0
      have f1 := V7.f 1
      have f2 := V7.f 2
      have V9 := hid (V7.set (.int .u64 0) (.int .u64 0) (.int .u64 0))
      have HB9 := hid (((HB7.setCell (p := ⟨w.heap.size, 0, none⟩) (Nat.le_refl _) (.int .u64 0)).setCell (p := ⟨w.heap.size, 1, none⟩) (Nat.le_refl _) (.int .u64 0)).setCell (p := ⟨w.heap.size, 2, none⟩) (Nat.le_refl _) (.int .u64 0))
      clear V7
      go_wp2
      refine bodyPost_ret_by (results_ctt rfl _ _ w.heap.size 0 rfl [.int .u64 0, .int .u64 0, .int .u64 0] _ (range3 V9.out.c0 V9.out.c1 V9.out.c2) Try.underlying107 rfl (by kernel_rfl)) rfl ?_
      exact ⟨0, 0, 0, none, 0, 0, ge, rfl, .inl ⟨HNE.out, HP.out⟩, by decide, HB9.out⟩
    refine (get_ok _ _ _ _ ys _ (RY1.out _ HC1) e2).mono ?_
    rintro e w2 ⟨rfl, hb2⟩
    have HB2 := bel_call HC1 hb2
    have V2 := U1.call hb2
    have L2 := M1.call hb2
    have bd2 := getE_rd HWY1.out e2
    have hk2 := (put_get HWY1.out e2).2
    rw [HLY1.out] at hk2
    have HG2 := hid (HG.out.trans (show getC1 kd ys = getC2 kd (rdN ys) (ys.drop (oct (rdN ys)).length) from if_pos e2))
    have RY2 := hid (fun (W : World) (h : Below w.heap.size w W) => (RY1.out W h).cut (i := (oct (rdN ys)).length) hk2)
    have HWY2 := hid (drop_bd HWY1.out (oct (rdN ys)).length)
    have HLY2 := hid (show (ys.drop (oct (rdN ys)).length).length = n1 - (oct (rdN ys)).length from by rw [List.length_drop, HLY1.out])
    have hcut2 := run_from (P := Try.prog) 46 5 Try.underlying46 Try.elemU8 Try.infoU8 A1 n1 c1 (oct (rdN ys)).length hk2
    clear hb2 HC1 U1 M1 RY1 e2 HWY1 HLY1
    generalize ys.drop (oct (rdN ys)).length = zs at *
    generalize (oct (rdN ys)).length = l2 at *
    generalize rdN ys = an at *
    generalize hA2 : cutA A1 c1 l2 = A2 at *
    clear hA2
    generalize hn2 : n1 - l2 = n2 at *
    have hm2 : n2 ≤ 1000000 := by omega
    generalize hc2 : c1 - l2 = c2 at *
    clear hc2 hn2 hk2
    have p2 := L2.c1
    have pf2 := L2.f 1
    have M2 := L2.set1 (.int .u64 an)
    have U2 := V2.setOther (b := gl) (by omega) 1 (.int .u64 an)
    have HC2 := HB2.setCell (p := ⟨gl, 1, none⟩) (by show w.heap.size ≤ gl; omega) (.int .u64 an)
    have z2 := M2.c0
    clear L2 V2 HB2
    clear z1 HG
    go_wp2_with fail
    rw [rounds_succ]
    go_wp2_with fail
    generalize w2.setCell ⟨gl, 1, none⟩ (.int .u64 an) = W2 at *
    clear p2 pf2
    refine (HRW.out _).mono ?_
    rintro e w9 ⟨rfl, rfl⟩
    have HF := hid (HG2.out.trans ((show getC2 kd an zs = finC ⟨kd, an, 0⟩ zs from if_neg h4).trans (finC_n HLY2.out)))
    clear HG2
    have k0 := U2.c0
    have k1 := U2.c1
    have k2 := U2.c2
    have f0 := U2.f 0
    have f1 := U2.f 1
    have f2 := U2.f 2
    have m0 := M2.c0
    have m1 := M2.c1
    have m2 := M2.c2
    have V9 := hid (U2.set (.int .u64 kd) (.int .u64 an) (.int .u64 0))
    have HB9 := hid (((HC2.setCell (p := ⟨w.heap.size, 0, none⟩) (Nat.le_refl _) (.int .u64 kd)).setCell (p := ⟨w.heap.size, 1, none⟩) (Nat.le_refl _) (.int .u64 an)).setCell (p := ⟨w.heap.size, 2, none⟩) (Nat.le_refl _) (.int .u64 0))
    clear U2 M2
    go_wp2
    refine bodyPost_ret_by (results_ctt rfl _ _ w.heap.size 0 rfl [.int .u64 kd, .int .u64 an, .int .u64 0] _ (range3 V9.out.c0 V9.out.c1 V9.out.c2) Try.underlying107 rfl (by kernel_rfl)) rfl ?_
    exact ⟨kd, an, 0, A2, n2, c2, 0, rfl, .inr ⟨rfl, HF.out, hkd, by omega, by decide, by decide⟩, by omega, HB9.out⟩
end Go.Proofs.Ytgiapfenalhleaa
namespace Go.Proofs.Ytgiapfenalhleaa
open Go.RowKit Go.WalkArith

set_option maxRecDepth 100000 in
set_option maxHeartbeats 4000000 in
theorem cGet_any (A : Option Addr) (n c : Nat) (xs : List Int) (w : World) (hr : Rd w w.heap.size .u8 A n c xs) (hn : n ≤ 1000000) :
    Calls Try.prog 84 #[.slice A n c] w fun e w' => e = .returned (.tuple #[cavV (getC xs).1, .int .i64 (getC xs).2]) ∧ Below w.heap.size w w' := by
  have hb0 : Below w.heap.size w (w.alloc (Obj.cells #[.int .i64 0, .int .u64 0, .int .u64 0] 30)) := bel_alloc (Below.refl _ _) _
  have V0 := Var3.new w 30 (.int .i64 0) (.int .u64 0) (.int .u64 0)
  have RX := hid (fun (W : World) (h : Below w.heap.size w W) => (hr.below h).more h.size)
  clear hr
  go_enter Try.func84, Try.ntmps84
  go_wp2_with fail
  refine (cread_any A n c xs _ (RX.out _ hb0) hn).mono ?_
  rintro e w1 ⟨k, a, b, A', n', c', er, rfl, hrd, hn', hb1⟩
  have HB1 := bel_call hb0 hb1
  have V1 := V0.call hb1
  clear RX V0 hb1 hb0
  have hbL := bel_alloc (Below.refl w1.heap.size w1) (Obj.cells #[.int .u64 k, .int .u64 a, .int .u64 b] 107)
  have V2 := V1.call hbL
  have HB2 := bel_call HB1 hbL
  have L2 := Var3.new w1 107 (.int .u64 k) (.int .u64 a) (.int .u64 b)
  clear V1 HB1 hbL
  rcases hrd with ⟨hne, hg⟩ | ⟨rfl, hg, hk, ha, hb⟩
  · have HG := hid hg
    have hd : (er != 0) = true := by simpa using hne
    clear hg hne
    have k0 := V2.c0
    have k1 := V2.c1
    have k2 := V2.c2
    have f0 := V2.f 0
    have f1 := V2.f 1
    have f2 := V2.f 2
    have V9 := hid (V2.set (.int .i64 0) (.int .u64 0) (.int .u64 0))
    have HB9 := hid (((HB2.setCell (p := ⟨w.heap.size, 0, none⟩) (Nat.le_refl _) (.int .i64 0)).setCell (p := ⟨w.heap.size, 1, none⟩) (Nat.le_refl _) (.int .u64 0)).setCell (p := ⟨w.heap.size, 2, none⟩) (Nat.le_refl _) (.int .u64 0))
    clear V2
    go_wp2
    refine bodyPost_ret_by (results_ct rfl _ _ w.heap.size 0 rfl [.int .i64 0, .int .u64 0, .int .u64 0] _ (range3 V9.out.c0 V9.out.c1 V9.out.c2) Try.underlying30 rfl (by kernel_rfl)) rfl ?_
    exact ⟨by rw [HG.out]; rfl, HB9.out⟩
  · have m0 := L2.c0
    have m1 := L2.c1
    have m2 := L2.c2
    have hg2 := V2.lt
    generalize hW2 : w1.alloc (Obj.cells #[.int .u64 k, .int .u64 a, .int .u64 b] 107) = W2 at *
    have hbC := bel_alloc (Below.refl W2.heap.size W2) (Obj.cells #[.int .i64 k, .int .u64 a, .int .u64 b] 30)
    have V3 := V2.call hbC
    have HB3 := bel_call HB2 hbC
    have C3 := Var3.new W2 30 (.int .i64 k) (.int .u64 a) (.int .u64 b)
    have HCK := hid (fun W => cCheck_any #[.int .i64 k, .int .u64 a, .int .u64 b] (fun _ => True) ⟨k, a, b⟩ W (rep_Caveat.2 ⟨rfl, cavWf_mk (by omega) ha hb⟩))
    have HCE := hid (cavE_is (c := ⟨k, a, b⟩))
    have q0 := C3.c0
    have q1 := C3.c1
    have q2 := C3.c2
    have wk : IntKind.i64.wrap k = k := IntWalk.i64_in _ (by omega)
    clear V2 HB2 hbC L2
    by_cases hz : n' = 0
    rotate_left
    · have HG := hid (hg.trans (if_neg fun q => hz q.1))
      have dn : decide ((0 : Int) < (n' : Int)) = true := by simp; omega
      clear hg HCK HCE C3
      subst hW2
      have k0 := V3.c0
      have k1 := V3.c1
      have k2 := V3.c2
      have f0 := V3.f 0
      have f1 := V3.f 1
      have f2 := V3.f 2
      have V9 := hid (V3.set (.int .i64 0) (.int .u64 0) (.int .u64 0))
      have HB9 := hid (((HB3.setCell (p := ⟨w.heap.size, 0, none⟩) (Nat.le_refl _) (.int .i64 0)).setCell (p := ⟨w.heap.size, 1, none⟩) (Nat.le_refl _) (.int .u64 0)).setCell (p := ⟨w.heap.size, 2, none⟩) (Nat.le_refl _) (.int .u64 0))
      clear V3
      go_wp2
      refine bodyPost_ret_by (results_ct rfl _ _ w.heap.size 0 rfl [.int .i64 0, .int .u64 0, .int .u64 0] _ (range3 V9.out.c0 V9.out.c1 V9.out.c2) Try.underlying30 rfl (by kernel_rfl)) rfl ?_
      exact ⟨by rw [HG.out]; rfl, HB9.out⟩
    subst hz
    have HGY := hid (show CavOk ⟨k, a, b⟩ → getC xs = (⟨k, a, b⟩, 0) from fun h => hg.trans (if_pos ⟨rfl, h⟩))
    have HGN := hid (show ¬ CavOk ⟨k, a, b⟩ → getC xs = (zeroC, 2) from fun h => hg.trans (if_neg fun q => h q.2))
    clear hg
    subst hW2
    rw [show (w1.alloc (Obj.cells #[.int .u64 k, .int .u64 a, .int .u64 b] 107)).heap.size = w1.heap.size + 1 from by simp] at C3
    go_wp2_with fail
    refine (HCK.out _).mono ?_
    rintro e w5 ⟨rfl, hb5⟩
    have C5 := C3.call hb5
    have V5 := V3.call hb5
    have HB5 := bel_call HB3 hb5
    have r0 := C5.c0
    have r1 := C5.c1
    have r2 := C5.c2
    clear hb5 q0 q1 q2 C3 V3 HB3 HCK
    rcases HCE.out with ⟨hE, hok⟩ | ⟨hE, hok⟩
    · rw [hE]
      have HG := hid (HGY.out hok)
      clear hE hok HCE C5
      have k0 := V5.c0
      have k1 := V5.c1
      have k2 := V5.c2
      have f0 := V5.f 0
      have f1 := V5.f 1
      have f2 := V5.f 2
      have V9 := hid (V5.set (.int .i64 k) (.int .u64 a) (.int .u64 b))
      have HB9 := hid (((HB5.setCell (p := ⟨w.heap.size, 0, none⟩) (Nat.le_refl _) (.int .i64 k)).setCell (p := ⟨w.heap.size, 1, none⟩) (Nat.le_refl _) (.int .u64 a)).setCell (p := ⟨w.heap.size, 2, none⟩) (Nat.le_refl _) (.int .u64 b))
      clear V5
      go_wp2
      refine bodyPost_ret_by (results_ct rfl _ _ w.heap.size 0 rfl [.int .i64 k, .int .u64 a, .int .u64 b] _ (range3 V9.out.c0 V9.out.c1 V9.out.c2) Try.underlying30 rfl (by kernel_rfl)) rfl ?_
      exact ⟨by rw [HG.out]; rfl, HB9.out⟩
    · rw [hE]
      have HG := hid (HGN.out hok)
      clear hE hok HCE C5
      have k0 := V5.c0
      have k1 := V5.c1
      have k2 := V5.c2
      have f0 := V5.f 0
      have f1 := V5.f 1
      have f2 := V5.f 2
      have V9 := hid (V5.set (.int .i64 0) (.int .u64 0) (.int .u64 0))
      have HB9 := hid (((HB5.setCell (p := ⟨w.heap.size, 0, none⟩) (Nat.le_refl _) (.int .i64 0)).setCell (p := ⟨w.heap.size, 1, none⟩) (Nat.le_refl _) (.int .u64 0)).setCell (p := ⟨w.heap.size, 2, none⟩) (Nat.le_refl _) (.int .u64 0))
      clear V5
      go_wp2
      refine bodyPost_ret_by (results_ct rfl _ _ w.heap.size 0 rfl [.int .i64 0, .int .u64 0, .int .u64 0] _ (range3 V9.out.c0 V9.out.c1 V9.out.c2) Try.underlying30 rfl (by kernel_rfl)) rfl ?_
      exact ⟨by rw [HG.out]; rfl, HB9.out⟩
end Go.Proofs.Ytgiapfenalhleaa
