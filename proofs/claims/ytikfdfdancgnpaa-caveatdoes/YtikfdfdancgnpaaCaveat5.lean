/-
  The contract of package caveat's own Get.
-/
import Derived.Test.YtikfdfdancgnpaaCaveat4
namespace Go.Proofs.Ytikfdfdancgnpaa
open Go.RowKit Go.WalkArith

set_option maxRecDepth 100000 in
set_option maxHeartbeats 4000000 in
theorem cGet_any (A : Option Addr) (n c : Nat) (xs : List Int) (w : World) (hr : Rd w w.heap.size .u8 A n c xs) (hn : n ≤ 1000000) :
    Calls Try.prog 11 #[.slice A n c] w fun e w' => e = .returned (.tuple #[cavV (getC xs).1, .int .i64 (getC xs).2]) ∧ Below w.heap.size w w' := by
  have hb0 : Below w.heap.size w (w.alloc (Obj.cells #[.int .i64 0, .int .u64 0, .int .u64 0] 24)) := bel_alloc (Below.refl _ _) _
  have V0 := Var3.new w 24 (.int .i64 0) (.int .u64 0) (.int .u64 0)
  have RX := hid (fun (W : World) (h : Below w.heap.size w W) => (hr.below h).more h.size)
  clear hr
  go_enter Try.func11, Try.ntmps11
  go_wp2_with fail
  refine (cread_any A n c xs _ (RX.out _ hb0) hn).mono ?_
  rintro e w1 ⟨k, a, b, A', n', c', er, rfl, hrd, hn', hb1⟩
  have HB1 := bel_call hb0 hb1
  have V1 := V0.call hb1
  clear RX V0 hb1 hb0
  have hbL := bel_alloc (Below.refl w1.heap.size w1) (Obj.cells #[.int .u64 k, .int .u64 a, .int .u64 b] 50)
  have V2 := V1.call hbL
  have HB2 := bel_call HB1 hbL
  have L2 := Var3.new w1 50 (.int .u64 k) (.int .u64 a) (.int .u64 b)
  clear V1 HB1 hbL
  rcases hrd with ⟨hne, hg⟩ | ⟨rfl, hg, hk, ha, hb⟩
  · have HG := hid hg
    have hd : (er != 0) = true := by simpa using hne
    clear hg hne
    have k0 := V2.c0
    have k1 := V2.c1
    have k2 := V2.c2
    have f0 := V2.f 0
    have f1 := V2.f 1
    have f2 := V2.f 2
    have V9 := hid (V2.set (.int .i64 0) (.int .u64 0) (.int .u64 0))
    have HB9 := hid (((HB2.setCell (p := ⟨w.heap.size, 0, none⟩) (Nat.le_refl _) (.int .i64 0)).setCell (p := ⟨w.heap.size, 1, none⟩) (Nat.le_refl _) (.int .u64 0)).setCell (p := ⟨w.heap.size, 2, none⟩) (Nat.le_refl _) (.int .u64 0))
    clear V2
    go_wp2
    refine bodyPost_ret_by (results_ct rfl _ _ w.heap.size 0 rfl [.int .i64 0, .int .u64 0, .int .u64 0] _ (range3 V9.out.c0 V9.out.c1 V9.out.c2) Try.underlying24 rfl (by kernel_rfl)) rfl ?_
    exact ⟨by rw [HG.out]; rfl, HB9.out⟩
  · have m0 := L2.c0
    have m1 := L2.c1
    have m2 := L2.c2
    have hg2 := V2.lt
    generalize hW2 : w1.alloc (Obj.cells #[.int .u64 k, .int .u64 a, .int .u64 b] 50) = W2 at *
    have hbC := bel_alloc (Below.refl W2.heap.size W2) (Obj.cells #[.int .i64 k, .int .u64 a, .int .u64 b] 24)
    have V3 := V2.call hbC
    have HB3 := bel_call HB2 hbC
    have C3 := Var3.new W2 24 (.int .i64 k) (.int .u64 a) (.int .u64 b)
    have HCK := hid (fun W => cCheck_any #[.int .i64 k, .int .u64 a, .int .u64 b] (fun _ => True) ⟨k, a, b⟩ W (rep_Caveat.2 ⟨rfl, cavWf_mk (by omega) ha hb⟩))
    have HCE := hid (cavE_is (c := ⟨k, a, b⟩))
    have q0 := C3.c0
    have q1 := C3.c1
    have q2 := C3.c2
    have wk : IntKind.i64.wrap k = k := IntWalk.i64_in _ (by omega)
    clear V2 HB2 hbC L2
    by_cases hz : n' = 0
    rotate_left
    · have HG := hid (hg.trans (if_neg fun q => hz q.1))
      have dn : decide ((0 : Int) < (n' : Int)) = true := by simp; omega
      clear hg HCK HCE C3
      subst hW2
      have k0 := V3.c0
      have k1 := V3.c1
      have k2 := V3.c2
      have f0 := V3.f 0
      have f1 := V3.f 1
      have f2 := V3.f 2
      have V9 := hid (V3.set (.int .i64 0) (.int .u64 0) (.int .u64 0))
      have HB9 := hid (((HB3.setCell (p := ⟨w.heap.size, 0, none⟩) (Nat.le_refl _) (.int .i64 0)).setCell (p := ⟨w.heap.size, 1, none⟩) (Nat.le_refl _) (.int .u64 0)).setCell (p := ⟨w.heap.size, 2, none⟩) (Nat.le_refl _) (.int .u64 0))
      clear V3
      go_wp2
      refine bodyPost_ret_by (results_ct rfl _ _ w.heap.size 0 rfl [.int .i64 0, .int .u64 0, .int .u64 0] _ (range3 V9.out.c0 V9.out.c1 V9.out.c2) Try.underlying24 rfl (by kernel_rfl)) rfl ?_
      exact ⟨by rw [HG.out]; rfl, HB9.out⟩
    subst hz
    have HGY := hid (show CavOk ⟨k, a, b⟩ → getC xs = (⟨k, a, b⟩, 0) from fun h => hg.trans (if_pos ⟨rfl, h⟩))
    have HGN := hid (show ¬ CavOk ⟨k, a, b⟩ → getC xs = (zeroC, 2) from fun h => hg.trans (if_neg fun q => h q.2))
    clear hg
    subst hW2
    rw [show (w1.alloc (Obj.cells #[.int .u64 k, .int .u64 a, .int .u64 b] 50)).heap.size = w1.heap.size + 1 from by simp] at C3
    go_wp2_with fail
    refine (HCK.out _).mono ?_
    rintro e w5 ⟨rfl, hb5⟩
    have C5 := C3.call hb5
    have V5 := V3.call hb5
    have HB5 := bel_call HB3 hb5
    have r0 := C5.c0
    have r1 := C5.c1
    have r2 := C5.c2
    clear hb5 q0 q1 q2 C3 V3 HB3 HCK
    rcases HCE.out with ⟨hE, hok⟩ | ⟨hE, hok⟩
    · rw [hE]
      have HG := hid (HGY.out hok)
      clear hE hok HCE C5
      have k0 := V5.c0
      have k1 := V5.c1
      have k2 := V5.c2
      have f0 := V5.f 0
      have f1 := V5.f 1
      have f2 := V5.f 2
      have V9 := hid (V5.set (.int .i64 k) (.int .u64 a) (.int .u64 b))
      have HB9 := hid (((HB5.setCell (p := ⟨w.heap.size, 0, none⟩) (Nat.le_refl _) (.int .i64 k)).setCell (p := ⟨w.heap.size, 1, none⟩) (Nat.le_refl _) (.int .u64 a)).setCell (p := ⟨w.heap.size, 2, none⟩) (Nat.le_refl _) (.int .u64 b))
      clear V5
      go_wp2
      refine bodyPost_ret_by (results_ct rfl _ _ w.heap.size 0 rfl [.int .i64 k, .int .u64 a, .int .u64 b] _ (range3 V9.out.c0 V9.out.c1 V9.out.c2) Try.underlying24 rfl (by kernel_rfl)) rfl ?_
      exact ⟨by rw [HG.out]; rfl, HB9.out⟩
    · rw [hE]
      have HG := hid (HGN.out hok)
      clear hE hok HCE C5
      have k0 := V5.c0
      have k1 := V5.c1
      have k2 := V5.c2
      have f0 := V5.f 0
      have f1 := V5.f 1
      have f2 := V5.f 2
      have V9 := hid (V5.set (.int .i64 0) (.int .u64 0) (.int .u64 0))
      have HB9 := hid (((HB5.setCell (p := ⟨w.heap.size, 0, none⟩) (Nat.le_refl _) (.int .i64 0)).setCell (p := ⟨w.heap.size, 1, none⟩) (Nat.le_refl _) (.int .u64 0)).setCell (p := ⟨w.heap.size, 2, none⟩) (Nat.le_refl _) (.int .u64 0))
      clear V5
      go_wp2
      refine bodyPost_ret_by (results_ct rfl _ _ w.heap.size 0 rfl [.int .i64 0, .int .u64 0, .int .u64 0] _ (range3 V9.out.c0 V9.out.c1 V9.out.c2) Try.underlying24 rfl (by kernel_rfl)) rfl ?_
      exact ⟨by rw [HG.out]; rfl, HB9.out⟩
end Go.Proofs.Ytikfdfdancgnpaa
