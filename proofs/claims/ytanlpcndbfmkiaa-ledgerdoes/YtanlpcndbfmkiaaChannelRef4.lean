/-
  The contracts of the document's Copy, Push, and Close, of layer 9.
-/
import Derived.Test.YtanlpcndbfmkiaaChannelRef3
namespace Go.Proofs.Ytanlpcndbfmkiaa
open Go.RowKit Go.WalkArith

theorem Try.infoHld : (Try.prog.info? 41).map (fun i => (i.zero, i.size, i.bytes)) = some (some (.agg #[.int .u64 0, .int .u64 0]), lay_Hold.size, 16) := by kernel_rfl
theorem BoxC.other {w : World} {g b : Nat} {t : Chn} {A : Option Addr} {n c : Nat} (h : BoxC w g t A n c) (hne : g ≠ b) (t' : Chn) (A' : Option Addr) (n' c' : Nat) : BoxC (((((((w.setCell ⟨b, 0, none⟩ (.int .u64 t'.Id)).setCell ⟨b, 1, none⟩ (.int .u64 t'.Local)).setCell ⟨b, 2, none⟩ (.int .u64 t'.Remote)).setCell ⟨b, 3, none⟩ (.int .u64 t'.Reserve)).setCell ⟨b, 4, none⟩ (.int .u64 t'.Most)).setCell ⟨b, 5, none⟩ (.slice A' n' c')).setCell ⟨b, 6, none⟩ (.bool t'.Open)) g t A n c := (((((((h.setOther hne 0 (.int .u64 t'.Id)).setOther hne 1 (.int .u64 t'.Local)).setOther hne 2 (.int .u64 t'.Remote)).setOther hne 3 (.int .u64 t'.Reserve)).setOther hne 4 (.int .u64 t'.Most)).setOther hne 5 (.slice A' n' c')).setOther hne 6 (.bool t'.Open))
theorem BoxC.setLoc {w : World} {g : Nat} {t : Chn} {A : Option Addr} {n c : Nat} (h : BoxC w g t A n c) (x : Int) : BoxC (w.setCell ⟨g, 1, none⟩ (.int .u64 x)) g ⟨t.Id, x, t.Remote, t.Reserve, t.Most, t.Holds, t.Open⟩ A n c := heap_setCell_same w g 1 _ _ (.int .u64 x) h
theorem BoxC.setRem {w : World} {g : Nat} {t : Chn} {A : Option Addr} {n c : Nat} (h : BoxC w g t A n c) (x : Int) : BoxC (w.setCell ⟨g, 2, none⟩ (.int .u64 x)) g ⟨t.Id, t.Local, x, t.Reserve, t.Most, t.Holds, t.Open⟩ A n c := heap_setCell_same w g 2 _ _ (.int .u64 x) h
theorem BoxC.setHol {w : World} {g : Nat} {t : Chn} {A : Option Addr} {n c : Nat} (h : BoxC w g t A n c) (A' : Option Addr) (n' c' : Nat) : BoxC (w.setCell ⟨g, 5, none⟩ (.slice A' n' c')) g t A' n' c' := heap_setCell_same w g 5 _ _ (.slice A' n' c') h
theorem BoxC.setOpen {w : World} {g : Nat} {t : Chn} {A : Option Addr} {n c : Nat} (h : BoxC w g t A n c) (x : Bool) : BoxC (w.setCell ⟨g, 6, none⟩ (.bool x)) g ⟨t.Id, t.Local, t.Remote, t.Reserve, t.Most, t.Holds, x⟩ A n c := heap_setCell_same w g 6 _ _ (.bool x) h

set_option maxRecDepth 100000 in
set_option maxHeartbeats 2000000 in
theorem refCopy9_any (s : Array Value) (c : Chn) (w : World) (r : lay_Channel.rep w (· < w.heap.size) c s.toList) (hl : c.Holds.length ≤ 1000) :
    Calls Try.prog 35 #[.agg s] w fun e w' => ∃ v, e = .returned v ∧ OwnC w' w.heap.size v c ∧ Below w.heap.size w w' := by
  obtain ⟨A, n, k, rfl, hw, hs⟩ := agg_Channel r
  clear r
  have HL := hid hs.len
  have hcap := hs.cap
  unfold maxLen at hcap
  have hb0 : Below w.heap.size w ((w.alloc (Obj.cells #[.int .u64 c.Id, .int .u64 c.Local, .int .u64 c.Remote, .int .u64 c.Reserve, .int .u64 c.Most, .slice A n k, .bool c.Open] 26)).alloc (Obj.cells #[.int .u64 0, .int .u64 0, .int .u64 0, .int .u64 0, .int .u64 0, .slice none 0 0, .bool false] 26)) := bel_alloc (bel_alloc (Below.refl _ _) _) _
  have BC : BoxC ((w.alloc (Obj.cells #[.int .u64 c.Id, .int .u64 c.Local, .int .u64 c.Remote, .int .u64 c.Reserve, .int .u64 c.Most, .slice A n k, .bool c.Open] 26)).alloc (Obj.cells #[.int .u64 0, .int .u64 0, .int .u64 0, .int .u64 0, .int .u64 0, .slice none 0 0, .bool false] 26)) w.heap.size c A n k := heap_alloc2_old _ _ _
  have BR : BoxC ((w.alloc (Obj.cells #[.int .u64 c.Id, .int .u64 c.Local, .int .u64 c.Remote, .int .u64 c.Reserve, .int .u64 c.Most, .slice A n k, .bool c.Open] 26)).alloc (Obj.cells #[.int .u64 0, .int .u64 0, .int .u64 0, .int .u64 0, .int .u64 0, .slice none 0 0, .bool false] 26)) (w.heap.size + 1) zeroCh none 0 0 := alloc2_new _ _ _
  have HZ := hid (show ((w.alloc (Obj.cells #[.int .u64 c.Id, .int .u64 c.Local, .int .u64 c.Remote, .int .u64 c.Reserve, .int .u64 c.Most, .slice A n k, .bool c.Open] 26)).alloc (Obj.cells #[.int .u64 0, .int .u64 0, .int .u64 0, .int .u64 0, .int .u64 0, .slice none 0 0, .bool false] 26)).heap.size = w.heap.size + 2 from by simp)
  have S0 := Sl.call hs hb0
  go_enter Try.func35, Try.ntmps35
  go_upto_region 1 with (fail)
  generalize ((w.alloc (Obj.cells #[.int .u64 c.Id, .int .u64 c.Local, .int .u64 c.Remote, .int .u64 c.Reserve, .int .u64 c.Most, .slice A n k, .bool c.Open] 26)).alloc (Obj.cells #[.int .u64 0, .int .u64 0, .int .u64 0, .int .u64 0, .int .u64 0, .slice none 0 0, .bool false] 26)) = W0 at *
  have hn : n ≤ 1000 := by rw [← HL.out]; exact hl
  obtain ⟨p0, p1, p2, p3, p4, p5, p6⟩ := BC.all
  go_upto_region 2 with (at_builtin; go_must (refine wpList_catL (w := W0) rfl (.const (.slice none 0 0)) (.tmp 4) 24 rfl W0.heap.size none 41 _ 16 Try.underlying24 Try.infoHld rfl (by decide) (.slice none 0 0) [] c.Holds (· < W0.heap.size) A n k rfl rfl (OwnL.nil _ _ _ _ _) S0 (fun b hb => ⟨trivial, hb, by simp [Value.ownBlock]⟩) (Nat.le_refl _) (by simp; omega) (by simp; unfold maxLen; omega) ?_; intro v7 w7 ho7 hx7; rw [List.nil_append] at ho7; obtain ⟨A7, n7, c7, rfl, hs7⟩ := ho7.read; have hb7 := hx7.of_nil; have BC7 := BC.call hb7; have y5 := BC7.all.2.2.2.2.2.1; have g5 := BC7.f 5))
  have BC8 := BC7.setHol A7 n7 c7
  have BR8 := (BR.call hb7).setOther (b := w.heap.size) (by omega) 5 (.slice A7 n7 c7)
  have HB8 := (bel_call hb0 hb7).setCell (p := ⟨w.heap.size, 5, none⟩) (Nat.le_refl _) (.slice A7 n7 c7)
  have HO8 := (ho7.hld W0.heap.size).setLow (b := w.heap.size) (by rw [HZ.out]; omega) (by rw [HZ.out]; omega) 5 (.slice A7 n7 c7)
  clear p0 p1 p2 p3 p4 p5 p6 y5 g5 BC7 BC BR hs7 ho7 hx7 hb7 hb0 S0
  generalize w7.setCell ⟨w.heap.size, 5, none⟩ (.slice A7 n7 c7) = W8 at *
  have B9 := hid (BR8.set c A7 n7 c7)
  have HB9 := hid (Below.setBox HB8 (g := w.heap.size + 1) (Nat.le_succ _) c A7 n7 c7)
  have HO9 := hid ((OwnL.setBox HO8 (g := w.heap.size + 1) (by rw [HZ.out]; omega) c A7 n7 c7).lows (base' := w.heap.size) (lo' := w.heap.size) (by rw [HZ.out]; omega) (by rw [HZ.out]; omega))
  obtain ⟨p0, p1, p2, p3, p4, p5, p6⟩ := BC8.all
  obtain ⟨z0, z1, z2, z3, z4, z5, z6⟩ := BR8.all
  have f0 := BR8.f 0
  have f1 := BR8.f 1
  have f2 := BR8.f 2
  have f3 := BR8.f 3
  have f4 := BR8.f 4
  have f5 := BR8.f 5
  have f6 := BR8.f 6
  clear BC8 BR8 HB8 HO8
  go_wp2
  refine bodyPost_ret_by (results_c rfl _ _ (w.heap.size + 1) 0 rfl [.int .u64 c.Id, .int .u64 c.Local, .int .u64 c.Remote, .int .u64 c.Reserve, .int .u64 c.Most, .slice A7 n7 c7, .bool c.Open] _ (range7 B9.out) Try.underlying26 rfl (by kernel_rfl)) rfl ?_
  exact ⟨_, rfl, ⟨_, rfl, HO9.out⟩, HB9.out⟩

set_option maxRecDepth 100000 in
set_option maxHeartbeats 4000000 in
theorem refPush9_any (s : Array Value) (c : Chn) (m : Int) (w : World) (r : lay_Channel.rep w (· < w.heap.size) c s.toList) (hm : (Lit.int .u64 m).wf = true) :
    Calls Try.prog 52 #[.agg s, .int .u64 m] w fun e w' => ∃ v, e = .returned (.tuple #[v, .int .i64 (puE c m)]) ∧ OwnC w' w.heap.size v (puC c m) ∧ Below w.heap.size w w' := by
  obtain ⟨A, n, k, rfl, hw, hs⟩ := agg_Channel r
  clear r
  have HL := hid hs.len
  have hcap := hs.cap
  unfold maxLen at hcap
  have hb0 : Below w.heap.size w ((w.alloc (Obj.cells #[.int .u64 c.Id, .int .u64 c.Local, .int .u64 c.Remote, .int .u64 c.Reserve, .int .u64 c.Most, .slice A n k, .bool c.Open] 26)).alloc (Obj.cells #[.int .u64 0, .int .u64 0, .int .u64 0, .int .u64 0, .int .u64 0, .slice none 0 0, .bool false] 26)) := bel_alloc (bel_alloc (Below.refl _ _) _) _
  have BC : BoxC ((w.alloc (Obj.cells #[.int .u64 c.Id, .int .u64 c.Local, .int .u64 c.Remote, .int .u64 c.Reserve, .int .u64 c.Most, .slice A n k, .bool c.Open] 26)).alloc (Obj.cells #[.int .u64 0, .int .u64 0, .int .u64 0, .int .u64 0, .int .u64 0, .slice none 0 0, .bool false] 26)) w.heap.size c A n k := heap_alloc2_old _ _ _
  have BR : BoxC ((w.alloc (Obj.cells #[.int .u64 c.Id, .int .u64 c.Local, .int .u64 c.Remote, .int .u64 c.Reserve, .int .u64 c.Most, .slice A n k, .bool c.Open] 26)).alloc (Obj.cells #[.int .u64 0, .int .u64 0, .int .u64 0, .int .u64 0, .int .u64 0, .slice none 0 0, .bool false] 26)) (w.heap.size + 1) zeroCh none 0 0 := alloc2_new _ _ _
  have HZ := hid (show ((w.alloc (Obj.cells #[.int .u64 c.Id, .int .u64 c.Local, .int .u64 c.Remote, .int .u64 c.Reserve, .int .u64 c.Most, .slice A n k, .bool c.Open] 26)).alloc (Obj.cells #[.int .u64 0, .int .u64 0, .int .u64 0, .int .u64 0, .int .u64 0, .slice none 0 0, .bool false] 26)).heap.size = w.heap.size + 2 from by simp)
  have S0 := Sl.call hs hb0
  go_enter Try.func52, Try.ntmps52
  go_upto_region 1 with (fail)
  generalize ((w.alloc (Obj.cells #[.int .u64 c.Id, .int .u64 c.Local, .int .u64 c.Remote, .int .u64 c.Reserve, .int .u64 c.Most, .slice A n k, .bool c.Open] 26)).alloc (Obj.cells #[.int .u64 0, .int .u64 0, .int .u64 0, .int .u64 0, .int .u64 0, .slice none 0 0, .bool false] 26)) = W0 at *
  have bm := bounds_u64 hm
  obtain ⟨p0, p1, p2, p3, p4, p5, p6⟩ := BC.all
  go_wp2_with fail
  refine (refCheck9_any _ c _ (chan_in hw S0 (Below.refl _ _))).mono ?_
  rintro e w1 ⟨rfl, hb1⟩
  have BC1 := BC.call hb1
  have BR1 := BR.call hb1
  have HB := bel_call hb0 hb1
  have HX := hb1
  clear p0 p1 p2 p3 p4 p5 p6 hb1 BC BR
  rcases ch_is (c := c) with ⟨ok, hE⟩ | ⟨ok, hE⟩
  rotate_left
  · rw [hE]
    have HE := hid (show puE c m = 1 ∧ puC c m = zeroCh from by
      have e : puE c m = 1 := if_neg fun h => ok h.1
      exact ⟨e, pu_no (by rw [e]; decide)⟩)
    clear hE ok
    have B9 := hid (BR1.set zeroCh none 0 0)
    have HB9 := hid (Below.setBox HB (g := w.heap.size + 1) (Nat.le_succ _) zeroCh none 0 0)
    obtain ⟨z0, z1, z2, z3, z4, z5, z6⟩ := BR1.all
    have f0 := BR1.f 0
    have f1 := BR1.f 1
    have f2 := BR1.f 2
    have f3 := BR1.f 3
    have f4 := BR1.f 4
    have f5 := BR1.f 5
    have f6 := BR1.f 6
    go_wp2
    refine bodyPost_ret_by (results_ct rfl _ _ (w.heap.size + 1) 0 rfl [.int .u64 0, .int .u64 0, .int .u64 0, .int .u64 0, .int .u64 0, .slice none 0 0, .bool false] _ (range7 B9.out) Try.underlying26 rfl (by kernel_rfl)) rfl ?_
    exact ⟨_, by rw [HE.out.1]; rfl, by rw [HE.out.2]; exact ⟨_, rfl, OwnL.nil _ _ _ _ _⟩, HB9.out⟩
  rw [hE]
  clear hE
  have R1 := rd_one w1 m hm
  have hba := bel_alloc (Below.refl w1.heap.size w1) (Obj.cells #[.int .u64 m] 23)
  have BC2 := BC1.call hba
  have BR2 := BR1.call hba
  have HB2 := bel_call HB hba
  have HX2 := bel_call HX hba
  clear BC1 BR1 HB HX hba
  go_wp2_with fail
  generalize w1.alloc (Obj.cells #[.int .u64 m] 23) = W2 at *
  refine (rmCheck_any _ _ _ _ _ _ R1).mono ?_
  rw [chkM_one]
  rintro e w3 ⟨rfl, rfl⟩
  clear R1
  by_cases g1 : m ≤ mMax
  rotate_left
  · rw [if_neg g1]
    have HE := hid (show puE c m = 1 ∧ puC c m = zeroCh from by
      have e : puE c m = 1 := if_neg fun h => g1 h.2
      exact ⟨e, pu_no (by rw [e]; decide)⟩)
    clear g1
    have B9 := hid (BR2.set zeroCh none 0 0)
    have HB9 := hid (Below.setBox HB2 (g := w.heap.size + 1) (Nat.le_succ _) zeroCh none 0 0)
    obtain ⟨z0, z1, z2, z3, z4, z5, z6⟩ := BR2.all
    have f0 := BR2.f 0
    have f1 := BR2.f 1
    have f2 := BR2.f 2
    have f3 := BR2.f 3
    have f4 := BR2.f 4
    have f5 := BR2.f 5
    have f6 := BR2.f 6
    go_wp2
    refine bodyPost_ret_by (results_ct rfl _ _ (w.heap.size + 1) 0 rfl [.int .u64 0, .int .u64 0, .int .u64 0, .int .u64 0, .int .u64 0, .slice none 0 0, .bool false] _ (range7 B9.out) Try.underlying26 rfl (by kernel_rfl)) rfl ?_
    exact ⟨_, by rw [HE.out.1]; rfl, by rw [HE.out.2]; exact ⟨_, rfl, OwnL.nil _ _ _ _ _⟩, HB9.out⟩
  rw [if_pos g1]
  obtain ⟨p0, p1, p2, p3, p4, p5, p6⟩ := BC2.all
  obtain ⟨o, ho⟩ : ∃ z, c.Open = z := ⟨_, rfl⟩
  rw [ho] at p6
  have HO := hid ho
  clear ho
  cases o
  · have HE := hid (show puE c m = 14 ∧ puC c m = zeroCh from by
      have e : puE c m = 14 := by unfold puE; rw [if_pos ⟨ok, g1⟩, if_pos HO.out]
      exact ⟨e, pu_no (by rw [e]; decide)⟩)
    clear g1
    have B9 := hid (BR2.set zeroCh none 0 0)
    have HB9 := hid (Below.setBox HB2 (g := w.heap.size + 1) (Nat.le_succ _) zeroCh none 0 0)
    obtain ⟨z0, z1, z2, z3, z4, z5, z6⟩ := BR2.all
    have f0 := BR2.f 0
    have f1 := BR2.f 1
    have f2 := BR2.f 2
    have f3 := BR2.f 3
    have f4 := BR2.f 4
    have f5 := BR2.f 5
    have f6 := BR2.f 6
    go_wp2
    refine bodyPost_ret_by (results_ct rfl _ _ (w.heap.size + 1) 0 rfl [.int .u64 0, .int .u64 0, .int .u64 0, .int .u64 0, .int .u64 0, .slice none 0 0, .bool false] _ (range7 B9.out) Try.underlying26 rfl (by kernel_rfl)) rfl ?_
    exact ⟨_, by rw [HE.out.1]; rfl, by rw [HE.out.2]; exact ⟨_, rfl, OwnL.nil _ _ _ _ _⟩, HB9.out⟩
  go_upto_region 5 with (fail)
  rw [← HO.out] at p6
  by_cases g2 : c.Remote < m
  · have HE := hid (show puE c m = 9 ∧ puC c m = zeroCh from by
      have e : puE c m = 9 := by unfold puE; rw [if_pos ⟨ok, g1⟩, if_neg (by rw [HO.out]; decide), if_pos g2]
      exact ⟨e, pu_no (by rw [e]; decide)⟩)
    have d2 : decide (c.Remote < m) = true := decide_eq_true g2
    clear g1 g2
    have B9 := hid (BR2.set zeroCh none 0 0)
    have HB9 := hid (Below.setBox HB2 (g := w.heap.size + 1) (Nat.le_succ _) zeroCh none 0 0)
    obtain ⟨z0, z1, z2, z3, z4, z5, z6⟩ := BR2.all
    have f0 := BR2.f 0
    have f1 := BR2.f 1
    have f2 := BR2.f 2
    have f3 := BR2.f 3
    have f4 := BR2.f 4
    have f5 := BR2.f 5
    have f6 := BR2.f 6
    go_wp2
    refine bodyPost_ret_by (results_ct rfl _ _ (w.heap.size + 1) 0 rfl [.int .u64 0, .int .u64 0, .int .u64 0, .int .u64 0, .int .u64 0, .slice none 0 0, .bool false] _ (range7 B9.out) Try.underlying26 rfl (by kernel_rfl)) rfl ?_
    exact ⟨_, by rw [HE.out.1]; rfl, by rw [HE.out.2]; exact ⟨_, rfl, OwnL.nil _ _ _ _ _⟩, HB9.out⟩
  have d2 : decide (c.Remote < m) = false := decide_eq_false g2
  have e0 : puE c m = 0 := by unfold puE; rw [if_pos ⟨ok, g1⟩, if_neg (by rw [HO.out]; decide), if_neg g2]
  obtain ⟨-, -, j3, j4, j5, -, j7⟩ := pu_is hw (sl_hlds hs) bm.1 e0
  have HT := hid (And.intro e0 j4)
  have c1 := bounds_u64 hw.loc
  have c2 := bounds_u64 hw.rem
  have l5 := j7.loc
  rw [j4] at l5
  have c3 := bounds_u64 l5
  have w1e : IntKind.u64.wrap (c.Remote - m) = c.Remote - m := IntWalk.u64_in _ (by omega)
  have w2e : IntKind.u64.wrap (c.Local + m) = c.Local + m := IntWalk.u64_in _ c3
  have hl64 := ok.2.2.1
  clear e0 j3 j4 j5 j7 l5 c1 c2 c3 g1 g2
  go_wp2_with fail
  refine (refCopy9_any _ c _ (chan_in hw S0 HX2) (by omega)).mono ?_
  rintro e w5 ⟨v, rfl, ⟨u, rfl, ho5⟩, hb5⟩
  obtain ⟨A7, n7, c7, rfl, hs7⟩ := ho5.read
  have BC5 := BC2.call hb5
  have BR5 := BR2.call hb5
  have HB5 := bel_call HB2 hb5
  obtain ⟨y0, y1, y2, y3, y4, y5, y6⟩ := BC5.all
  have f0 := BC5.f 0
  have f1 := BC5.f 1
  have f2 := BC5.f 2
  have f3 := BC5.f 3
  have f4 := BC5.f 4
  have f5 := BC5.f 5
  have f6 := BC5.f 6
  have BC6 := BC5.set c A7 n7 c7
  have BR6 := BR5.other (b := w.heap.size) (by omega) c A7 n7 c7
  have HB6 := Below.setBox HB5 (g := w.heap.size) (Nat.le_refl _) c A7 n7 c7
  have HX2s := HX2.size
  have HO6 := (OwnL.setBox ho5 (g := w.heap.size) (by rw [HZ.out] at HX2s; omega) c A7 n7 c7).lows (base' := W0.heap.size) (lo' := W0.heap.size) HX2s HX2s
  clear p0 p1 p2 p3 p4 p5 p6 hs7 ho5 hb5 BC5 BR5 HB5 BC2 BR2 HB2 HX2
  go_upto_region 8 with (fail)
  clear y0 y1 y2 y3 y4 y5 y6 f0 f1 f2 f3 f4 f5 f6
  generalize (((((((w5.setCell ⟨w.heap.size, 0, none⟩ (.int .u64 c.Id)).setCell ⟨w.heap.size, 1, none⟩ (.int .u64 c.Local)).setCell ⟨w.heap.size, 2, none⟩ (.int .u64 c.Remote)).setCell ⟨w.heap.size, 3, none⟩ (.int .u64 c.Reserve)).setCell ⟨w.heap.size, 4, none⟩ (.int .u64 c.Most)).setCell ⟨w.heap.size, 5, none⟩ (.slice A7 n7 c7)).setCell ⟨w.heap.size, 6, none⟩ (.bool c.Open)) = W6 at *
  obtain ⟨p0, p1, p2, p3, p4, p5, p6⟩ := BC6.all
  have g2 := BC6.f 2
  have BC7 := BC6.setRem (c.Remote - m)
  have BR7 := BR6.setOther (b := w.heap.size) (by omega) 2 (.int .u64 (c.Remote - m))
  have HB7 := HB6.setCell (p := ⟨w.heap.size, 2, none⟩) (Nat.le_refl _) (.int .u64 (c.Remote - m))
  have HO7 := HO6.setLow (b := w.heap.size) (by rw [HZ.out]; omega) (by rw [HZ.out]; omega) 2 (.int .u64 (c.Remote - m))
  clear BC6 BR6 HB6 HO6
  go_upto_region 9 with (fail)
  clear p0 p1 p2 p3 p4 p5 p6 g2
  generalize W6.setCell ⟨w.heap.size, 2, none⟩ (.int .u64 (c.Remote - m)) = W7 at *
  obtain ⟨p0, p1, p2, p3, p4, p5, p6⟩ := BC7.all
  have g2 := BC7.f 1
  have BC8 := BC7.setLoc (c.Local + m)
  have BR8 := BR7.setOther (b := w.heap.size) (by omega) 1 (.int .u64 (c.Local + m))
  have HB8 := HB7.setCell (p := ⟨w.heap.size, 1, none⟩) (Nat.le_refl _) (.int .u64 (c.Local + m))
  have HO8 := HO7.setLow (b := w.heap.size) (by rw [HZ.out]; omega) (by rw [HZ.out]; omega) 1 (.int .u64 (c.Local + m))
  clear BC7 BR7 HB7 HO7
  go_upto_region 10 with (fail)
  clear p0 p1 p2 p3 p4 p5 p6 g2
  generalize W7.setCell ⟨w.heap.size, 1, none⟩ (.int .u64 (c.Local + m)) = W8 at *
  obtain ⟨d, hd⟩ : ∃ z : Chn, z = ⟨c.Id, c.Local + m, c.Remote - m, c.Reserve, c.Most, c.Holds, c.Open⟩ := ⟨_, rfl⟩
  have HDH := hid (show d.Holds = c.Holds from by rw [hd])
  have HDT := hid (show puC c m = d from by rw [HT.out.2, hd])
  have BC8' : BoxC W8 w.heap.size d A7 n7 c7 := by rw [hd]; exact BC8
  rw [← HDH.out] at HO8
  clear BC8 hd
  have BC8 := BC8'
  clear BC8'
  have B9 := hid (BR8.set d A7 n7 c7)
  have HB9 := hid (Below.setBox HB8 (g := w.heap.size + 1) (Nat.le_succ _) d A7 n7 c7)
  have HO9 := hid ((OwnL.setBox HO8 (g := w.heap.size + 1) (by rw [HZ.out]; omega) d A7 n7 c7).lows (base' := w.heap.size) (lo' := w.heap.size) (by rw [HZ.out]; omega) (by rw [HZ.out]; omega))
  obtain ⟨p0, p1, p2, p3, p4, p5, p6⟩ := BC8.all
  obtain ⟨z0, z1, z2, z3, z4, z5, z6⟩ := BR8.all
  have f0 := BR8.f 0
  have f1 := BR8.f 1
  have f2 := BR8.f 2
  have f3 := BR8.f 3
  have f4 := BR8.f 4
  have f5 := BR8.f 5
  have f6 := BR8.f 6
  clear BC8 BR8 HB8 HO8
  go_wp2
  refine bodyPost_ret_by (results_ct rfl _ _ (w.heap.size + 1) 0 rfl [.int .u64 d.Id, .int .u64 d.Local, .int .u64 d.Remote, .int .u64 d.Reserve, .int .u64 d.Most, .slice A7 n7 c7, .bool d.Open] _ (range7 B9.out) Try.underlying26 rfl (by kernel_rfl)) rfl ?_
  exact ⟨_, by rw [HT.out.1]; rfl, by rw [HDT.out]; exact ⟨_, rfl, HO9.out⟩, HB9.out⟩

set_option maxRecDepth 100000 in
set_option maxHeartbeats 4000000 in
theorem refClose9_any (s : Array Value) (c : Chn) (w : World) (r : lay_Channel.rep w (· < w.heap.size) c s.toList) :
    Calls Try.prog 49 #[.agg s] w fun e w' => ∃ v, e = .returned (.tuple #[v, .int .i64 (clE c)]) ∧ OwnC w' w.heap.size v (clC c) ∧ Below w.heap.size w w' := by
  obtain ⟨A, n, k, rfl, hw, hs⟩ := agg_Channel r
  clear r
  have HL := hid hs.len
  have hcap := hs.cap
  unfold maxLen at hcap
  have hb0 : Below w.heap.size w ((w.alloc (Obj.cells #[.int .u64 c.Id, .int .u64 c.Local, .int .u64 c.Remote, .int .u64 c.Reserve, .int .u64 c.Most, .slice A n k, .bool c.Open] 26)).alloc (Obj.cells #[.int .u64 0, .int .u64 0, .int .u64 0, .int .u64 0, .int .u64 0, .slice none 0 0, .bool false] 26)) := bel_alloc (bel_alloc (Below.refl _ _) _) _
  have BC : BoxC ((w.alloc (Obj.cells #[.int .u64 c.Id, .int .u64 c.Local, .int .u64 c.Remote, .int .u64 c.Reserve, .int .u64 c.Most, .slice A n k, .bool c.Open] 26)).alloc (Obj.cells #[.int .u64 0, .int .u64 0, .int .u64 0, .int .u64 0, .int .u64 0, .slice none 0 0, .bool false] 26)) w.heap.size c A n k := heap_alloc2_old _ _ _
  have BR : BoxC ((w.alloc (Obj.cells #[.int .u64 c.Id, .int .u64 c.Local, .int .u64 c.Remote, .int .u64 c.Reserve, .int .u64 c.Most, .slice A n k, .bool c.Open] 26)).alloc (Obj.cells #[.int .u64 0, .int .u64 0, .int .u64 0, .int .u64 0, .int .u64 0, .slice none 0 0, .bool false] 26)) (w.heap.size + 1) zeroCh none 0 0 := alloc2_new _ _ _
  have HZ := hid (show ((w.alloc (Obj.cells #[.int .u64 c.Id, .int .u64 c.Local, .int .u64 c.Remote, .int .u64 c.Reserve, .int .u64 c.Most, .slice A n k, .bool c.Open] 26)).alloc (Obj.cells #[.int .u64 0, .int .u64 0, .int .u64 0, .int .u64 0, .int .u64 0, .slice none 0 0, .bool false] 26)).heap.size = w.heap.size + 2 from by simp)
  have S0 := Sl.call hs hb0
  go_enter Try.func49, Try.ntmps49
  go_upto_region 1 with (fail)
  generalize ((w.alloc (Obj.cells #[.int .u64 c.Id, .int .u64 c.Local, .int .u64 c.Remote, .int .u64 c.Reserve, .int .u64 c.Most, .slice A n k, .bool c.Open] 26)).alloc (Obj.cells #[.int .u64 0, .int .u64 0, .int .u64 0, .int .u64 0, .int .u64 0, .slice none 0 0, .bool false] 26)) = W0 at *
  obtain ⟨p0, p1, p2, p3, p4, p5, p6⟩ := BC.all
  go_wp2_with fail
  refine (refCheck9_any _ c _ (chan_in hw S0 (Below.refl _ _))).mono ?_
  rintro e w1 ⟨rfl, hb1⟩
  have BC2 := BC.call hb1
  have BR2 := BR.call hb1
  have HB2 := bel_call hb0 hb1
  have HX2 := hb1
  clear p0 p1 p2 p3 p4 p5 p6 hb1 BC BR
  rcases ch_is (c := c) with ⟨ok, hE⟩ | ⟨ok, hE⟩
  rotate_left
  · rw [hE]
    have HE := hid (show clE c = 1 ∧ clC c = zeroCh from by
      have e : clE c = 1 := if_neg ok
      exact ⟨e, cl_no (by rw [e]; decide)⟩)
    clear hE ok
    have B9 := hid (BR2.set zeroCh none 0 0)
    have HB9 := hid (Below.setBox HB2 (g := w.heap.size + 1) (Nat.le_succ _) zeroCh none 0 0)
    obtain ⟨z0, z1, z2, z3, z4, z5, z6⟩ := BR2.all
    have f0 := BR2.f 0
    have f1 := BR2.f 1
    have f2 := BR2.f 2
    have f3 := BR2.f 3
    have f4 := BR2.f 4
    have f5 := BR2.f 5
    have f6 := BR2.f 6
    go_wp2
    refine bodyPost_ret_by (results_ct rfl _ _ (w.heap.size + 1) 0 rfl [.int .u64 0, .int .u64 0, .int .u64 0, .int .u64 0, .int .u64 0, .slice none 0 0, .bool false] _ (range7 B9.out) Try.underlying26 rfl (by kernel_rfl)) rfl ?_
    exact ⟨_, by rw [HE.out.1]; rfl, by rw [HE.out.2]; exact ⟨_, rfl, OwnL.nil _ _ _ _ _⟩, HB9.out⟩
  rw [hE]
  clear hE
  obtain ⟨p0, p1, p2, p3, p4, p5, p6⟩ := BC2.all
  obtain ⟨o, ho⟩ : ∃ z, c.Open = z := ⟨_, rfl⟩
  rw [ho] at p6
  have HO := hid ho
  clear ho
  cases o
  · have HE := hid (show clE c = 14 ∧ clC c = zeroCh from by
      have e : clE c = 14 := by unfold clE; rw [if_pos ok, if_pos HO.out]
      exact ⟨e, cl_no (by rw [e]; decide)⟩)
    have B9 := hid (BR2.set zeroCh none 0 0)
    have HB9 := hid (Below.setBox HB2 (g := w.heap.size + 1) (Nat.le_succ _) zeroCh none 0 0)
    obtain ⟨z0, z1, z2, z3, z4, z5, z6⟩ := BR2.all
    have f0 := BR2.f 0
    have f1 := BR2.f 1
    have f2 := BR2.f 2
    have f3 := BR2.f 3
    have f4 := BR2.f 4
    have f5 := BR2.f 5
    have f6 := BR2.f 6
    go_wp2
    refine bodyPost_ret_by (results_ct rfl _ _ (w.heap.size + 1) 0 rfl [.int .u64 0, .int .u64 0, .int .u64 0, .int .u64 0, .int .u64 0, .slice none 0 0, .bool false] _ (range7 B9.out) Try.underlying26 rfl (by kernel_rfl)) rfl ?_
    exact ⟨_, by rw [HE.out.1]; rfl, by rw [HE.out.2]; exact ⟨_, rfl, OwnL.nil _ _ _ _ _⟩, HB9.out⟩
  go_upto_region 5 with (fail)
  rw [← HO.out] at p6
  by_cases g2 : 0 < n
  · have HE := hid (show clE c = 10 ∧ clC c = zeroCh from by
      have e : clE c = 10 := by unfold clE; rw [if_pos ok, if_neg (by rw [HO.out]; decide), if_pos (by rw [HL.out]; exact g2)]
      exact ⟨e, cl_no (by rw [e]; decide)⟩)
    have d2 : decide ((0 : Int) < (n : Int)) = true := by simp; omega
    have d2' : decide (0 < n) = true := decide_eq_true g2
    have B9 := hid (BR2.set zeroCh none 0 0)
    have HB9 := hid (Below.setBox HB2 (g := w.heap.size + 1) (Nat.le_succ _) zeroCh none 0 0)
    obtain ⟨z0, z1, z2, z3, z4, z5, z6⟩ := BR2.all
    have f0 := BR2.f 0
    have f1 := BR2.f 1
    have f2 := BR2.f 2
    have f3 := BR2.f 3
    have f4 := BR2.f 4
    have f5 := BR2.f 5
    have f6 := BR2.f 6
    go_wp2
    refine bodyPost_ret_by (results_ct rfl _ _ (w.heap.size + 1) 0 rfl [.int .u64 0, .int .u64 0, .int .u64 0, .int .u64 0, .int .u64 0, .slice none 0 0, .bool false] _ (range7 B9.out) Try.underlying26 rfl (by kernel_rfl)) rfl ?_
    exact ⟨_, by rw [HE.out.1]; rfl, by rw [HE.out.2]; exact ⟨_, rfl, OwnL.nil _ _ _ _ _⟩, HB9.out⟩
  have d2 : decide ((0 : Int) < (n : Int)) = false := by simp; omega
  have d2' : decide (0 < n) = false := decide_eq_false g2
  have e0 : clE c = 0 := by unfold clE; rw [if_pos ok, if_neg (by rw [HO.out]; decide), if_neg (by rw [HL.out]; exact g2)]
  have HT := hid (And.intro e0 (cl_is e0).2.2.2.1)
  have hl64 := ok.2.2.1
  clear e0 g2
  go_upto_region 7 with (fail)
  go_wp2_with fail
  refine (refCopy9_any _ c _ (chan_in hw S0 HX2) (by omega)).mono ?_
  rintro e w5 ⟨v, rfl, ⟨u, rfl, ho5⟩, hb5⟩
  obtain ⟨A7, n7, c7, rfl, hs7⟩ := ho5.read
  have BC5 := BC2.call hb5
  have BR5 := BR2.call hb5
  have HB5 := bel_call HB2 hb5
  obtain ⟨y0, y1, y2, y3, y4, y5, y6⟩ := BC5.all
  have f0 := BC5.f 0
  have f1 := BC5.f 1
  have f2 := BC5.f 2
  have f3 := BC5.f 3
  have f4 := BC5.f 4
  have f5 := BC5.f 5
  have f6 := BC5.f 6
  have BC6 := BC5.set c A7 n7 c7
  have BR6 := BR5.other (b := w.heap.size) (by omega) c A7 n7 c7
  have HB6 := Below.setBox HB5 (g := w.heap.size) (Nat.le_refl _) c A7 n7 c7
  have HX2s := HX2.size
  have HO6 := (OwnL.setBox ho5 (g := w.heap.size) (by rw [HZ.out] at HX2s; omega) c A7 n7 c7).lows (base' := W0.heap.size) (lo' := W0.heap.size) HX2s HX2s
  clear p0 p1 p2 p3 p4 p5 p6 hs7 ho5 hb5 BC5 BR5 HB5 BC2 BR2 HB2 HX2
  go_upto_region 8 with (fail)
  clear y0 y1 y2 y3 y4 y5 y6 f0 f1 f2 f3 f4 f5 f6
  generalize (((((((w5.setCell ⟨w.heap.size, 0, none⟩ (.int .u64 c.Id)).setCell ⟨w.heap.size, 1, none⟩ (.int .u64 c.Local)).setCell ⟨w.heap.size, 2, none⟩ (.int .u64 c.Remote)).setCell ⟨w.heap.size, 3, none⟩ (.int .u64 c.Reserve)).setCell ⟨w.heap.size, 4, none⟩ (.int .u64 c.Most)).setCell ⟨w.heap.size, 5, none⟩ (.slice A7 n7 c7)).setCell ⟨w.heap.size, 6, none⟩ (.bool c.Open)) = W6 at *
  obtain ⟨p0, p1, p2, p3, p4, p5, p6⟩ := BC6.all
  have g2 := BC6.f 6
  have BC8 := BC6.setOpen false
  have BR8 := BR6.setOther (b := w.heap.size) (by omega) 6 (.bool false)
  have HB8 := HB6.setCell (p := ⟨w.heap.size, 6, none⟩) (Nat.le_refl _) (.bool false)
  have HO8 := HO6.setLow (b := w.heap.size) (by rw [HZ.out]; omega) (by rw [HZ.out]; omega) 6 (.bool false)
  clear BC6 BR6 HB6 HO6
  go_upto_region 9 with (fail)
  clear p0 p1 p2 p3 p4 p5 p6 g2
  generalize W6.setCell ⟨w.heap.size, 6, none⟩ (.bool false) = W8 at *
  obtain ⟨d, hd⟩ : ∃ z : Chn, z = ⟨c.Id, c.Local, c.Remote, c.Reserve, c.Most, c.Holds, false⟩ := ⟨_, rfl⟩
  have HDH := hid (show d.Holds = c.Holds from by rw [hd])
  have HDT := hid (show clC c = d from by rw [HT.out.2, hd])
  have BC8' : BoxC W8 w.heap.size d A7 n7 c7 := by rw [hd]; exact BC8
  rw [← HDH.out] at HO8
  clear BC8 hd
  have BC8 := BC8'
  clear BC8'
  have B9 := hid (BR8.set d A7 n7 c7)
  have HB9 := hid (Below.setBox HB8 (g := w.heap.size + 1) (Nat.le_succ _) d A7 n7 c7)
  have HO9 := hid ((OwnL.setBox HO8 (g := w.heap.size + 1) (by rw [HZ.out]; omega) d A7 n7 c7).lows (base' := w.heap.size) (lo' := w.heap.size) (by rw [HZ.out]; omega) (by rw [HZ.out]; omega))
  obtain ⟨p0, p1, p2, p3, p4, p5, p6⟩ := BC8.all
  obtain ⟨z0, z1, z2, z3, z4, z5, z6⟩ := BR8.all
  have f0 := BR8.f 0
  have f1 := BR8.f 1
  have f2 := BR8.f 2
  have f3 := BR8.f 3
  have f4 := BR8.f 4
  have f5 := BR8.f 5
  have f6 := BR8.f 6
  clear BC8 BR8 HB8 HO8
  go_wp2
  refine bodyPost_ret_by (results_ct rfl _ _ (w.heap.size + 1) 0 rfl [.int .u64 d.Id, .int .u64 d.Local, .int .u64 d.Remote, .int .u64 d.Reserve, .int .u64 d.Most, .slice A7 n7 c7, .bool d.Open] _ (range7 B9.out) Try.underlying26 rfl (by kernel_rfl)) rfl ?_
  exact ⟨_, by rw [HT.out.1]; rfl, by rw [HDT.out]; exact ⟨_, rfl, HO9.out⟩, HB9.out⟩
end Go.Proofs.Ytanlpcndbfmkiaa
