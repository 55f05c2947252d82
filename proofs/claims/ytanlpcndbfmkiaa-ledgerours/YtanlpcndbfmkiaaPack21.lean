/-
  Package channel: Push, Close.
-/
import Derived.Test.YtanlpcndbfmkiaaPack1
import Derived.Test.YtanlpcndbfmkiaaPack2
import Derived.Test.YtanlpcndbfmkiaaPack3
import Derived.Test.YtanlpcndbfmkiaaPack4
import Derived.Test.YtanlpcndbfmkiaaPack5
import Derived.Test.YtanlpcndbfmkiaaPack6
import Derived.Test.YtanlpcndbfmkiaaPack7
import Derived.Test.YtanlpcndbfmkiaaPack8
import Derived.Test.YtanlpcndbfmkiaaPack9
import Derived.Test.YtanlpcndbfmkiaaPack10
import Derived.Test.YtanlpcndbfmkiaaPack11
import Derived.Test.YtanlpcndbfmkiaaPack12
import Derived.Test.YtanlpcndbfmkiaaPack13
import Derived.Test.YtanlpcndbfmkiaaPack14
import Derived.Test.YtanlpcndbfmkiaaPack15
import Derived.Test.YtanlpcndbfmkiaaPack16
import Derived.Test.YtanlpcndbfmkiaaPack17
import Derived.Test.YtanlpcndbfmkiaaPack18
import Derived.Test.YtanlpcndbfmkiaaPack19
import Derived.Test.YtanlpcndbfmkiaaPack20
namespace Go.Proofs.Ytanlpcndbfmkiaa
open Go.RowKit Go.WalkArith

set_option maxRecDepth 100000 in
set_option maxHeartbeats 8000000 in
theorem cPush_any (s : Array Value) (c : Chn) (m : Int) (w : World) (r : lay_Channel.rep w (· < w.heap.size) c s.toList) (hm : (Lit.int .u64 m).wf = true) :
    Calls Try.prog 51 #[.agg s, .int .u64 m] w fun e w' => ∃ v, e = .returned (.tuple #[v, .int .i64 (puE c m)]) ∧ OwnC w' w.heap.size v (puC c m) ∧ Below w.heap.size w w' := by
  obtain ⟨A, n, k, rfl, hw, hs⟩ := agg_Channel r
  clear r
  have HL := hid hs.len
  have hcap := hs.cap
  unfold maxLen at hcap
  have hb0 : Below w.heap.size w ((w.alloc (Obj.cells #[.int .u64 c.Id, .int .u64 c.Local, .int .u64 c.Remote, .int .u64 c.Reserve, .int .u64 c.Most, .slice A n k, .bool c.Open] 26)).alloc (Obj.cells #[.int .u64 0, .int .u64 0, .int .u64 0, .int .u64 0, .int .u64 0, .slice none 0 0, .bool false] 26)) := bel_alloc (bel_alloc (Below.refl _ _) _) _
  have BC : BoxC ((w.alloc (Obj.cells #[.int .u64 c.Id, .int .u64 c.Local, .int .u64 c.Remote, .int .u64 c.Reserve, .int .u64 c.Most, .slice A n k, .bool c.Open] 26)).alloc (Obj.cells #[.int .u64 0, .int .u64 0, .int .u64 0, .int .u64 0, .int .u64 0, .slice none 0 0, .bool false] 26)) w.heap.size c A n k := heap_alloc2_old _ _ _
  have BR : BoxC ((w.alloc (Obj.cells #[.int .u64 c.Id, .int .u64 c.Local, .int .u64 c.Remote, .int .u64 c.Reserve, .int .u64 c.Most, .slice A n k, .bool c.Open] 26)).alloc (Obj.cells #[.int .u64 0, .int .u64 0, .int .u64 0, .int .u64 0, .int .u64 0, .slice none 0 0, .bool false] 26)) (w.heap.size + 1) zeroCh none 0 0 := alloc2_new _ _ _
  have HZ := hid (show ((w.alloc (Obj.cells #[.int .u64 c.Id, .int .u64 c.Local, .int .u64 c.Remote, .int .u64 c.Reserve, .int .u64 c.Most, .slice A n k, .bool c.Open] 26)).alloc (Obj.cells #[.int .u64 0, .int .u64 0, .int .u64 0, .int .u64 0, .int .u64 0, .slice none 0 0, .bool false] 26)).heap.size = w.heap.size + 2 from by simp)
  have S0 := Sl.call hs hb0
  go_enter Try.func51, Try.ntmps51
  go_upto_region 1 with (fail)
  generalize ((w.alloc (Obj.cells #[.int .u64 c.Id, .int .u64 c.Local, .int .u64 c.Remote, .int .u64 c.Reserve, .int .u64 c.Most, .slice A n k, .bool c.Open] 26)).alloc (Obj.cells #[.int .u64 0, .int .u64 0, .int .u64 0, .int .u64 0, .int .u64 0, .slice none 0 0, .bool false] 26)) = W0 at *
  have bm := bounds_u64 hm
  obtain ⟨p0, p1, p2, p3, p4, p5, p6⟩ := BC.all
  go_wp2_with fail
  refine (cCheck_any _ c _ (chan_in hw S0 (Below.refl _ _))).mono ?_
  rintro e w1 ⟨rfl, hb1⟩
  replace BC := BC.call hb1
  replace BR := BR.call hb1
  have HB := bel_call hb0 hb1
  have HX := hb1
  clear p0 p1 p2 p3 p4 p5 p6 hb1
  rcases ch_is (c := c) with ⟨ok, hE⟩ | ⟨ok, hE⟩
  rotate_left
  · rw [hE]
    have HE := hid (show puE c m = 1 ∧ puC c m = zeroCh from by
      have e : puE c m = 1 := if_neg fun h => ok h.1
      exact ⟨e, pu_no (by rw [e]; decide)⟩)
    clear hE ok
    have B9 := hid (BR.set zeroCh none 0 0)
    have HB9 := hid (Below.setBox HB (g := w.heap.size + 1) (Nat.le_succ _) zeroCh none 0 0)
    obtain ⟨z0, z1, z2, z3, z4, z5, z6⟩ := BR.all
    have f0 := BR.f 0
    have f1 := BR.f 1
    have f2 := BR.f 2
    have f3 := BR.f 3
    have f4 := BR.f 4
    have f5 := BR.f 5
    have f6 := BR.f 6
    go_wp2
    refine bodyPost_ret_by (results_ct rfl _ _ (w.heap.size + 1) 0 rfl [.int .u64 0, .int .u64 0, .int .u64 0, .int .u64 0, .int .u64 0, .slice none 0 0, .bool false] _ (range7 B9.out) Try.underlying26 rfl (by kernel_rfl)) rfl ?_
    exact ⟨_, by rw [HE.out.1]; rfl, by rw [HE.out.2]; exact ⟨_, rfl, OwnL.nil _ _ _ _ _⟩, HB9.out⟩
  rw [hE]
  clear hE
  have HC1 := hid (fun (W : World) => mCheck1_any m W hm)
  rw [chkM_one] at HC1
  go_wp2_with fail
  with_reducible refine (HC1.out _).mono ?_
  rintro e w2 ⟨rfl, hb2⟩
  replace BC := BC.call hb2
  replace BR := BR.call hb2
  replace HB := bel_call HB hb2
  replace HX := bel_call HX hb2
  clear hb2
  by_cases g1 : m ≤ mMax
  rotate_left
  · rw [if_neg g1]
    have HE := hid (show puE c m = 1 ∧ puC c m = zeroCh from by
      have e : puE c m = 1 := if_neg fun h => g1 h.2
      exact ⟨e, pu_no (by rw [e]; decide)⟩)
    clear g1
    have B9 := hid (BR.set zeroCh none 0 0)
    have HB9 := hid (Below.setBox HB (g := w.heap.size + 1) (Nat.le_succ _) zeroCh none 0 0)
    obtain ⟨z0, z1, z2, z3, z4, z5, z6⟩ := BR.all
    have f0 := BR.f 0
    have f1 := BR.f 1
    have f2 := BR.f 2
    have f3 := BR.f 3
    have f4 := BR.f 4
    have f5 := BR.f 5
    have f6 := BR.f 6
    go_wp2
    refine bodyPost_ret_by (results_ct rfl _ _ (w.heap.size + 1) 0 rfl [.int .u64 0, .int .u64 0, .int .u64 0, .int .u64 0, .int .u64 0, .slice none 0 0, .bool false] _ (range7 B9.out) Try.underlying26 rfl (by kernel_rfl)) rfl ?_
    exact ⟨_, by rw [HE.out.1]; rfl, by rw [HE.out.2]; exact ⟨_, rfl, OwnL.nil _ _ _ _ _⟩, HB9.out⟩
  rw [if_pos g1]
  obtain ⟨p0, p1, p2, p3, p4, p5, p6⟩ := BC.all
  obtain ⟨o, ho⟩ : ∃ z, c.Open = z := ⟨_, rfl⟩
  rw [ho] at p6
  have HO := hid ho
  clear ho
  cases o
  · skip
    have HE := hid (show puE c m = 14 ∧ puC c m = zeroCh from by
      have e : puE c m = 14 := by unfold puE; rw [if_pos ⟨ok, g1⟩, if_pos HO.out]
      exact ⟨e, pu_no (by rw [e]; decide)⟩)
    clear g1
    have B9 := hid (BR.set zeroCh none 0 0)
    have HB9 := hid (Below.setBox HB (g := w.heap.size + 1) (Nat.le_succ _) zeroCh none 0 0)
    obtain ⟨z0, z1, z2, z3, z4, z5, z6⟩ := BR.all
    have f0 := BR.f 0
    have f1 := BR.f 1
    have f2 := BR.f 2
    have f3 := BR.f 3
    have f4 := BR.f 4
    have f5 := BR.f 5
    have f6 := BR.f 6
    go_wp2
    refine bodyPost_ret_by (results_ct rfl _ _ (w.heap.size + 1) 0 rfl [.int .u64 0, .int .u64 0, .int .u64 0, .int .u64 0, .int .u64 0, .slice none 0 0, .bool false] _ (range7 B9.out) Try.underlying26 rfl (by kernel_rfl)) rfl ?_
    exact ⟨_, by rw [HE.out.1]; rfl, by rw [HE.out.2]; exact ⟨_, rfl, OwnL.nil _ _ _ _ _⟩, HB9.out⟩
  have hno : ¬ c.Open = false := by rw [HO.out]; decide
  by_cases g2 : c.Remote < m
  · have d2 : decide (c.Remote < m) = true := decide_eq_true g2
    have HE := hid (show puE c m = 9 ∧ puC c m = zeroCh from by
      have e : puE c m = 9 := by unfold puE; rw [if_pos ⟨ok, g1⟩, if_neg hno, if_pos g2]
      exact ⟨e, pu_no (by rw [e]; decide)⟩)
    clear g1 g2 ok hno
    have B9 := hid (BR.set zeroCh none 0 0)
    have HB9 := hid (Below.setBox HB (g := w.heap.size + 1) (Nat.le_succ _) zeroCh none 0 0)
    obtain ⟨z0, z1, z2, z3, z4, z5, z6⟩ := BR.all
    have f0 := BR.f 0
    have f1 := BR.f 1
    have f2 := BR.f 2
    have f3 := BR.f 3
    have f4 := BR.f 4
    have f5 := BR.f 5
    have f6 := BR.f 6
    go_wp2
    refine bodyPost_ret_by (results_ct rfl _ _ (w.heap.size + 1) 0 rfl [.int .u64 0, .int .u64 0, .int .u64 0, .int .u64 0, .int .u64 0, .slice none 0 0, .bool false] _ (range7 B9.out) Try.underlying26 rfl (by kernel_rfl)) rfl ?_
    exact ⟨_, by rw [HE.out.1]; rfl, by rw [HE.out.2]; exact ⟨_, rfl, OwnL.nil _ _ _ _ _⟩, HB9.out⟩
  have d2 : decide (c.Remote < m) = false := decide_eq_false g2
  have e0 : puE c m = 0 := by unfold puE; rw [if_pos ⟨ok, g1⟩, if_neg hno, if_neg g2]
  have QT := hid (And.intro e0 (pu_is hw (sl_hlds hs) bm.1 e0).2.2.2.1)
  have c1 := bounds_u64 hw.loc
  have c2 := bounds_u64 hw.rem
  have hn64 : n ≤ 64 := by rw [← HL.out]; exact ok.2.2.1
  have l1 : c.Local ≤ 4611686018427387904 := ok.2.2.2.2.2.2.2.2.1
  have l2 : m ≤ 4611686018427387904 := g1
  have w1e : IntKind.u64.wrap (c.Remote - m) = c.Remote - m := IntWalk.u64_in _ (by omega)
  have w2e : IntKind.u64.wrap (c.Local + m) = c.Local + m := IntWalk.u64_in _ (by omega)
  clear e0 g1 g2 ok hno c1 c2 l1 l2
  have f2 := BC.f 2
  go_upto_region 8 with (fail)
  clear p0 p1 p2 p3 p4 p5 p6 f2
  replace BC := BC.setRem (c.Remote - m)
  replace BR := BR.setOther (b := w.heap.size) (by omega) 2 (.int .u64 (c.Remote - m))
  replace HB := HB.setCell (p := ⟨w.heap.size, 2, none⟩) (Nat.le_refl _) (.int .u64 (c.Remote - m))
  have HZ1 := Nat.le_trans HX.size (Nat.le_of_eq (World.size_setCell w2 ⟨w.heap.size, 2, none⟩ (.int .u64 (c.Remote - m))).symm)
  generalize w2.setCell ⟨w.heap.size, 2, none⟩ (.int .u64 (c.Remote - m)) = W3 at *
  obtain ⟨p0, p1, p2, p3, p4, p5, p6⟩ := BC.all
  have f1 := BC.f 1
  go_upto_region 9 with (fail)
  clear p0 p1 p2 p3 p4 p5 p6 f1
  replace BC := BC.setLoc (c.Local + m)
  replace BR := BR.setOther (b := w.heap.size) (by omega) 1 (.int .u64 (c.Local + m))
  replace HB := HB.setCell (p := ⟨w.heap.size, 1, none⟩) (Nat.le_refl _) (.int .u64 (c.Local + m))
  replace HZ1 := Nat.le_trans HZ1 (Nat.le_of_eq (World.size_setCell W3 ⟨w.heap.size, 1, none⟩ (.int .u64 (c.Local + m))).symm)
  generalize W3.setCell ⟨w.heap.size, 1, none⟩ (.int .u64 (c.Local + m)) = W5 at *
  obtain ⟨p0, p1, p2, p3, p4, p5, p6⟩ := BC.all
  go_wp2_with fail
  with_reducible refine (cloneH_any A n k c.Holds W5 ((hs.keep fun p hp => HB.cell hp).wide fun b hb => Nat.lt_of_lt_of_le hb HB.size) (by omega)).mono ?_
  rintro e w6 ⟨v6, rfl, ho6', hb6⟩
  have ho6 := ho6'.hld W5.heap.size
  obtain ⟨A7, n7, c7, rfl, hs7⟩ := ho6.read
  obtain ⟨d, hd⟩ : ∃ z : Chn, z = ⟨c.Id, c.Local + m, c.Remote - m, c.Reserve, c.Most, c.Holds, c.Open⟩ := ⟨_, rfl⟩
  have HDT := hid (show puC c m = d from by rw [hd]; exact QT.out.2)
  have BC6 := BC.call hb6
  have BR6 := BR.call hb6
  have HB6 := bel_call HB hb6
  have HO6 : OwnL lay_Hold w6 W0.heap.size (some W0.heap.size) 41 (.slice A7 n7 c7) d.Holds := by rw [hd]; exact ho6.lows HZ1 HZ1
  have BC8 : BoxC (w6.setCell ⟨w.heap.size, 5, none⟩ (.slice A7 n7 c7)) w.heap.size d A7 n7 c7 := by rw [hd]; exact BC6.setHol A7 n7 c7
  have BR8 := BR6.setOther (b := w.heap.size) (by omega) 5 (.slice A7 n7 c7)
  have HB8 := HB6.setCell (p := ⟨w.heap.size, 5, none⟩) (Nat.le_refl _) (.slice A7 n7 c7)
  have HO8 := HO6.setLow (b := w.heap.size) (by rw [HZ.out]; omega) (by rw [HZ.out]; omega) 5 (.slice A7 n7 c7)
  clear p0 p1 p2 p3 p4 p5 p6
  have y5 := BC6.all.2.2.2.2.2.1
  have g5 := BC6.f 5
  clear BC BR HB ho6 ho6' hb6 hs7 hd HB6 BR6 BC6 HO6
  go_upto_region 10 with (fail)
  clear y5 g5
  generalize w6.setCell ⟨w.heap.size, 5, none⟩ (.slice A7 n7 c7) = W8 at *
  have B9 := hid (BR8.set d A7 n7 c7)
  have HB9 := hid (Below.setBox HB8 (g := w.heap.size + 1) (Nat.le_succ _) d A7 n7 c7)
  have HO9 := hid ((OwnL.setBox HO8 (g := w.heap.size + 1) (by rw [HZ.out]; omega) d A7 n7 c7).lows (base' := w.heap.size) (lo' := w.heap.size) (by rw [HZ.out]; omega) (by rw [HZ.out]; omega))
  obtain ⟨p0, p1, p2, p3, p4, p5, p6⟩ := BC8.all
  obtain ⟨z0, z1, z2, z3, z4, z5, z6⟩ := BR8.all
  have f0 := BR8.f 0
  have f1 := BR8.f 1
  have f2 := BR8.f 2
  have f3 := BR8.f 3
  have f4 := BR8.f 4
  have f5 := BR8.f 5
  have f6 := BR8.f 6
  clear BC8 BR8 HB8 HO8
  go_wp2
  refine bodyPost_ret_by (results_ct rfl _ _ (w.heap.size + 1) 0 rfl [.int .u64 d.Id, .int .u64 d.Local, .int .u64 d.Remote, .int .u64 d.Reserve, .int .u64 d.Most, .slice A7 n7 c7, .bool d.Open] _ (range7 B9.out) Try.underlying26 rfl (by kernel_rfl)) rfl ?_
  exact ⟨_, by rw [QT.out.1]; rfl, by rw [HDT.out]; exact ⟨_, rfl, HO9.out⟩, HB9.out⟩
set_option maxRecDepth 100000 in
set_option maxHeartbeats 8000000 in
theorem cClose_any (s : Array Value) (c : Chn)  (w : World) (r : lay_Channel.rep w (· < w.heap.size) c s.toList)  :
    Calls Try.prog 48 #[.agg s] w fun e w' => ∃ t, e = .returned (.tuple #[.agg t, .int .i64 (clE c)]) ∧ lay_Channel.rep w' (· < w'.heap.size) (clC c) t.toList ∧ Below w.heap.size w w' := by
  obtain ⟨A, n, k, rfl, hw, hs⟩ := agg_Channel r
  clear r
  have HL := hid hs.len
  have hcap := hs.cap
  unfold maxLen at hcap
  have hb0 : Below w.heap.size w ((w.alloc (Obj.cells #[.int .u64 c.Id, .int .u64 c.Local, .int .u64 c.Remote, .int .u64 c.Reserve, .int .u64 c.Most, .slice A n k, .bool c.Open] 26)).alloc (Obj.cells #[.int .u64 0, .int .u64 0, .int .u64 0, .int .u64 0, .int .u64 0, .slice none 0 0, .bool false] 26)) := bel_alloc (bel_alloc (Below.refl _ _) _) _
  have BC : BoxC ((w.alloc (Obj.cells #[.int .u64 c.Id, .int .u64 c.Local, .int .u64 c.Remote, .int .u64 c.Reserve, .int .u64 c.Most, .slice A n k, .bool c.Open] 26)).alloc (Obj.cells #[.int .u64 0, .int .u64 0, .int .u64 0, .int .u64 0, .int .u64 0, .slice none 0 0, .bool false] 26)) w.heap.size c A n k := heap_alloc2_old _ _ _
  have BR : BoxC ((w.alloc (Obj.cells #[.int .u64 c.Id, .int .u64 c.Local, .int .u64 c.Remote, .int .u64 c.Reserve, .int .u64 c.Most, .slice A n k, .bool c.Open] 26)).alloc (Obj.cells #[.int .u64 0, .int .u64 0, .int .u64 0, .int .u64 0, .int .u64 0, .slice none 0 0, .bool false] 26)) (w.heap.size + 1) zeroCh none 0 0 := alloc2_new _ _ _
  have HZ := hid (show ((w.alloc (Obj.cells #[.int .u64 c.Id, .int .u64 c.Local, .int .u64 c.Remote, .int .u64 c.Reserve, .int .u64 c.Most, .slice A n k, .bool c.Open] 26)).alloc (Obj.cells #[.int .u64 0, .int .u64 0, .int .u64 0, .int .u64 0, .int .u64 0, .slice none 0 0, .bool false] 26)).heap.size = w.heap.size + 2 from by simp)
  have S0 := Sl.call hs hb0
  go_enter Try.func48, Try.ntmps48
  go_upto_region 1 with (fail)
  generalize ((w.alloc (Obj.cells #[.int .u64 c.Id, .int .u64 c.Local, .int .u64 c.Remote, .int .u64 c.Reserve, .int .u64 c.Most, .slice A n k, .bool c.Open] 26)).alloc (Obj.cells #[.int .u64 0, .int .u64 0, .int .u64 0, .int .u64 0, .int .u64 0, .slice none 0 0, .bool false] 26)) = W0 at *
  obtain ⟨p0, p1, p2, p3, p4, p5, p6⟩ := BC.all
  go_wp2_with fail
  refine (cCheck_any _ c _ (chan_in hw S0 (Below.refl _ _))).mono ?_
  rintro e w1 ⟨rfl, hb1⟩
  replace BC := BC.call hb1
  replace BR := BR.call hb1
  have HB := bel_call hb0 hb1
  have HX := hb1
  clear p0 p1 p2 p3 p4 p5 p6 hb1
  rcases ch_is (c := c) with ⟨ok, hE⟩ | ⟨ok, hE⟩
  rotate_left
  · rw [hE]
    have HE := hid (show clE c = 1 ∧ clC c = zeroCh from by
      have e : clE c = 1 := if_neg ok
      exact ⟨e, cl_no (by rw [e]; decide)⟩)
    clear hE ok
    have B9 := hid (BR.set zeroCh none 0 0)
    have HB9 := hid (Below.setBox HB (g := w.heap.size + 1) (Nat.le_succ _) zeroCh none 0 0)
    obtain ⟨z0, z1, z2, z3, z4, z5, z6⟩ := BR.all
    have f0 := BR.f 0
    have f1 := BR.f 1
    have f2 := BR.f 2
    have f3 := BR.f 3
    have f4 := BR.f 4
    have f5 := BR.f 5
    have f6 := BR.f 6
    go_wp2
    refine bodyPost_ret_by (results_ct rfl _ _ (w.heap.size + 1) 0 rfl [.int .u64 0, .int .u64 0, .int .u64 0, .int .u64 0, .int .u64 0, .slice none 0 0, .bool false] _ (range7 B9.out) Try.underlying26 rfl (by kernel_rfl)) rfl ?_
    exact ⟨_, by rw [HE.out.1]; rfl, by rw [HE.out.2]; exact rep_Channel.2 ⟨none, 0, 0, rfl, ⟨by decide, by decide, by decide, by decide, by decide⟩, Sl.nil _ _ _⟩, HB9.out⟩
  rw [hE]
  clear hE
  obtain ⟨p0, p1, p2, p3, p4, p5, p6⟩ := BC.all
  obtain ⟨o, ho⟩ : ∃ z, c.Open = z := ⟨_, rfl⟩
  rw [ho] at p6
  have HO := hid ho
  clear ho
  cases o
  · skip
    have HE := hid (show clE c = 14 ∧ clC c = zeroCh from by
      have e : clE c = 14 := by unfold clE; rw [if_pos ok, if_pos HO.out]
      exact ⟨e, cl_no (by rw [e]; decide)⟩)
    have B9 := hid (BR.set zeroCh none 0 0)
    have HB9 := hid (Below.setBox HB (g := w.heap.size + 1) (Nat.le_succ _) zeroCh none 0 0)
    obtain ⟨z0, z1, z2, z3, z4, z5, z6⟩ := BR.all
    have f0 := BR.f 0
    have f1 := BR.f 1
    have f2 := BR.f 2
    have f3 := BR.f 3
    have f4 := BR.f 4
    have f5 := BR.f 5
    have f6 := BR.f 6
    go_wp2
    refine bodyPost_ret_by (results_ct rfl _ _ (w.heap.size + 1) 0 rfl [.int .u64 0, .int .u64 0, .int .u64 0, .int .u64 0, .int .u64 0, .slice none 0 0, .bool false] _ (range7 B9.out) Try.underlying26 rfl (by kernel_rfl)) rfl ?_
    exact ⟨_, by rw [HE.out.1]; rfl, by rw [HE.out.2]; exact rep_Channel.2 ⟨none, 0, 0, rfl, ⟨by decide, by decide, by decide, by decide, by decide⟩, Sl.nil _ _ _⟩, HB9.out⟩
  have hno : ¬ c.Open = false := by rw [HO.out]; decide
  by_cases g2 : 0 < n
  · have d2 : decide ((0 : Int) < (n : Int)) = true := by simp; omega
    have d2' : decide (0 < n) = true := decide_eq_true g2
    have HE := hid (show clE c = 10 ∧ clC c = zeroCh from by
      have e : clE c = 10 := by unfold clE; rw [if_pos ok, if_neg hno, if_pos (by rw [HL.out]; exact g2)]
      exact ⟨e, cl_no (by rw [e]; decide)⟩)
    have B9 := hid (BR.set zeroCh none 0 0)
    have HB9 := hid (Below.setBox HB (g := w.heap.size + 1) (Nat.le_succ _) zeroCh none 0 0)
    obtain ⟨z0, z1, z2, z3, z4, z5, z6⟩ := BR.all
    have f0 := BR.f 0
    have f1 := BR.f 1
    have f2 := BR.f 2
    have f3 := BR.f 3
    have f4 := BR.f 4
    have f5 := BR.f 5
    have f6 := BR.f 6
    go_wp2
    refine bodyPost_ret_by (results_ct rfl _ _ (w.heap.size + 1) 0 rfl [.int .u64 0, .int .u64 0, .int .u64 0, .int .u64 0, .int .u64 0, .slice none 0 0, .bool false] _ (range7 B9.out) Try.underlying26 rfl (by kernel_rfl)) rfl ?_
    exact ⟨_, by rw [HE.out.1]; rfl, by rw [HE.out.2]; exact rep_Channel.2 ⟨none, 0, 0, rfl, ⟨by decide, by decide, by decide, by decide, by decide⟩, Sl.nil _ _ _⟩, HB9.out⟩
  have d2 : decide ((0 : Int) < (n : Int)) = false := by simp; omega
  have d2' : decide (0 < n) = false := decide_eq_false g2
  have e0 : clE c = 0 := by unfold clE; rw [if_pos ok, if_neg hno, if_neg (by rw [HL.out]; exact g2)]
  have hnil : c.Holds = [] := (cl_is e0).2.2.1
  have QT := hid (And.intro e0 (cl_is e0).2.2.2.1)
  clear e0 g2 hno
  have f6 := BC.f 6
  go_upto_region 8 with (fail)
  clear p0 p1 p2 p3 p4 p5 p6 f6
  replace BC := BC.setOpen false
  replace BR := BR.setOther (b := w.heap.size) (by omega) 6 (.bool false)
  replace HB := HB.setCell (p := ⟨w.heap.size, 6, none⟩) (Nat.le_refl _) (.bool false)
  generalize w1.setCell ⟨w.heap.size, 6, none⟩ (.bool false) = W3 at *
  obtain ⟨p0, p1, p2, p3, p4, p5, p6⟩ := BC.all
  have f5 := BC.f 5
  go_upto_region 9 with (fail)
  clear p0 p1 p2 p3 p4 p5 p6 f5
  obtain ⟨d, hd⟩ : ∃ z : Chn, z = ⟨c.Id, c.Local, c.Remote, c.Reserve, c.Most, c.Holds, false⟩ := ⟨_, rfl⟩
  have HDT := hid (show clC c = d from by rw [hd]; exact QT.out.2)
  have BC8 : BoxC (W3.setCell ⟨w.heap.size, 5, none⟩ (.slice none 0 0)) w.heap.size d none 0 0 := by rw [hd]; exact BC.setHol none 0 0
  have BR8 := BR.setOther (b := w.heap.size) (by omega) 5 (.slice none 0 0)
  have HB8 := HB.setCell (p := ⟨w.heap.size, 5, none⟩) (Nat.le_refl _) (.slice none 0 0)
  have HDW := hid (show ChnWf d ∧ d.Holds = [] from by rw [hd]; exact ⟨⟨hw.id, hw.loc, hw.rem, hw.res, hw.most⟩, hnil⟩)
  clear BC BR HB hd hnil
  generalize W3.setCell ⟨w.heap.size, 5, none⟩ (.slice none 0 0) = W8 at *
  have B9 := hid (BR8.set d none 0 0)
  have HB9 := hid (Below.setBox HB8 (g := w.heap.size + 1) (Nat.le_succ _) d none 0 0)
  obtain ⟨p0, p1, p2, p3, p4, p5, p6⟩ := BC8.all
  obtain ⟨z0, z1, z2, z3, z4, z5, z6⟩ := BR8.all
  have f0 := BR8.f 0
  have f1 := BR8.f 1
  have f2 := BR8.f 2
  have f3 := BR8.f 3
  have f4 := BR8.f 4
  have f5 := BR8.f 5
  have f6 := BR8.f 6
  clear BC8 BR8 HB8
  go_wp2
  refine bodyPost_ret_by (results_ct rfl _ _ (w.heap.size + 1) 0 rfl [.int .u64 d.Id, .int .u64 d.Local, .int .u64 d.Remote, .int .u64 d.Reserve, .int .u64 d.Most, .slice none 0 0, .bool d.Open] _ (range7 B9.out) Try.underlying26 rfl (by kernel_rfl)) rfl ?_
  exact ⟨_, by rw [QT.out.1]; rfl, by rw [HDT.out]; exact rep_Channel.2 ⟨none, 0, 0, rfl, HDW.out.1, by rw [HDW.out.2]; exact Sl.nil _ _ _⟩, HB9.out⟩
end Go.Proofs.Ytanlpcndbfmkiaa
