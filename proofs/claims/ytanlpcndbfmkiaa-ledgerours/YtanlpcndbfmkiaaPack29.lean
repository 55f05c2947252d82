/-
  Package ledger: End's closure.
-/
import Derived.Test.YtanlpcndbfmkiaaPack1
import Derived.Test.YtanlpcndbfmkiaaPack2
import Derived.Test.YtanlpcndbfmkiaaPack3
import Derived.Test.YtanlpcndbfmkiaaPack4
import Derived.Test.YtanlpcndbfmkiaaPack5
import Derived.Test.YtanlpcndbfmkiaaPack6
import Derived.Test.YtanlpcndbfmkiaaPack7
import Derived.Test.YtanlpcndbfmkiaaPack8
import Derived.Test.YtanlpcndbfmkiaaPack9
import Derived.Test.YtanlpcndbfmkiaaPack10
import Derived.Test.YtanlpcndbfmkiaaPack11
import Derived.Test.YtanlpcndbfmkiaaPack12
import Derived.Test.YtanlpcndbfmkiaaPack13
import Derived.Test.YtanlpcndbfmkiaaPack14
import Derived.Test.YtanlpcndbfmkiaaPack15
import Derived.Test.YtanlpcndbfmkiaaPack16
import Derived.Test.YtanlpcndbfmkiaaPack17
import Derived.Test.YtanlpcndbfmkiaaPack18
import Derived.Test.YtanlpcndbfmkiaaPack19
import Derived.Test.YtanlpcndbfmkiaaPack20
import Derived.Test.YtanlpcndbfmkiaaPack21
import Derived.Test.YtanlpcndbfmkiaaPack22
import Derived.Test.YtanlpcndbfmkiaaPack23
import Derived.Test.YtanlpcndbfmkiaaPack24
import Derived.Test.YtanlpcndbfmkiaaPack25
import Derived.Test.YtanlpcndbfmkiaaPack26
import Derived.Test.YtanlpcndbfmkiaaPack27
import Derived.Test.YtanlpcndbfmkiaaPack28
namespace Go.Proofs.Ytanlpcndbfmkiaa
open Go.RowKit Go.WalkArith

set_option maxRecDepth 100000 in
set_option maxHeartbeats 4000000 in
theorem endS1_any (s : Array Value) (c : Chn) (hold x0 : Int) (pf ph pn B : Nat) (w : World) (r : lay_Channel.rep w (· < w.heap.size) c s.toList) (hB : B ≤ pn) (hB2 : B ≤ w.heap.size)
    (hpf : w.heap[pf]? = some (.cells #[.func (.func 58) #[] #[]] 74 (0, 0))) (hph : w.heap[ph]? = some (.cells #[.int .u64 hold] 23 (0, 0))) (hpn : w.heap[pn]? = some (.cells #[.int .u64 x0] 23 (0, 0))) :
    Calls Try.prog 59 #[.agg s, .pointer (some ⟨pf, 0, none⟩), .pointer (some ⟨ph, 0, none⟩), .pointer (some ⟨pn, 0, none⟩)] w fun e w' => ∃ v, e = .returned (.tuple #[v, .int .i64 (wtE c hold)]) ∧ OwnC w' w.heap.size v (seC c hold) ∧ w'.heap[pn]? = some (.cells #[.int .u64 (wtN c hold)] 23 (0, 0)) ∧ Below B w w' := by
  obtain ⟨A, n, k, rfl, hw, hs⟩ := agg_Channel r
  have HWL := hid (And.intro hw (sl_hlds hs))
  have hb0 : Below w.heap.size w ((w.alloc (Obj.cells #[.int .u64 c.Id, .int .u64 c.Local, .int .u64 c.Remote, .int .u64 c.Reserve, .int .u64 c.Most, .slice A n k, .bool c.Open] 26)).alloc (Obj.cells #[.int .u64 0, .int .u64 0, .int .u64 0, .int .u64 0, .int .u64 0, .slice none 0 0, .bool false] 26)) := bel_alloc (bel_alloc (Below.refl _ _) _) _
  have BC : BoxC ((w.alloc (Obj.cells #[.int .u64 c.Id, .int .u64 c.Local, .int .u64 c.Remote, .int .u64 c.Reserve, .int .u64 c.Most, .slice A n k, .bool c.Open] 26)).alloc (Obj.cells #[.int .u64 0, .int .u64 0, .int .u64 0, .int .u64 0, .int .u64 0, .slice none 0 0, .bool false] 26)) w.heap.size c A n k := heap_alloc2_old _ _ _
  have BR : BoxC ((w.alloc (Obj.cells #[.int .u64 c.Id, .int .u64 c.Local, .int .u64 c.Remote, .int .u64 c.Reserve, .int .u64 c.Most, .slice A n k, .bool c.Open] 26)).alloc (Obj.cells #[.int .u64 0, .int .u64 0, .int .u64 0, .int .u64 0, .int .u64 0, .slice none 0 0, .bool false] 26)) (w.heap.size + 1) zeroCh none 0 0 := alloc2_new _ _ _
  have HZ := hid (show ((w.alloc (Obj.cells #[.int .u64 c.Id, .int .u64 c.Local, .int .u64 c.Remote, .int .u64 c.Reserve, .int .u64 c.Most, .slice A n k, .bool c.Open] 26)).alloc (Obj.cells #[.int .u64 0, .int .u64 0, .int .u64 0, .int .u64 0, .int .u64 0, .slice none 0 0, .bool false] 26)).heap.size = w.heap.size + 2 from by simp)
  have S0 := Sl.call hs hb0
  clear r hs
  have c1 := one_call hpf hb0
  have c2 := one_call hph hb0
  have c3 := one_call hpn hb0
  have hlt := one_lt hpn
  have HBB := hid hb0
  go_enter Try.func59, Try.ntmps59
  go_upto_region 1 with (fail)
  generalize (w.alloc (Obj.cells #[.int .u64 c.Id, .int .u64 c.Local, .int .u64 c.Remote, .int .u64 c.Reserve, .int .u64 c.Most, .slice A n k, .bool c.Open] 26)).alloc (Obj.cells #[.int .u64 0, .int .u64 0, .int .u64 0, .int .u64 0, .int .u64 0, .slice none 0 0, .bool false] 26) = W0 at *
  have p1 := one_cell c1
  have p2 := one_cell c2
  obtain ⟨y0, y1, y2, y3, y4, y5, y6⟩ := BC.all
  go_wp2_with fail
  with_reducible refine (cSettle_any _ c hold W0 (chan_in hw S0 (Below.refl _ _))).mono ?_
  rintro e w1 ⟨v1, rfl, ⟨u, rfl, ho⟩, hb1⟩
  obtain ⟨Au, nu, cu, rfl, hsu⟩ := ho.read
  obtain ⟨t, ht⟩ : ∃ t, seC c hold = t := ⟨_, rfl⟩
  rw [ht] at ho hsu ⊢
  have HT := hid ht
  clear ht
  replace BR := BR.call hb1
  replace BC := BC.call hb1
  have HB1 := bel_call hb0 hb1
  have k3 := one_call c3 hb1
  have BC4 := BC.set t Au nu cu
  have HB4 := Below.setBox HB1 (g := w.heap.size) (Nat.le_refl _) t Au nu cu
  have HO4 := OwnL.setBox ho (g := w.heap.size) (by rw [HZ.out]; omega) t Au nu cu
  have BR4 : BoxC (((((((w1.setCell ⟨w.heap.size, 0, none⟩ (.int .u64 t.Id)).setCell ⟨w.heap.size, 1, none⟩ (.int .u64 t.Local)).setCell ⟨w.heap.size, 2, none⟩ (.int .u64 t.Remote)).setCell ⟨w.heap.size, 3, none⟩ (.int .u64 t.Reserve)).setCell ⟨w.heap.size, 4, none⟩ (.int .u64 t.Most)).setCell ⟨w.heap.size, 5, none⟩ (.slice Au nu cu)).setCell ⟨w.heap.size, 6, none⟩ (.bool t.Open)) (w.heap.size + 1) zeroCh none 0 0 := ((((((BR.setOther (by omega) 0 _).setOther (by omega) 1 _).setOther (by omega) 2 _).setOther (by omega) 3 _).setOther (by omega) 4 _).setOther (by omega) 5 _).setOther (by omega) 6 _
  have hne : pn ≠ w.heap.size := by omega
  have k34 : (((((((w1.setCell ⟨w.heap.size, 0, none⟩ (.int .u64 t.Id)).setCell ⟨w.heap.size, 1, none⟩ (.int .u64 t.Local)).setCell ⟨w.heap.size, 2, none⟩ (.int .u64 t.Remote)).setCell ⟨w.heap.size, 3, none⟩ (.int .u64 t.Reserve)).setCell ⟨w.heap.size, 4, none⟩ (.int .u64 t.Most)).setCell ⟨w.heap.size, 5, none⟩ (.slice Au nu cu)).setCell ⟨w.heap.size, 6, none⟩ (.bool t.Open)).heap[pn]? = some (.cells #[.int .u64 x0] 23 (0, 0)) := by
    rw [Below.heap_setCell _ _ _ _ hne, Below.heap_setCell _ _ _ _ hne, Below.heap_setCell _ _ _ _ hne, Below.heap_setCell _ _ _ _ hne, Below.heap_setCell _ _ _ _ hne, Below.heap_setCell _ _ _ _ hne, Below.heap_setCell _ _ _ _ hne]
    exact k3
  obtain ⟨q0, q1, q2, q3, q4, q5, q6⟩ := BC.all
  have g0 := BC.f 0
  have g1 := BC.f 1
  have g2 := BC.f 2
  have g3 := BC.f 3
  have g4 := BC.f 4
  have g5 := BC.f 5
  have g6 := BC.f 6
  clear p1 p2 c1 c2 c3 y0 y1 y2 y3 y4 y5 y6 hsu ho BR BC k3 HB1 hb1
  go_upto_region 2 with (fail)
  clear q0 q1 q2 q3 q4 q5 q6 g0 g1 g2 g3 g4 g5 g6
  generalize ((((((w1.setCell ⟨w.heap.size, 0, none⟩ (.int .u64 t.Id)).setCell ⟨w.heap.size, 1, none⟩ (.int .u64 t.Local)).setCell ⟨w.heap.size, 2, none⟩ (.int .u64 t.Remote)).setCell ⟨w.heap.size, 3, none⟩ (.int .u64 t.Reserve)).setCell ⟨w.heap.size, 4, none⟩ (.int .u64 t.Most)).setCell ⟨w.heap.size, 5, none⟩ (.slice Au nu cu)).setCell ⟨w.heap.size, 6, none⟩ (.bool t.Open) = W4 at *
  have x3 := one_cell k34
  have f3 := one_free k34
  have K5 : (W4.setCell ⟨pn, 0, none⟩ (.int .u64 (wtN c hold))).heap[pn]? = some (.cells #[.int .u64 (wtN c hold)] 23 (0, 0)) := by
    rw [heap_setCell_same _ _ _ _ _ _ k34]
    rfl
  have BC5 := BC4.setOther (b := pn) (by omega) 0 (.int .u64 (wtN c hold))
  have BR5 := BR4.setOther (b := pn) (by omega) 0 (.int .u64 (wtN c hold))
  have HB5 := (HB4.mono hB2).setCell (p := ⟨pn, 0, none⟩) hB (.int .u64 (wtN c hold))
  have HO5 := HO4.setLow (b := pn) (by rw [HZ.out]; omega) (by rw [HZ.out]; omega) 0 (.int .u64 (wtN c hold))
  clear k34 BC4 BR4 HB4 HO4
  go_upto_region 3 with (fail)
  clear x3 f3
  generalize W4.setCell ⟨pn, 0, none⟩ (.int .u64 (wtN c hold)) = W5 at *
  have B9 := hid (BR5.set t Au nu cu)
  have HB9 := hid (Below.setBox HB5 (g := w.heap.size + 1) (by omega) t Au nu cu)
  have HO9 := hid ((OwnL.setBox HO5 (g := w.heap.size + 1) (by rw [HZ.out]; omega) t Au nu cu).lows (base' := w.heap.size) (lo' := w.heap.size) (by rw [HZ.out]; omega) (by rw [HZ.out]; omega))
  have hn1 : pn ≠ w.heap.size + 1 := by omega
  have K9 := hid (show (((((((W5.setCell ⟨w.heap.size + 1, 0, none⟩ (.int .u64 t.Id)).setCell ⟨w.heap.size + 1, 1, none⟩ (.int .u64 t.Local)).setCell ⟨w.heap.size + 1, 2, none⟩ (.int .u64 t.Remote)).setCell ⟨w.heap.size + 1, 3, none⟩ (.int .u64 t.Reserve)).setCell ⟨w.heap.size + 1, 4, none⟩ (.int .u64 t.Most)).setCell ⟨w.heap.size + 1, 5, none⟩ (.slice Au nu cu)).setCell ⟨w.heap.size + 1, 6, none⟩ (.bool t.Open)).heap[pn]? = some (.cells #[.int .u64 (wtN c hold)] 23 (0, 0)) from by
    rw [Below.heap_setCell _ _ _ _ hn1, Below.heap_setCell _ _ _ _ hn1, Below.heap_setCell _ _ _ _ hn1, Below.heap_setCell _ _ _ _ hn1, Below.heap_setCell _ _ _ _ hn1, Below.heap_setCell _ _ _ _ hn1, Below.heap_setCell _ _ _ _ hn1]
    exact K5)
  obtain ⟨p0, p1, p2, p3, p4, p5, p6⟩ := BC5.all
  obtain ⟨z0, z1, z2, z3, z4, z5, z6⟩ := BR5.all
  have f0 := BR5.f 0
  have f1 := BR5.f 1
  have f2 := BR5.f 2
  have f3 := BR5.f 3
  have f4 := BR5.f 4
  have f5 := BR5.f 5
  have f6 := BR5.f 6
  clear BC5 BR5 HB5 HO5 K5
  go_wp2
  refine bodyPost_ret_by (results_ct rfl _ _ (w.heap.size + 1) 0 rfl [.int .u64 t.Id, .int .u64 t.Local, .int .u64 t.Remote, .int .u64 t.Reserve, .int .u64 t.Most, .slice Au nu cu, .bool t.Open] _ (range7 B9.out) Try.underlying26 rfl (by kernel_rfl)) rfl ?_
  exact ⟨_, rfl, by rw [HT.out]; exact ⟨_, rfl, HO9.out⟩, K9.out, HB9.out⟩

set_option maxRecDepth 100000 in
set_option maxHeartbeats 4000000 in
theorem endF1_any (s : Array Value) (c : Chn) (hold x0 : Int) (pf ph pn B : Nat) (w : World) (r : lay_Channel.rep w (· < w.heap.size) c s.toList) (hB : B ≤ pn) (hB2 : B ≤ w.heap.size)
    (hpf : w.heap[pf]? = some (.cells #[.func (.func 57) #[] #[]] 74 (0, 0))) (hph : w.heap[ph]? = some (.cells #[.int .u64 hold] 23 (0, 0))) (hpn : w.heap[pn]? = some (.cells #[.int .u64 x0] 23 (0, 0))) :
    Calls Try.prog 59 #[.agg s, .pointer (some ⟨pf, 0, none⟩), .pointer (some ⟨ph, 0, none⟩), .pointer (some ⟨pn, 0, none⟩)] w fun e w' => ∃ v, e = .returned (.tuple #[v, .int .i64 (wtE c hold)]) ∧ OwnC w' w.heap.size v (faC c hold) ∧ w'.heap[pn]? = some (.cells #[.int .u64 (wtN c hold)] 23 (0, 0)) ∧ Below B w w' := by
  obtain ⟨A, n, k, rfl, hw, hs⟩ := agg_Channel r
  have HWL := hid (And.intro hw (sl_hlds hs))
  have hb0 : Below w.heap.size w ((w.alloc (Obj.cells #[.int .u64 c.Id, .int .u64 c.Local, .int .u64 c.Remote, .int .u64 c.Reserve, .int .u64 c.Most, .slice A n k, .bool c.Open] 26)).alloc (Obj.cells #[.int .u64 0, .int .u64 0, .int .u64 0, .int .u64 0, .int .u64 0, .slice none 0 0, .bool false] 26)) := bel_alloc (bel_alloc (Below.refl _ _) _) _
  have BC : BoxC ((w.alloc (Obj.cells #[.int .u64 c.Id, .int .u64 c.Local, .int .u64 c.Remote, .int .u64 c.Reserve, .int .u64 c.Most, .slice A n k, .bool c.Open] 26)).alloc (Obj.cells #[.int .u64 0, .int .u64 0, .int .u64 0, .int .u64 0, .int .u64 0, .slice none 0 0, .bool false] 26)) w.heap.size c A n k := heap_alloc2_old _ _ _
  have BR : BoxC ((w.alloc (Obj.cells #[.int .u64 c.Id, .int .u64 c.Local, .int .u64 c.Remote, .int .u64 c.Reserve, .int .u64 c.Most, .slice A n k, .bool c.Open] 26)).alloc (Obj.cells #[.int .u64 0, .int .u64 0, .int .u64 0, .int .u64 0, .int .u64 0, .slice none 0 0, .bool false] 26)) (w.heap.size + 1) zeroCh none 0 0 := alloc2_new _ _ _
  have HZ := hid (show ((w.alloc (Obj.cells #[.int .u64 c.Id, .int .u64 c.Local, .int .u64 c.Remote, .int .u64 c.Reserve, .int .u64 c.Most, .slice A n k, .bool c.Open] 26)).alloc (Obj.cells #[.int .u64 0, .int .u64 0, .int .u64 0, .int .u64 0, .int .u64 0, .slice none 0 0, .bool false] 26)).heap.size = w.heap.size + 2 from by simp)
  have S0 := Sl.call hs hb0
  clear r hs
  have c1 := one_call hpf hb0
  have c2 := one_call hph hb0
  have c3 := one_call hpn hb0
  have hlt := one_lt hpn
  have HBB := hid hb0
  go_enter Try.func59, Try.ntmps59
  go_upto_region 1 with (fail)
  generalize (w.alloc (Obj.cells #[.int .u64 c.Id, .int .u64 c.Local, .int .u64 c.Remote, .int .u64 c.Reserve, .int .u64 c.Most, .slice A n k, .bool c.Open] 26)).alloc (Obj.cells #[.int .u64 0, .int .u64 0, .int .u64 0, .int .u64 0, .int .u64 0, .slice none 0 0, .bool false] 26) = W0 at *
  have p1 := one_cell c1
  have p2 := one_cell c2
  obtain ⟨y0, y1, y2, y3, y4, y5, y6⟩ := BC.all
  go_wp2_with fail
  with_reducible refine (cFail_any _ c hold W0 (chan_in hw S0 (Below.refl _ _))).mono ?_
  rintro e w1 ⟨v1, rfl, ⟨u, rfl, ho⟩, hb1⟩
  obtain ⟨Au, nu, cu, rfl, hsu⟩ := ho.read
  obtain ⟨t, ht⟩ : ∃ t, faC c hold = t := ⟨_, rfl⟩
  rw [ht] at ho hsu ⊢
  have HT := hid ht
  clear ht
  replace BR := BR.call hb1
  replace BC := BC.call hb1
  have HB1 := bel_call hb0 hb1
  have k3 := one_call c3 hb1
  have BC4 := BC.set t Au nu cu
  have HB4 := Below.setBox HB1 (g := w.heap.size) (Nat.le_refl _) t Au nu cu
  have HO4 := OwnL.setBox ho (g := w.heap.size) (by rw [HZ.out]; omega) t Au nu cu
  have BR4 : BoxC (((((((w1.setCell ⟨w.heap.size, 0, none⟩ (.int .u64 t.Id)).setCell ⟨w.heap.size, 1, none⟩ (.int .u64 t.Local)).setCell ⟨w.heap.size, 2, none⟩ (.int .u64 t.Remote)).setCell ⟨w.heap.size, 3, none⟩ (.int .u64 t.Reserve)).setCell ⟨w.heap.size, 4, none⟩ (.int .u64 t.Most)).setCell ⟨w.heap.size, 5, none⟩ (.slice Au nu cu)).setCell ⟨w.heap.size, 6, none⟩ (.bool t.Open)) (w.heap.size + 1) zeroCh none 0 0 := ((((((BR.setOther (by omega) 0 _).setOther (by omega) 1 _).setOther (by omega) 2 _).setOther (by omega) 3 _).setOther (by omega) 4 _).setOther (by omega) 5 _).setOther (by omega) 6 _
  have hne : pn ≠ w.heap.size := by omega
  have k34 : (((((((w1.setCell ⟨w.heap.size, 0, none⟩ (.int .u64 t.Id)).setCell ⟨w.heap.size, 1, none⟩ (.int .u64 t.Local)).setCell ⟨w.heap.size, 2, none⟩ (.int .u64 t.Remote)).setCell ⟨w.heap.size, 3, none⟩ (.int .u64 t.Reserve)).setCell ⟨w.heap.size, 4, none⟩ (.int .u64 t.Most)).setCell ⟨w.heap.size, 5, none⟩ (.slice Au nu cu)).setCell ⟨w.heap.size, 6, none⟩ (.bool t.Open)).heap[pn]? = some (.cells #[.int .u64 x0] 23 (0, 0)) := by
    rw [Below.heap_setCell _ _ _ _ hne, Below.heap_setCell _ _ _ _ hne, Below.heap_setCell _ _ _ _ hne, Below.heap_setCell _ _ _ _ hne, Below.heap_setCell _ _ _ _ hne, Below.heap_setCell _ _ _ _ hne, Below.heap_setCell _ _ _ _ hne]
    exact k3
  obtain ⟨q0, q1, q2, q3, q4, q5, q6⟩ := BC.all
  have g0 := BC.f 0
  have g1 := BC.f 1
  have g2 := BC.f 2
  have g3 := BC.f 3
  have g4 := BC.f 4
  have g5 := BC.f 5
  have g6 := BC.f 6
  clear p1 p2 c1 c2 c3 y0 y1 y2 y3 y4 y5 y6 hsu ho BR BC k3 HB1 hb1
  go_upto_region 2 with (fail)
  clear q0 q1 q2 q3 q4 q5 q6 g0 g1 g2 g3 g4 g5 g6
  generalize ((((((w1.setCell ⟨w.heap.size, 0, none⟩ (.int .u64 t.Id)).setCell ⟨w.heap.size, 1, none⟩ (.int .u64 t.Local)).setCell ⟨w.heap.size, 2, none⟩ (.int .u64 t.Remote)).setCell ⟨w.heap.size, 3, none⟩ (.int .u64 t.Reserve)).setCell ⟨w.heap.size, 4, none⟩ (.int .u64 t.Most)).setCell ⟨w.heap.size, 5, none⟩ (.slice Au nu cu)).setCell ⟨w.heap.size, 6, none⟩ (.bool t.Open) = W4 at *
  have x3 := one_cell k34
  have f3 := one_free k34
  have K5 : (W4.setCell ⟨pn, 0, none⟩ (.int .u64 (wtN c hold))).heap[pn]? = some (.cells #[.int .u64 (wtN c hold)] 23 (0, 0)) := by
    rw [heap_setCell_same _ _ _ _ _ _ k34]
    rfl
  have BC5 := BC4.setOther (b := pn) (by omega) 0 (.int .u64 (wtN c hold))
  have BR5 := BR4.setOther (b := pn) (by omega) 0 (.int .u64 (wtN c hold))
  have HB5 := (HB4.mono hB2).setCell (p := ⟨pn, 0, none⟩) hB (.int .u64 (wtN c hold))
  have HO5 := HO4.setLow (b := pn) (by rw [HZ.out]; omega) (by rw [HZ.out]; omega) 0 (.int .u64 (wtN c hold))
  clear k34 BC4 BR4 HB4 HO4
  go_upto_region 3 with (fail)
  clear x3 f3
  generalize W4.setCell ⟨pn, 0, none⟩ (.int .u64 (wtN c hold)) = W5 at *
  have B9 := hid (BR5.set t Au nu cu)
  have HB9 := hid (Below.setBox HB5 (g := w.heap.size + 1) (by omega) t Au nu cu)
  have HO9 := hid ((OwnL.setBox HO5 (g := w.heap.size + 1) (by rw [HZ.out]; omega) t Au nu cu).lows (base' := w.heap.size) (lo' := w.heap.size) (by rw [HZ.out]; omega) (by rw [HZ.out]; omega))
  have hn1 : pn ≠ w.heap.size + 1 := by omega
  have K9 := hid (show (((((((W5.setCell ⟨w.heap.size + 1, 0, none⟩ (.int .u64 t.Id)).setCell ⟨w.heap.size + 1, 1, none⟩ (.int .u64 t.Local)).setCell ⟨w.heap.size + 1, 2, none⟩ (.int .u64 t.Remote)).setCell ⟨w.heap.size + 1, 3, none⟩ (.int .u64 t.Reserve)).setCell ⟨w.heap.size + 1, 4, none⟩ (.int .u64 t.Most)).setCell ⟨w.heap.size + 1, 5, none⟩ (.slice Au nu cu)).setCell ⟨w.heap.size + 1, 6, none⟩ (.bool t.Open)).heap[pn]? = some (.cells #[.int .u64 (wtN c hold)] 23 (0, 0)) from by
    rw [Below.heap_setCell _ _ _ _ hn1, Below.heap_setCell _ _ _ _ hn1, Below.heap_setCell _ _ _ _ hn1, Below.heap_setCell _ _ _ _ hn1, Below.heap_setCell _ _ _ _ hn1, Below.heap_setCell _ _ _ _ hn1, Below.heap_setCell _ _ _ _ hn1]
    exact K5)
  obtain ⟨p0, p1, p2, p3, p4, p5, p6⟩ := BC5.all
  obtain ⟨z0, z1, z2, z3, z4, z5, z6⟩ := BR5.all
  have f0 := BR5.f 0
  have f1 := BR5.f 1
  have f2 := BR5.f 2
  have f3 := BR5.f 3
  have f4 := BR5.f 4
  have f5 := BR5.f 5
  have f6 := BR5.f 6
  clear BC5 BR5 HB5 HO5 K5
  go_wp2
  refine bodyPost_ret_by (results_ct rfl _ _ (w.heap.size + 1) 0 rfl [.int .u64 t.Id, .int .u64 t.Local, .int .u64 t.Remote, .int .u64 t.Reserve, .int .u64 t.Most, .slice Au nu cu, .bool t.Open] _ (range7 B9.out) Try.underlying26 rfl (by kernel_rfl)) rfl ?_
  exact ⟨_, rfl, by rw [HT.out]; exact ⟨_, rfl, HO9.out⟩, K9.out, HB9.out⟩

end Go.Proofs.Ytanlpcndbfmkiaa
