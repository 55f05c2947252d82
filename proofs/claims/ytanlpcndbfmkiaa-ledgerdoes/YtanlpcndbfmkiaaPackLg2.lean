/-
  Package ledger: Close, Push.
  Package ledger: End's closure.
  Package ledger: End.
  Package ledger: Hold.
  Elements of any size copied into a row that is known whole; a row into which one has been put.
  Package ledger: one put into a row of channels that is one's own (slices.Insert), at whatever place, with room or without.
  Package ledger: Open; all that the package answers.
-/
import Derived.Test.YtanlpcndbfmkiaaPackLg1
import Derived.Deep.QuietTactic
import Derived.Test.YtanlpcndbfmkiaaOwnPut
import Derived.Laws.CopyRow
import Derived.Test.YtanlpcndbfmkiaaLedgerSpec
import Derived.Deep.RegionLaw
import Derived.Laws.CopyOwn
import Derived.Lib.Overlaps
import Derived.Lib.AppendZeros
import Derived.Lib.AppendZerosOnto
import Derived.Test.YtanlpcndbfmkiaaAnyH
namespace Go.Proofs.Ytanlpcndbfmkiaa
open Go.RowKit Go.WalkArith

/-- A block that holds one cell. -/
theorem one_cell {w : World} {b : Nat} {v : Value} {t : TypeId} (h : w.heap[b]? = some (.cells #[v] t (0, 0))) : w.cell? ⟨b, 0, none⟩ = some v := by simp [World.cell?, h]
theorem one_free {w : World} {b : Nat} {v : Value} {t : TypeId} (h : w.heap[b]? = some (.cells #[v] t (0, 0))) : w.frozen? ⟨b, 0, none⟩ = false := by simp [World.frozen?, h]
theorem one_lt {w : World} {b : Nat} {o : Obj} (h : w.heap[b]? = some o) : b < w.heap.size := (Array.getElem?_eq_some_iff.1 h).1
theorem one_call {w w' : World} {b : Nat} {o : Obj} (h : w.heap[b]? = some o) (hb : Below w.heap.size w w') : w'.heap[b]? = some o := (hb.block b (one_lt h)).trans h
/-- What is done may be said otherwise where it fails. -/
theorem one_d {l : List Chn} {id : Int} {e : Chn → Int} {d d2 : Chn → Chn} (h : e (gtC l id) = 0 → d (gtC l id) = d2 (gtC l id)) : oneL l id e d = oneL l id e d2 := by
  unfold oneL
  by_cases q : oneE l id e = 0
  · rw [if_pos q, if_pos q]
    have : e (gtC l id) = 0 := by
      unfold oneE at q
      by_cases g : gtE l id ≠ 0
      · rw [if_pos g] at q; exact absurd q g
      · rw [if_neg g] at q; exact q
    rw [h this]
  · rw [if_neg q, if_neg q]
theorem gt_wfL {l : List Chn} (hw : ChnsWf l) {id : Int} (h : gtE l id = 0) : ChnWf (gtC l id) ∧ HldsWf (gtC l id).Holds := hw _ (gt_is h).2.2.1

set_option maxRecDepth 100000 in
set_option maxHeartbeats 4000000 in
theorem lClose_any (A : Option Addr) (n k : Nat) (l : List Chn) (id : Int) (w : World) (h : Sl lay_Channel w (· < w.heap.size) A n k l) :
    Calls Try.prog 14 #[.slice A n k, .int .u64 id] w fun e w' => ∃ v, e = .returned (.tuple #[v, .int .i64 (lclE l id)]) ∧ OwnL lay_Channel w' w.heap.size (some w.heap.size) 26 v (lclL l id) ∧ Below w.heap.size w w' := by
  have HWL := hid (sl_chns h)
  have HX := hid (change0_any 48 (fun args w => enter_any Try.func48 (by kernel_rfl) (by rfl) args w) w.heap.size (fun _ => True) (fun _ => True) (fun _ _ _ _ => trivial) (fun _ _ _ _ => trivial) clE clC A n k l id w h (Nat.le_refl _) trivial
    (fun hq s W hbW _ r => (cClose_any s (gtC l id) W (lay_Channel.wide r fun b hb => Nat.lt_of_lt_of_le hb hbW.size)).mono (by
      rintro e w' ⟨t, rfl, hr, hb⟩
      refine ⟨t, rfl, ?_, trivial, hb.mono hbW.size⟩
      obtain ⟨A1, n1, k1, hc, hw1, hs1⟩ := rep_Channel.1 hr
      have hnil : (clC (gtC l id)).Holds = [] := by
        by_cases q : clE (gtC l id) = 0
        · rw [(cl_is q).2.2.2.1]; exact (cl_is q).2.2.1
        · rw [show clC (gtC l id) = zeroCh from if_neg q]; rfl
      have hn0 : n1 = 0 := by rw [← hs1.len, hnil]; rfl
      refine rep_Channel.2 ⟨A1, n1, k1, hc, hw1, hs1.len, hs1.cap.1, hs1.cap.2, hs1.no, fun q => absurd q (by omega)⟩))
    (fun hq he => by rw [(cl_is he).2.2.2.1]; exact (gt_is hq).2.2.2.1))
  go_enter Try.func14, Try.ntmps14
  go_wp2_with fail
  with_reducible refine HX.out.mono ?_
  rintro e w1 ⟨v, rfl, ho, -, hb⟩
  have HO := hid ho
  clear ho
  go_wp2
  go_ret2
  exact ⟨_, rfl, HO.out, hb⟩

set_option maxRecDepth 100000 in
set_option maxHeartbeats 4000000 in
theorem push1_any (s : Array Value) (c : Chn) (m : Int) (pb : Nat) (w : World) (r : lay_Channel.rep w (· < w.heap.size) c s.toList) (hm : (Lit.int .u64 m).wf = true) (hp : w.heap[pb]? = some (.cells #[.int .u64 m] 23 (0, 0))) :
    Calls Try.prog 50 #[.agg s, .pointer (some ⟨pb, 0, none⟩)] w fun e w' => ∃ v, e = .returned (.tuple #[v, .int .i64 (puE c m)]) ∧ OwnC w' w.heap.size v (puC c m) ∧ Below w.heap.size w w' := by
  obtain ⟨A, n, k, rfl, hw, hs⟩ := agg_Channel r
  have HWL := hid (And.intro hw (sl_hlds hs))
  have hb0 : Below w.heap.size w ((w.alloc (Obj.cells #[.int .u64 c.Id, .int .u64 c.Local, .int .u64 c.Remote, .int .u64 c.Reserve, .int .u64 c.Most, .slice A n k, .bool c.Open] 26)).alloc (Obj.cells #[.int .u64 0, .int .u64 0, .int .u64 0, .int .u64 0, .int .u64 0, .slice none 0 0, .bool false] 26)) := bel_alloc (bel_alloc (Below.refl _ _) _) _
  have BC : BoxC ((w.alloc (Obj.cells #[.int .u64 c.Id, .int .u64 c.Local, .int .u64 c.Remote, .int .u64 c.Reserve, .int .u64 c.Most, .slice A n k, .bool c.Open] 26)).alloc (Obj.cells #[.int .u64 0, .int .u64 0, .int .u64 0, .int .u64 0, .int .u64 0, .slice none 0 0, .bool false] 26)) w.heap.size c A n k := heap_alloc2_old _ _ _
  have BR : BoxC ((w.alloc (Obj.cells #[.int .u64 c.Id, .int .u64 c.Local, .int .u64 c.Remote, .int .u64 c.Reserve, .int .u64 c.Most, .slice A n k, .bool c.Open] 26)).alloc (Obj.cells #[.int .u64 0, .int .u64 0, .int .u64 0, .int .u64 0, .int .u64 0, .slice none 0 0, .bool false] 26)) (w.heap.size + 1) zeroCh none 0 0 := alloc2_new _ _ _
  have HZ := hid (show ((w.alloc (Obj.cells #[.int .u64 c.Id, .int .u64 c.Local, .int .u64 c.Remote, .int .u64 c.Reserve, .int .u64 c.Most, .slice A n k, .bool c.Open] 26)).alloc (Obj.cells #[.int .u64 0, .int .u64 0, .int .u64 0, .int .u64 0, .int .u64 0, .slice none 0 0, .bool false] 26)).heap.size = w.heap.size + 2 from by simp)
  have S0 := Sl.call hs hb0
  clear r hs
  have hp0 := one_cell (one_call hp hb0)
  go_enter Try.func50, Try.ntmps50
  go_upto_region 1 with (fail)
  generalize (w.alloc (Obj.cells #[.int .u64 c.Id, .int .u64 c.Local, .int .u64 c.Remote, .int .u64 c.Reserve, .int .u64 c.Most, .slice A n k, .bool c.Open] 26)).alloc (Obj.cells #[.int .u64 0, .int .u64 0, .int .u64 0, .int .u64 0, .int .u64 0, .slice none 0 0, .bool false] 26) = W0 at *
  obtain ⟨p0, p1, p2, p3, p4, p5, p6⟩ := BC.all
  go_wp2_with fail
  with_reducible refine (cPush_any _ c m W0 (chan_in hw S0 (Below.refl _ _)) hm).mono ?_
  rintro e w1 ⟨v1, rfl, ⟨u, rfl, ho⟩, hb1⟩
  obtain ⟨Au, nu, cu, rfl, hsu⟩ := ho.read
  replace BR := BR.call hb1
  have HB1 := bel_call hb0 hb1
  have B9 := hid (BR.set (puC c m) Au nu cu)
  have HB9 := hid (Below.setBox HB1 (g := w.heap.size + 1) (Nat.le_succ _) (puC c m) Au nu cu)
  have HO9 := hid ((OwnL.setBox ho (g := w.heap.size + 1) (by rw [HZ.out]; omega) (puC c m) Au nu cu).lows (base' := w.heap.size) (lo' := w.heap.size) (by rw [HZ.out]; omega) (by rw [HZ.out]; omega))
  obtain ⟨z0, z1, z2, z3, z4, z5, z6⟩ := BR.all
  have f0 := BR.f 0
  have f1 := BR.f 1
  have f2 := BR.f 2
  have f3 := BR.f 3
  have f4 := BR.f 4
  have f5 := BR.f 5
  have f6 := BR.f 6
  clear p0 p1 p2 p3 p4 p5 p6 hsu
  go_wp2
  refine bodyPost_ret_by (results_ct rfl _ _ (w.heap.size + 1) 0 rfl [.int .u64 (puC c m).Id, .int .u64 (puC c m).Local, .int .u64 (puC c m).Remote, .int .u64 (puC c m).Reserve, .int .u64 (puC c m).Most, .slice Au nu cu, .bool (puC c m).Open] _ (range7 B9.out) Try.underlying26 rfl (by kernel_rfl)) rfl ?_
  exact ⟨_, rfl, ⟨_, rfl, HO9.out⟩, HB9.out⟩

set_option maxRecDepth 100000 in
set_option maxHeartbeats 4000000 in
theorem lPush_any (A : Option Addr) (n k : Nat) (l : List Chn) (id m : Int) (w : World) (h : Sl lay_Channel w (· < w.heap.size) A n k l) (hm : (Lit.int .u64 m).wf = true) :
    Calls Try.prog 16 #[.slice A n k, .int .u64 id, .int .u64 m] w fun e w' => ∃ v, e = .returned (.tuple #[v, .int .i64 (lpuE l id m)]) ∧ OwnL lay_Channel w' w.heap.size (some w.heap.size) 26 v (lpuL l id m) ∧ Below w.heap.size w w' := by
  have HWL := hid (sl_chns h)
  have hb0 := bel_alloc (Below.refl w.heap.size w) (Obj.cells #[.int .u64 m] 23)
  have hP : (w.alloc (Obj.cells #[.int .u64 m] 23)).heap[w.heap.size]? = some (.cells #[.int .u64 m] 23 (0, 0)) := heap_alloc_new w _
  have HX := hid (change1_any 50 (.pointer (some ⟨w.heap.size, 0, none⟩)) (fun args w => enter_any Try.func50 (by kernel_rfl) (by rfl) args w) w.heap.size (fun W => W.heap[w.heap.size]? = some (.cells #[.int .u64 m] 23 (0, 0))) (fun _ => True) (fun W W' hc hb => one_call hc hb) (fun _ _ _ _ => trivial) (fun c => puE c m) (fun c => puC c m) A n k l id (w.alloc (Obj.cells #[.int .u64 m] 23)) (h.keep fun p hp => hb0.cell hp) hb0.size hP
    (fun hq s W hbW hc r => (push1_any s (gtC l id) m w.heap.size W (lay_Channel.wide r fun b hb => Nat.lt_of_lt_of_le hb (Nat.le_trans hb0.size hbW.size)) hm hc).mono (by
      rintro e w' ⟨v, rfl, ho, hb⟩
      have hgw := gt_wfL HWL.out hq
      obtain ⟨t, rfl, hr⟩ := ho.rep (B := w.heap.size) (pu_wf hgw.1 hgw.2 (bounds_u64 hm).1) (Nat.le_trans hb0.size hbW.size)
      exact ⟨t, rfl, hr, trivial, hb.mono (Nat.le_trans hb0.size hbW.size)⟩))
    (fun hq he => by
      have hgw := gt_wfL HWL.out hq
      show (puC (gtC l id) m).Id = id
      rw [(pu_is hgw.1 hgw.2 (bounds_u64 hm).1 he).2.2.2.1]
      exact (gt_is hq).2.2.2.1))
  clear hP
  go_enter Try.func16, Try.ntmps16
  go_wp2_with fail
  with_reducible refine HX.out.mono ?_
  rintro e w1 ⟨v, rfl, ho, -, hb⟩
  have HO := hid ho
  have HB := hid (hb0.trans hb)
  clear ho
  go_wp2
  go_ret2
  exact ⟨_, rfl, HO.out, HB.out⟩

end Go.Proofs.Ytanlpcndbfmkiaa
namespace Go.Proofs.Ytanlpcndbfmkiaa
open Go.RowKit Go.WalkArith

set_option maxRecDepth 100000 in
set_option maxHeartbeats 4000000 in
theorem endS1_any (s : Array Value) (c : Chn) (hold x0 : Int) (pf ph pn B : Nat) (w : World) (r : lay_Channel.rep w (· < w.heap.size) c s.toList) (hB : B ≤ pn) (hB2 : B ≤ w.heap.size)
    (hpf : w.heap[pf]? = some (.cells #[.func (.func 58) #[] #[]] 74 (0, 0))) (hph : w.heap[ph]? = some (.cells #[.int .u64 hold] 23 (0, 0))) (hpn : w.heap[pn]? = some (.cells #[.int .u64 x0] 23 (0, 0))) :
    Calls Try.prog 59 #[.agg s, .pointer (some ⟨pf, 0, none⟩), .pointer (some ⟨ph, 0, none⟩), .pointer (some ⟨pn, 0, none⟩)] w fun e w' => ∃ v, e = .returned (.tuple #[v, .int .i64 (wtE c hold)]) ∧ OwnC w' w.heap.size v (seC c hold) ∧ w'.heap[pn]? = some (.cells #[.int .u64 (wtN c hold)] 23 (0, 0)) ∧ Below B w w' := by
  obtain ⟨A, n, k, rfl, hw, hs⟩ := agg_Channel r
  have HWL := hid (And.intro hw (sl_hlds hs))
  have hb0 : Below w.heap.size w ((w.alloc (Obj.cells #[.int .u64 c.Id, .int .u64 c.Local, .int .u64 c.Remote, .int .u64 c.Reserve, .int .u64 c.Most, .slice A n k, .bool c.Open] 26)).alloc (Obj.cells #[.int .u64 0, .int .u64 0, .int .u64 0, .int .u64 0, .int .u64 0, .slice none 0 0, .bool false] 26)) := bel_alloc (bel_alloc (Below.refl _ _) _) _
  have BC : BoxC ((w.alloc (Obj.cells #[.int .u64 c.Id, .int .u64 c.Local, .int .u64 c.Remote, .int .u64 c.Reserve, .int .u64 c.Most, .slice A n k, .bool c.Open] 26)).alloc (Obj.cells #[.int .u64 0, .int .u64 0, .int .u64 0, .int .u64 0, .int .u64 0, .slice none 0 0, .bool false] 26)) w.heap.size c A n k := heap_alloc2_old _ _ _
  have BR : BoxC ((w.alloc (Obj.cells #[.int .u64 c.Id, .int .u64 c.Local, .int .u64 c.Remote, .int .u64 c.Reserve, .int .u64 c.Most, .slice A n k, .bool c.Open] 26)).alloc (Obj.cells #[.int .u64 0, .int .u64 0, .int .u64 0, .int .u64 0, .int .u64 0, .slice none 0 0, .bool false] 26)) (w.heap.size + 1) zeroCh none 0 0 := alloc2_new _ _ _
  have HZ := hid (show ((w.alloc (Obj.cells #[.int .u64 c.Id, .int .u64 c.Local, .int .u64 c.Remote, .int .u64 c.Reserve, .int .u64 c.Most, .slice A n k, .bool c.Open] 26)).alloc (Obj.cells #[.int .u64 0, .int .u64 0, .int .u64 0, .int .u64 0, .int .u64 0, .slice none 0 0, .bool false] 26)).heap.size = w.heap.size + 2 from by simp)
  have S0 := Sl.call hs hb0
  clear r hs
  have c1 := one_call hpf hb0
  have c2 := one_call hph hb0
  have c3 := one_call hpn hb0
  have hlt := one_lt hpn
  have HBB := hid hb0
  go_enter Try.func59, Try.ntmps59
  go_upto_region 1 with (fail)
  generalize (w.alloc (Obj.cells #[.int .u64 c.Id, .int .u64 c.Local, .int .u64 c.Remote, .int .u64 c.Reserve, .int .u64 c.Most, .slice A n k, .bool c.Open] 26)).alloc (Obj.cells #[.int .u64 0, .int .u64 0, .int .u64 0, .int .u64 0, .int .u64 0, .slice none 0 0, .bool false] 26) = W0 at *
  have p1 := one_cell c1
  have p2 := one_cell c2
  obtain ⟨y0, y1, y2, y3, y4, y5, y6⟩ := BC.all
  go_wp2_with fail
  with_reducible refine (cSettle_any _ c hold W0 (chan_in hw S0 (Below.refl _ _))).mono ?_
  rintro e w1 ⟨v1, rfl, ⟨u, rfl, ho⟩, hb1⟩
  obtain ⟨Au, nu, cu, rfl, hsu⟩ := ho.read
  obtain ⟨t, ht⟩ : ∃ t, seC c hold = t := ⟨_, rfl⟩
  rw [ht] at ho hsu ⊢
  have HT := hid ht
  clear ht
  replace BR := BR.call hb1
  replace BC := BC.call hb1
  have HB1 := bel_call hb0 hb1
  have k3 := one_call c3 hb1
  have BC4 := BC.set t Au nu cu
  have HB4 := Below.setBox HB1 (g := w.heap.size) (Nat.le_refl _) t Au nu cu
  have HO4 := OwnL.setBox ho (g := w.heap.size) (by rw [HZ.out]; omega) t Au nu cu
  have BR4 : BoxC (((((((w1.setCell ⟨w.heap.size, 0, none⟩ (.int .u64 t.Id)).setCell ⟨w.heap.size, 1, none⟩ (.int .u64 t.Local)).setCell ⟨w.heap.size, 2, none⟩ (.int .u64 t.Remote)).setCell ⟨w.heap.size, 3, none⟩ (.int .u64 t.Reserve)).setCell ⟨w.heap.size, 4, none⟩ (.int .u64 t.Most)).setCell ⟨w.heap.size, 5, none⟩ (.slice Au nu cu)).setCell ⟨w.heap.size, 6, none⟩ (.bool t.Open)) (w.heap.size + 1) zeroCh none 0 0 := ((((((BR.setOther (by omega) 0 _).setOther (by omega) 1 _).setOther (by omega) 2 _).setOther (by omega) 3 _).setOther (by omega) 4 _).setOther (by omega) 5 _).setOther (by omega) 6 _
  have hne : pn ≠ w.heap.size := by omega
  have k34 : (((((((w1.setCell ⟨w.heap.size, 0, none⟩ (.int .u64 t.Id)).setCell ⟨w.heap.size, 1, none⟩ (.int .u64 t.Local)).setCell ⟨w.heap.size, 2, none⟩ (.int .u64 t.Remote)).setCell ⟨w.heap.size, 3, none⟩ (.int .u64 t.Reserve)).setCell ⟨w.heap.size, 4, none⟩ (.int .u64 t.Most)).setCell ⟨w.heap.size, 5, none⟩ (.slice Au nu cu)).setCell ⟨w.heap.size, 6, none⟩ (.bool t.Open)).heap[pn]? = some (.cells #[.int .u64 x0] 23 (0, 0)) := by
    rw [Below.heap_setCell _ _ _ _ hne, Below.heap_setCell _ _ _ _ hne, Below.heap_setCell _ _ _ _ hne, Below.heap_setCell _ _ _ _ hne, Below.heap_setCell _ _ _ _ hne, Below.heap_setCell _ _ _ _ hne, Below.heap_setCell _ _ _ _ hne]
    exact k3
  obtain ⟨q0, q1, q2, q3, q4, q5, q6⟩ := BC.all
  have g0 := BC.f 0
  have g1 := BC.f 1
  have g2 := BC.f 2
  have g3 := BC.f 3
  have g4 := BC.f 4
  have g5 := BC.f 5
  have g6 := BC.f 6
  clear p1 p2 c1 c2 c3 y0 y1 y2 y3 y4 y5 y6 hsu ho BR BC k3 HB1 hb1
  go_upto_region 2 with (fail)
  clear q0 q1 q2 q3 q4 q5 q6 g0 g1 g2 g3 g4 g5 g6
  generalize ((((((w1.setCell ⟨w.heap.size, 0, none⟩ (.int .u64 t.Id)).setCell ⟨w.heap.size, 1, none⟩ (.int .u64 t.Local)).setCell ⟨w.heap.size, 2, none⟩ (.int .u64 t.Remote)).setCell ⟨w.heap.size, 3, none⟩ (.int .u64 t.Reserve)).setCell ⟨w.heap.size, 4, none⟩ (.int .u64 t.Most)).setCell ⟨w.heap.size, 5, none⟩ (.slice Au nu cu)).setCell ⟨w.heap.size, 6, none⟩ (.bool t.Open) = W4 at *
  have x3 := one_cell k34
  have f3 := one_free k34
  have K5 : (W4.setCell ⟨pn, 0, none⟩ (.int .u64 (wtN c hold))).heap[pn]? = some (.cells #[.int .u64 (wtN c hold)] 23 (0, 0)) := by
    rw [heap_setCell_same _ _ _ _ _ _ k34]
    rfl
  have BC5 := BC4.setOther (b := pn) (by omega) 0 (.int .u64 (wtN c hold))
  have BR5 := BR4.setOther (b := pn) (by omega) 0 (.int .u64 (wtN c hold))
  have HB5 := (HB4.mono hB2).setCell (p := ⟨pn, 0, none⟩) hB (.int .u64 (wtN c hold))
  have HO5 := HO4.setLow (b := pn) (by rw [HZ.out]; omega) (by rw [HZ.out]; omega) 0 (.int .u64 (wtN c hold))
  clear k34 BC4 BR4 HB4 HO4
  go_upto_region 3 with (fail)
  clear x3 f3
  generalize W4.setCell ⟨pn, 0, none⟩ (.int .u64 (wtN c hold)) = W5 at *
  have B9 := hid (BR5.set t Au nu cu)
  have HB9 := hid (Below.setBox HB5 (g := w.heap.size + 1) (by omega) t Au nu cu)
  have HO9 := hid ((OwnL.setBox HO5 (g := w.heap.size + 1) (by rw [HZ.out]; omega) t Au nu cu).lows (base' := w.heap.size) (lo' := w.heap.size) (by rw [HZ.out]; omega) (by rw [HZ.out]; omega))
  have hn1 : pn ≠ w.heap.size + 1 := by omega
  have K9 := hid (show (((((((W5.setCell ⟨w.heap.size + 1, 0, none⟩ (.int .u64 t.Id)).setCell ⟨w.heap.size + 1, 1, none⟩ (.int .u64 t.Local)).setCell ⟨w.heap.size + 1, 2, none⟩ (.int .u64 t.Remote)).setCell ⟨w.heap.size + 1, 3, none⟩ (.int .u64 t.Reserve)).setCell ⟨w.heap.size + 1, 4, none⟩ (.int .u64 t.Most)).setCell ⟨w.heap.size + 1, 5, none⟩ (.slice Au nu cu)).setCell ⟨w.heap.size + 1, 6, none⟩ (.bool t.Open)).heap[pn]? = some (.cells #[.int .u64 (wtN c hold)] 23 (0, 0)) from by
    rw [Below.heap_setCell _ _ _ _ hn1, Below.heap_setCell _ _ _ _ hn1, Below.heap_setCell _ _ _ _ hn1, Below.heap_setCell _ _ _ _ hn1, Below.heap_setCell _ _ _ _ hn1, Below.heap_setCell _ _ _ _ hn1, Below.heap_setCell _ _ _ _ hn1]
    exact K5)
  obtain ⟨p0, p1, p2, p3, p4, p5, p6⟩ := BC5.all
  obtain ⟨z0, z1, z2, z3, z4, z5, z6⟩ := BR5.all
  have f0 := BR5.f 0
  have f1 := BR5.f 1
  have f2 := BR5.f 2
  have f3 := BR5.f 3
  have f4 := BR5.f 4
  have f5 := BR5.f 5
  have f6 := BR5.f 6
  clear BC5 BR5 HB5 HO5 K5
  go_wp2
  refine bodyPost_ret_by (results_ct rfl _ _ (w.heap.size + 1) 0 rfl [.int .u64 t.Id, .int .u64 t.Local, .int .u64 t.Remote, .int .u64 t.Reserve, .int .u64 t.Most, .slice Au nu cu, .bool t.Open] _ (range7 B9.out) Try.underlying26 rfl (by kernel_rfl)) rfl ?_
  exact ⟨_, rfl, by rw [HT.out]; exact ⟨_, rfl, HO9.out⟩, K9.out, HB9.out⟩

set_option maxRecDepth 100000 in
set_option maxHeartbeats 4000000 in
theorem endF1_any (s : Array Value) (c : Chn) (hold x0 : Int) (pf ph pn B : Nat) (w : World) (r : lay_Channel.rep w (· < w.heap.size) c s.toList) (hB : B ≤ pn) (hB2 : B ≤ w.heap.size)
    (hpf : w.heap[pf]? = some (.cells #[.func (.func 57) #[] #[]] 74 (0, 0))) (hph : w.heap[ph]? = some (.cells #[.int .u64 hold] 23 (0, 0))) (hpn : w.heap[pn]? = some (.cells #[.int .u64 x0] 23 (0, 0))) :
    Calls Try.prog 59 #[.agg s, .pointer (some ⟨pf, 0, none⟩), .pointer (some ⟨ph, 0, none⟩), .pointer (some ⟨pn, 0, none⟩)] w fun e w' => ∃ v, e = .returned (.tuple #[v, .int .i64 (wtE c hold)]) ∧ OwnC w' w.heap.size v (faC c hold) ∧ w'.heap[pn]? = some (.cells #[.int .u64 (wtN c hold)] 23 (0, 0)) ∧ Below B w w' := by
  obtain ⟨A, n, k, rfl, hw, hs⟩ := agg_Channel r
  have HWL := hid (And.intro hw (sl_hlds hs))
  have hb0 : Below w.heap.size w ((w.alloc (Obj.cells #[.int .u64 c.Id, .int .u64 c.Local, .int .u64 c.Remote, .int .u64 c.Reserve, .int .u64 c.Most, .slice A n k, .bool c.Open] 26)).alloc (Obj.cells #[.int .u64 0, .int .u64 0, .int .u64 0, .int .u64 0, .int .u64 0, .slice none 0 0, .bool false] 26)) := bel_alloc (bel_alloc (Below.refl _ _) _) _
  have BC : BoxC ((w.alloc (Obj.cells #[.int .u64 c.Id, .int .u64 c.Local, .int .u64 c.Remote, .int .u64 c.Reserve, .int .u64 c.Most, .slice A n k, .bool c.Open] 26)).alloc (Obj.cells #[.int .u64 0, .int .u64 0, .int .u64 0, .int .u64 0, .int .u64 0, .slice none 0 0, .bool false] 26)) w.heap.size c A n k := heap_alloc2_old _ _ _
  have BR : BoxC ((w.alloc (Obj.cells #[.int .u64 c.Id, .int .u64 c.Local, .int .u64 c.Remote, .int .u64 c.Reserve, .int .u64 c.Most, .slice A n k, .bool c.Open] 26)).alloc (Obj.cells #[.int .u64 0, .int .u64 0, .int .u64 0, .int .u64 0, .int .u64 0, .slice none 0 0, .bool false] 26)) (w.heap.size + 1) zeroCh none 0 0 := alloc2_new _ _ _
  have HZ := hid (show ((w.alloc (Obj.cells #[.int .u64 c.Id, .int .u64 c.Local, .int .u64 c.Remote, .int .u64 c.Reserve, .int .u64 c.Most, .slice A n k, .bool c.Open] 26)).alloc (Obj.cells #[.int .u64 0, .int .u64 0, .int .u64 0, .int .u64 0, .int .u64 0, .slice none 0 0, .bool false] 26)).heap.size = w.heap.size + 2 from by simp)
  have S0 := Sl.call hs hb0
  clear r hs
  have c1 := one_call hpf hb0
  have c2 := one_call hph hb0
  have c3 := one_call hpn hb0
  have hlt := one_lt hpn
  have HBB := hid hb0
  go_enter Try.func59, Try.ntmps59
  go_upto_region 1 with (fail)
  generalize (w.alloc (Obj.cells #[.int .u64 c.Id, .int .u64 c.Local, .int .u64 c.Remote, .int .u64 c.Reserve, .int .u64 c.Most, .slice A n k, .bool c.Open] 26)).alloc (Obj.cells #[.int .u64 0, .int .u64 0, .int .u64 0, .int .u64 0, .int .u64 0, .slice none 0 0, .bool false] 26) = W0 at *
  have p1 := one_cell c1
  have p2 := one_cell c2
  obtain ⟨y0, y1, y2, y3, y4, y5, y6⟩ := BC.all
  go_wp2_with fail
  with_reducible refine (cFail_any _ c hold W0 (chan_in hw S0 (Below.refl _ _))).mono ?_
  rintro e w1 ⟨v1, rfl, ⟨u, rfl, ho⟩, hb1⟩
  obtain ⟨Au, nu, cu, rfl, hsu⟩ := ho.read
  obtain ⟨t, ht⟩ : ∃ t, faC c hold = t := ⟨_, rfl⟩
  rw [ht] at ho hsu ⊢
  have HT := hid ht
  clear ht
  replace BR := BR.call hb1
  replace BC := BC.call hb1
  have HB1 := bel_call hb0 hb1
  have k3 := one_call c3 hb1
  have BC4 := BC.set t Au nu cu
  have HB4 := Below.setBox HB1 (g := w.heap.size) (Nat.le_refl _) t Au nu cu
  have HO4 := OwnL.setBox ho (g := w.heap.size) (by rw [HZ.out]; omega) t Au nu cu
  have BR4 : BoxC (((((((w1.setCell ⟨w.heap.size, 0, none⟩ (.int .u64 t.Id)).setCell ⟨w.heap.size, 1, none⟩ (.int .u64 t.Local)).setCell ⟨w.heap.size, 2, none⟩ (.int .u64 t.Remote)).setCell ⟨w.heap.size, 3, none⟩ (.int .u64 t.Reserve)).setCell ⟨w.heap.size, 4, none⟩ (.int .u64 t.Most)).setCell ⟨w.heap.size, 5, none⟩ (.slice Au nu cu)).setCell ⟨w.heap.size, 6, none⟩ (.bool t.Open)) (w.heap.size + 1) zeroCh none 0 0 := ((((((BR.setOther (by omega) 0 _).setOther (by omega) 1 _).setOther (by omega) 2 _).setOther (by omega) 3 _).setOther (by omega) 4 _).setOther (by omega) 5 _).setOther (by omega) 6 _
  have hne : pn ≠ w.heap.size := by omega
  have k34 : (((((((w1.setCell ⟨w.heap.size, 0, none⟩ (.int .u64 t.Id)).setCell ⟨w.heap.size, 1, none⟩ (.int .u64 t.Local)).setCell ⟨w.heap.size, 2, none⟩ (.int .u64 t.Remote)).setCell ⟨w.heap.size, 3, none⟩ (.int .u64 t.Reserve)).setCell ⟨w.heap.size, 4, none⟩ (.int .u64 t.Most)).setCell ⟨w.heap.size, 5, none⟩ (.slice Au nu cu)).setCell ⟨w.heap.size, 6, none⟩ (.bool t.Open)).heap[pn]? = some (.cells #[.int .u64 x0] 23 (0, 0)) := by
    rw [Below.heap_setCell _ _ _ _ hne, Below.heap_setCell _ _ _ _ hne, Below.heap_setCell _ _ _ _ hne, Below.heap_setCell _ _ _ _ hne, Below.heap_setCell _ _ _ _ hne, Below.heap_setCell _ _ _ _ hne, Below.heap_setCell _ _ _ _ hne]
    exact k3
  obtain ⟨q0, q1, q2, q3, q4, q5, q6⟩ := BC.all
  have g0 := BC.f 0
  have g1 := BC.f 1
  have g2 := BC.f 2
  have g3 := BC.f 3
  have g4 := BC.f 4
  have g5 := BC.f 5
  have g6 := BC.f 6
  clear p1 p2 c1 c2 c3 y0 y1 y2 y3 y4 y5 y6 hsu ho BR BC k3 HB1 hb1
  go_upto_region 2 with (fail)
  clear q0 q1 q2 q3 q4 q5 q6 g0 g1 g2 g3 g4 g5 g6
  generalize ((((((w1.setCell ⟨w.heap.size, 0, none⟩ (.int .u64 t.Id)).setCell ⟨w.heap.size, 1, none⟩ (.int .u64 t.Local)).setCell ⟨w.heap.size, 2, none⟩ (.int .u64 t.Remote)).setCell ⟨w.heap.size, 3, none⟩ (.int .u64 t.Reserve)).setCell ⟨w.heap.size, 4, none⟩ (.int .u64 t.Most)).setCell ⟨w.heap.size, 5, none⟩ (.slice Au nu cu)).setCell ⟨w.heap.size, 6, none⟩ (.bool t.Open) = W4 at *
  have x3 := one_cell k34
  have f3 := one_free k34
  have K5 : (W4.setCell ⟨pn, 0, none⟩ (.int .u64 (wtN c hold))).heap[pn]? = some (.cells #[.int .u64 (wtN c hold)] 23 (0, 0)) := by
    rw [heap_setCell_same _ _ _ _ _ _ k34]
    rfl
  have BC5 := BC4.setOther (b := pn) (by omega) 0 (.int .u64 (wtN c hold))
  have BR5 := BR4.setOther (b := pn) (by omega) 0 (.int .u64 (wtN c hold))
  have HB5 := (HB4.mono hB2).setCell (p := ⟨pn, 0, none⟩) hB (.int .u64 (wtN c hold))
  have HO5 := HO4.setLow (b := pn) (by rw [HZ.out]; omega) (by rw [HZ.out]; omega) 0 (.int .u64 (wtN c hold))
  clear k34 BC4 BR4 HB4 HO4
  go_upto_region 3 with (fail)
  clear x3 f3
  generalize W4.setCell ⟨pn, 0, none⟩ (.int .u64 (wtN c hold)) = W5 at *
  have B9 := hid (BR5.set t Au nu cu)
  have HB9 := hid (Below.setBox HB5 (g := w.heap.size + 1) (by omega) t Au nu cu)
  have HO9 := hid ((OwnL.setBox HO5 (g := w.heap.size + 1) (by rw [HZ.out]; omega) t Au nu cu).lows (base' := w.heap.size) (lo' := w.heap.size) (by rw [HZ.out]; omega) (by rw [HZ.out]; omega))
  have hn1 : pn ≠ w.heap.size + 1 := by omega
  have K9 := hid (show (((((((W5.setCell ⟨w.heap.size + 1, 0, none⟩ (.int .u64 t.Id)).setCell ⟨w.heap.size + 1, 1, none⟩ (.int .u64 t.Local)).setCell ⟨w.heap.size + 1, 2, none⟩ (.int .u64 t.Remote)).setCell ⟨w.heap.size + 1, 3, none⟩ (.int .u64 t.Reserve)).setCell ⟨w.heap.size + 1, 4, none⟩ (.int .u64 t.Most)).setCell ⟨w.heap.size + 1, 5, none⟩ (.slice Au nu cu)).setCell ⟨w.heap.size + 1, 6, none⟩ (.bool t.Open)).heap[pn]? = some (.cells #[.int .u64 (wtN c hold)] 23 (0, 0)) from by
    rw [Below.heap_setCell _ _ _ _ hn1, Below.heap_setCell _ _ _ _ hn1, Below.heap_setCell _ _ _ _ hn1, Below.heap_setCell _ _ _ _ hn1, Below.heap_setCell _ _ _ _ hn1, Below.heap_setCell _ _ _ _ hn1, Below.heap_setCell _ _ _ _ hn1]
    exact K5)
  obtain ⟨p0, p1, p2, p3, p4, p5, p6⟩ := BC5.all
  obtain ⟨z0, z1, z2, z3, z4, z5, z6⟩ := BR5.all
  have f0 := BR5.f 0
  have f1 := BR5.f 1
  have f2 := BR5.f 2
  have f3 := BR5.f 3
  have f4 := BR5.f 4
  have f5 := BR5.f 5
  have f6 := BR5.f 6
  clear BC5 BR5 HB5 HO5 K5
  go_wp2
  refine bodyPost_ret_by (results_ct rfl _ _ (w.heap.size + 1) 0 rfl [.int .u64 t.Id, .int .u64 t.Local, .int .u64 t.Remote, .int .u64 t.Reserve, .int .u64 t.Most, .slice Au nu cu, .bool t.Open] _ (range7 B9.out) Try.underlying26 rfl (by kernel_rfl)) rfl ?_
  exact ⟨_, rfl, by rw [HT.out]; exact ⟨_, rfl, HO9.out⟩, K9.out, HB9.out⟩

end Go.Proofs.Ytanlpcndbfmkiaa
namespace Go.Proofs.Ytanlpcndbfmkiaa
open Go.RowKit Go.WalkArith

set_option maxRecDepth 100000 in
set_option maxHeartbeats 4000000 in
theorem lEnd_any (A : Option Addr) (n k : Nat) (l : List Chn) (hold : Int) (paid : Bool) (w : World) (h : Sl lay_Channel w (· < w.heap.size) A n k l) (hh : (Lit.int .u64 hold).wf = true) :
    Calls Try.prog 20 #[.slice A n k, .int .u64 hold, .bool paid] w fun e w' => ∃ v, e = .returned (.tuple #[v, .int .u64 (enN l hold), .int .i64 (whE l hold)]) ∧ OwnL lay_Channel w' w.heap.size (some w.heap.size) 26 v (enL l hold paid) ∧ Below w.heap.size w w' := by
  have HWL := hid (sl_chns h)
  have hb0 := bel_alloc (Below.refl w.heap.size w) (Obj.cells #[.int .u64 hold] 23)
  have hP : (w.alloc (Obj.cells #[.int .u64 hold] 23)).heap[w.heap.size]? = some (.cells #[.int .u64 hold] 23 (0, 0)) := heap_alloc_new w _
  go_enter Try.func20, Try.ntmps20
  go_upto_region 1 with (fail)
  generalize w.alloc (Obj.cells #[.int .u64 hold] 23) = W0 at *
  have p0 := one_cell hP
  go_wp2_with fail
  with_reducible refine (lWhere_any A n k l hold W0 (Sl.call h hb0) hh).mono ?_
  obtain ⟨xv, hxv⟩ : ∃ z, whV l hold = z := ⟨_, rfl⟩
  rw [hxv]
  have HXV := hid hxv
  clear hxv
  rintro e w1 ⟨rfl, hb1⟩
  have hP1 := one_call hP hb1
  have HB1 := bel_call hb0 hb1
  clear p0 hP hb0 hb1
  by_cases hq : whE l hold = 0
  rotate_left
  · have HE := hid (show enN l hold = 0 ∧ enL l hold paid = [] from ⟨if_neg hq, if_neg hq⟩)
    have d2 : (whE l hold == 0) = false := by simpa using hq
    have d3 : (whE l hold != 0) = true := by simpa using hq
    clear hq
    obtain ⟨x, hx⟩ : ∃ x, whE l hold = x := ⟨_, rfl⟩
    rw [hx] at d2 d3 ⊢
    have HX := hid hx
    clear hx
    go_wp2
    go_ret3
    exact ⟨_, by rw [HE.out.1, HX.out]; rfl, by rw [HE.out.2]; exact OwnL.nil _ _ _ _ _, HB1⟩
  have HQ := hid hq
  obtain ⟨g, c, hc, -, hv, hgc, hwt⟩ := wh_is hq
  rw [HXV.out] at hv hgc
  subst hv
  have HC := hid (show c ∈ l ∧ gtE l c.Id = 0 ∧ gtC l c.Id = c ∧ wtE c hold = 0 from ⟨hc, (gt_of g hc).1, hgc, hwt⟩)
  have HW := hid (HWL.out c hc)
  have HEN := hid (show enN l hold = wtN c hold from by unfold enN; rw [if_pos hq, HXV.out, hgc])
  rw [hq]
  clear hq g hc hgc hwt
  have hsf : ∀ (a : Addr) (K : Nat) (m : Mode) (W : World), (store a (.func (.func K) #[] #[]) m).run Try.prog W = stored Try.prog W a (.func (.func K) #[] #[]) m := fun a K m W => run_store Try.prog W a _ m rfl
  cases paid
  · skip
    have hb5 : Below w1.heap.size w1 ((w1.alloc (Obj.cells #[.func (.func 57) #[] #[]] 74)).alloc (Obj.cells #[.int .u64 0] 23)) := bel_alloc (bel_alloc (Below.refl _ _) _) _
    have hQ1 : ((w1.alloc (Obj.cells #[.func (.func 57) #[] #[]] 74)).alloc (Obj.cells #[.int .u64 0] 23)).heap[w1.heap.size]? = some (.cells #[.func (.func 57) #[] #[]] 74 (0, 0)) := heap_alloc2_old _ _ _
    have hQ2 : ((w1.alloc (Obj.cells #[.func (.func 57) #[] #[]] 74)).alloc (Obj.cells #[.int .u64 0] 23)).heap[w1.heap.size + 1]? = some (.cells #[.int .u64 0] 23 (0, 0)) := alloc2_new _ _ _
    have hQ3 := one_call hP1 hb5
    go_upto_region 8 with (fail)
    generalize (w1.alloc (Obj.cells #[.func (.func 57) #[] #[]] 74)).alloc (Obj.cells #[.int .u64 0] 23) = W5 at *
    have HB5 := bel_call HB1 hb5
    have HX := hid (change3_any 59 (.pointer (some ⟨w1.heap.size, 0, none⟩)) (.pointer (some ⟨w.heap.size, 0, none⟩)) (.pointer (some ⟨w1.heap.size + 1, 0, none⟩)) (fun args w => enter_any Try.func59 (by kernel_rfl) (by rfl) args w) w.heap.size
      (fun W => W.heap[w1.heap.size]? = some (.cells #[.func (.func 57) #[] #[]] 74 (0, 0)) ∧ W.heap[w.heap.size]? = some (.cells #[.int .u64 hold] 23 (0, 0)) ∧ W.heap[w1.heap.size + 1]? = some (.cells #[.int .u64 0] 23 (0, 0))) (fun W => W.heap[w1.heap.size + 1]? = some (.cells #[.int .u64 (wtN c hold)] 23 (0, 0))) (fun W W' hc hb => ⟨one_call hc.1 hb, one_call hc.2.1 hb, one_call hc.2.2 hb⟩) (fun W W' hc hb => one_call hc hb) (fun c => wtE c hold) (fun c => faC c hold) A n k l c.Id W5 (h.keep fun p hp => HB5.cell hp) HB5.size ⟨hQ1, hQ3, hQ2⟩
      (fun hq s W hbW hc r => by
        rw [HC.out.2.2.1] at r ⊢
        exact (endF1_any s c hold 0 w1.heap.size w.heap.size (w1.heap.size + 1) w.heap.size W (lay_Channel.wide r fun b hb => Nat.lt_of_lt_of_le hb (HB5.trans hbW).size) (Nat.le_trans HB1.size (Nat.le_succ _)) (HB5.trans hbW).size hc.1 hc.2.1 hc.2.2).mono (by
          rintro e w' ⟨v, rfl, ho, hn, hb⟩
          obtain ⟨t, rfl, hr⟩ := ho.rep (B := w.heap.size) (fa_wf HW.out.1 HW.out.2) (HB5.trans hbW).size
          exact ⟨t, rfl, hr, hn, hb⟩))
      (fun hq he => by
        rw [HC.out.2.2.1]
        show (faC c hold).Id = c.Id
        rw [(fa_is HW.out.1 HW.out.2 HC.out.2.2.2).1]))
    have HRES := hid (show oneE l c.Id (fun c => wtE c hold) = 0 ∧ oneL l c.Id (fun c => wtE c hold) (fun c => faC c hold) = enL l hold false from by
      have e : oneE l c.Id (fun c => wtE c hold) = 0 := by
        unfold oneE
        rw [if_neg (by rw [HC.out.2.1]; simp), HC.out.2.2.1]
        exact HC.out.2.2.2
      refine ⟨e, ?_⟩
      unfold oneL enL
      rw [if_pos e, if_pos HQ.out, HXV.out]
      rfl)
    clear hQ1 hQ2 hQ3 hb5
    go_wp2_with fail
    with_reducible refine HX.out.mono ?_
    rw [HRES.out.1, HRES.out.2]
    rintro e w6 ⟨v, rfl, ho, hn, hb6⟩
    have hn6 := hn HC.out.2.1
    have y6 := one_cell hn6
    have HO := hid ho
    have HB6 := hid (HB5.trans hb6)
    clear hn hn6 ho hb6 HB5
    go_wp2_with fail
    go_quiet (fail)
    go_wp2
    go_ret3
    exact ⟨_, by rw [HEN.out, HQ.out]; rfl, by first | exact HO.out.drewN _ | exact HO.out.keep (bel_drewN (Below.refl _ _) _), bel_drewN HB6.out _⟩
  · skip
    have hb5 : Below w1.heap.size w1 ((w1.alloc (Obj.cells #[.func (.func 58) #[] #[]] 74)).alloc (Obj.cells #[.int .u64 0] 23)) := bel_alloc (bel_alloc (Below.refl _ _) _) _
    have hQ1 : ((w1.alloc (Obj.cells #[.func (.func 58) #[] #[]] 74)).alloc (Obj.cells #[.int .u64 0] 23)).heap[w1.heap.size]? = some (.cells #[.func (.func 58) #[] #[]] 74 (0, 0)) := heap_alloc2_old _ _ _
    have hQ2 : ((w1.alloc (Obj.cells #[.func (.func 58) #[] #[]] 74)).alloc (Obj.cells #[.int .u64 0] 23)).heap[w1.heap.size + 1]? = some (.cells #[.int .u64 0] 23 (0, 0)) := alloc2_new _ _ _
    have hQ3 := one_call hP1 hb5
    go_upto_region 8 with (fail)
    generalize (w1.alloc (Obj.cells #[.func (.func 58) #[] #[]] 74)).alloc (Obj.cells #[.int .u64 0] 23) = W5 at *
    have HB5 := bel_call HB1 hb5
    have HX := hid (change3_any 59 (.pointer (some ⟨w1.heap.size, 0, none⟩)) (.pointer (some ⟨w.heap.size, 0, none⟩)) (.pointer (some ⟨w1.heap.size + 1, 0, none⟩)) (fun args w => enter_any Try.func59 (by kernel_rfl) (by rfl) args w) w.heap.size
      (fun W => W.heap[w1.heap.size]? = some (.cells #[.func (.func 58) #[] #[]] 74 (0, 0)) ∧ W.heap[w.heap.size]? = some (.cells #[.int .u64 hold] 23 (0, 0)) ∧ W.heap[w1.heap.size + 1]? = some (.cells #[.int .u64 0] 23 (0, 0))) (fun W => W.heap[w1.heap.size + 1]? = some (.cells #[.int .u64 (wtN c hold)] 23 (0, 0))) (fun W W' hc hb => ⟨one_call hc.1 hb, one_call hc.2.1 hb, one_call hc.2.2 hb⟩) (fun W W' hc hb => one_call hc hb) (fun c => wtE c hold) (fun c => seC c hold) A n k l c.Id W5 (h.keep fun p hp => HB5.cell hp) HB5.size ⟨hQ1, hQ3, hQ2⟩
      (fun hq s W hbW hc r => by
        rw [HC.out.2.2.1] at r ⊢
        exact (endS1_any s c hold 0 w1.heap.size w.heap.size (w1.heap.size + 1) w.heap.size W (lay_Channel.wide r fun b hb => Nat.lt_of_lt_of_le hb (HB5.trans hbW).size) (Nat.le_trans HB1.size (Nat.le_succ _)) (HB5.trans hbW).size hc.1 hc.2.1 hc.2.2).mono (by
          rintro e w' ⟨v, rfl, ho, hn, hb⟩
          obtain ⟨t, rfl, hr⟩ := ho.rep (B := w.heap.size) (se_wf HW.out.1 HW.out.2) (HB5.trans hbW).size
          exact ⟨t, rfl, hr, hn, hb⟩))
      (fun hq he => by
        rw [HC.out.2.2.1]
        show (seC c hold).Id = c.Id
        rw [(se_is HW.out.1 HW.out.2 HC.out.2.2.2).1]))
    have HRES := hid (show oneE l c.Id (fun c => wtE c hold) = 0 ∧ oneL l c.Id (fun c => wtE c hold) (fun c => seC c hold) = enL l hold true from by
      have e : oneE l c.Id (fun c => wtE c hold) = 0 := by
        unfold oneE
        rw [if_neg (by rw [HC.out.2.1]; simp), HC.out.2.2.1]
        exact HC.out.2.2.2
      refine ⟨e, ?_⟩
      unfold oneL enL
      rw [if_pos e, if_pos HQ.out, HXV.out]
      rfl)
    clear hQ1 hQ2 hQ3 hb5
    go_wp2_with fail
    with_reducible refine HX.out.mono ?_
    rw [HRES.out.1, HRES.out.2]
    rintro e w6 ⟨v, rfl, ho, hn, hb6⟩
    have hn6 := hn HC.out.2.1
    have y6 := one_cell hn6
    have HO := hid ho
    have HB6 := hid (HB5.trans hb6)
    clear hn hn6 ho hb6 HB5
    go_wp2_with fail
    go_quiet (fail)
    go_wp2
    go_ret3
    exact ⟨_, by rw [HEN.out, HQ.out]; rfl, by first | exact HO.out.drewN _ | exact HO.out.keep (bel_drewN (Below.refl _ _) _), bel_drewN HB6.out _⟩
end Go.Proofs.Ytanlpcndbfmkiaa
namespace Go.Proofs.Ytanlpcndbfmkiaa
open Go.RowKit Go.WalkArith

/-- What holding leaves, where it may be that another channel has that hold. -/
noncomputable def hdC (l : List Chn) (hold m : Int) (c : Chn) : Chn := if (whereF l hold).isSome = true then zeroCh else hoC c hold m
theorem hold_two {l : List Chn} {c : Chn} {hold m : Int} (g : LgOk l) : (whE l hold = 0 ∧ lhE l hold m c = 6 ∧ (hdC l hold m c) = zeroCh) ∨ (whE l hold = 5 ∧ lhE l hold m c = hoE c hold m ∧ (hdC l hold m c) = hoC c hold m) := by
  unfold whE lhE hdC
  rw [if_pos g]
  cases hf : whereF l hold with
  | some y => exact .inl ⟨rfl, if_pos rfl, if_pos rfl⟩
  | none => exact .inr ⟨rfl, if_neg (by simp), if_neg (by simp)⟩

set_option maxRecDepth 100000 in
set_option maxHeartbeats 400000 in
theorem hold1_any (s : Array Value) (c : Chn) (hold m : Int) (Al : Option Addr) (nl kl : Nat) (l : List Chn) (pl ph pn : Nat) (w : World) (r : lay_Channel.rep w (· < w.heap.size) c s.toList) (hl : Sl lay_Channel w (· < w.heap.size) Al nl kl l) (hh : (Lit.int .u64 hold).wf = true) (hm : (Lit.int .u64 m).wf = true) (g : LgOk l)
    (hpl : w.heap[pl]? = some (.cells #[.slice Al nl kl] 22 (0, 0))) (hph : w.heap[ph]? = some (.cells #[.int .u64 hold] 23 (0, 0))) (hpn : w.heap[pn]? = some (.cells #[.int .u64 m] 23 (0, 0))) :
    Calls Try.prog 53 #[.agg s, .pointer (some ⟨pl, 0, none⟩), .pointer (some ⟨ph, 0, none⟩), .pointer (some ⟨pn, 0, none⟩)] w fun e w' => ∃ v, e = .returned (.tuple #[v, .int .i64 (lhE l hold m c)]) ∧ OwnC w' w.heap.size v (hdC l hold m c) ∧ Below w.heap.size w w' := by
  obtain ⟨A, n, k, rfl, hw, hs⟩ := agg_Channel r
  have HWL := hid (And.intro hw (sl_hlds hs))
  have hb0 : Below w.heap.size w ((w.alloc (Obj.cells #[.int .u64 c.Id, .int .u64 c.Local, .int .u64 c.Remote, .int .u64 c.Reserve, .int .u64 c.Most, .slice A n k, .bool c.Open] 26)).alloc (Obj.cells #[.int .u64 0, .int .u64 0, .int .u64 0, .int .u64 0, .int .u64 0, .slice none 0 0, .bool false] 26)) := bel_alloc (bel_alloc (Below.refl _ _) _) _
  have BC : BoxC ((w.alloc (Obj.cells #[.int .u64 c.Id, .int .u64 c.Local, .int .u64 c.Remote, .int .u64 c.Reserve, .int .u64 c.Most, .slice A n k, .bool c.Open] 26)).alloc (Obj.cells #[.int .u64 0, .int .u64 0, .int .u64 0, .int .u64 0, .int .u64 0, .slice none 0 0, .bool false] 26)) w.heap.size c A n k := heap_alloc2_old _ _ _
  have BR : BoxC ((w.alloc (Obj.cells #[.int .u64 c.Id, .int .u64 c.Local, .int .u64 c.Remote, .int .u64 c.Reserve, .int .u64 c.Most, .slice A n k, .bool c.Open] 26)).alloc (Obj.cells #[.int .u64 0, .int .u64 0, .int .u64 0, .int .u64 0, .int .u64 0, .slice none 0 0, .bool false] 26)) (w.heap.size + 1) zeroCh none 0 0 := alloc2_new _ _ _
  have HZ := hid (show ((w.alloc (Obj.cells #[.int .u64 c.Id, .int .u64 c.Local, .int .u64 c.Remote, .int .u64 c.Reserve, .int .u64 c.Most, .slice A n k, .bool c.Open] 26)).alloc (Obj.cells #[.int .u64 0, .int .u64 0, .int .u64 0, .int .u64 0, .int .u64 0, .slice none 0 0, .bool false] 26)).heap.size = w.heap.size + 2 from by simp)
  have S0 := Sl.call hs hb0
  clear r hs
  have c1 := one_call hpl hb0
  have c2 := one_call hph hb0
  have c3 := one_call hpn hb0
  have SL0 := Sl.call hl hb0
  go_enter Try.func53, Try.ntmps53
  go_upto_region 1 with (fail)
  generalize (w.alloc (Obj.cells #[.int .u64 c.Id, .int .u64 c.Local, .int .u64 c.Remote, .int .u64 c.Reserve, .int .u64 c.Most, .slice A n k, .bool c.Open] 26)).alloc (Obj.cells #[.int .u64 0, .int .u64 0, .int .u64 0, .int .u64 0, .int .u64 0, .slice none 0 0, .bool false] 26) = W0 at *
  have p1 := one_cell c1
  have p2 := one_cell c2
  go_wp2_with fail
  with_reducible refine (lWhere_any Al nl kl l hold W0 SL0 hh).mono ?_
  rintro e w1 ⟨rfl, hb1⟩
  replace BR := BR.call hb1
  replace BC := BC.call hb1
  have HB1 := bel_call hb0 hb1
  have S1 := Sl.call S0 hb1
  have k2 := one_cell (one_call c2 hb1)
  have k3 := one_cell (one_call c3 hb1)
  have hz1 := hb1.size
  rw [HZ.out] at hz1
  clear p1 p2 c1 c2 c3 hb1
  have HG := hid g
  clear g hl hpl hph hpn SL0 S0
  obtain ⟨wv, hwv⟩ : ∃ z, whE l hold = z := ⟨_, rfl⟩
  obtain ⟨xv, hxv⟩ : ∃ z, whV l hold = z := ⟨_, rfl⟩
  rw [hwv, hxv]
  clear hxv
  rcases hold_two (l := l) (c := c) (hold := hold) (m := m) HG.out with ⟨e1, e2, e3⟩ | ⟨e1, e2, e3⟩
  · have HE2 := hid (And.intro e2 e3)
    obtain rfl : wv = 0 := by rw [← hwv, e1]
    clear e1 e2 e3 hwv
    have B9 := hid (BR.set zeroCh none 0 0)
    have HB9 := hid (Below.setBox HB1 (g := w.heap.size + 1) (Nat.le_succ _) zeroCh none 0 0)
    obtain ⟨z0, z1, z2, z3, z4, z5, z6⟩ := BR.all
    have f0 := BR.f 0
    have f1 := BR.f 1
    have f2 := BR.f 2
    have f3 := BR.f 3
    have f4 := BR.f 4
    have f5 := BR.f 5
    have f6 := BR.f 6
    clear BR BC HB1 S1 k2 k3 hz1
    go_wp2
    refine bodyPost_ret_by (results_ct rfl _ _ (w.heap.size + 1) 0 rfl [.int .u64 0, .int .u64 0, .int .u64 0, .int .u64 0, .int .u64 0, .slice none 0 0, .bool false] _ (range7 B9.out) Try.underlying26 rfl (by kernel_rfl)) rfl ?_
    exact ⟨_, by rw [HE2.out.1]; rfl, by rw [HE2.out.2]; exact ⟨_, rfl, OwnL.nil _ _ _ _ _⟩, HB9.out⟩
  · have HE2 := hid (And.intro e2 e3)
    obtain rfl : wv = 5 := by rw [← hwv, e1]
    clear e1 e2 e3 hwv
    obtain ⟨p0, p1, p2, p3, p4, p5, p6⟩ := BC.all
    go_wp2_with fail
    with_reducible refine (cHold_any _ c hold m w1 (chan_in hw S1 (Below.refl _ _)) hh hm).mono ?_
    rintro e w2 ⟨v2, rfl, ⟨u, rfl, ho⟩, hb2⟩
    obtain ⟨Au, nu, cu, rfl, hsu⟩ := ho.read
    replace BR := BR.call hb2
    have HB2 := bel_call HB1 hb2
    have B9 := hid (BR.set (hoC c hold m) Au nu cu)
    have HB9 := hid (Below.setBox HB2 (g := w.heap.size + 1) (Nat.le_succ _) (hoC c hold m) Au nu cu)
    have HO9 := hid ((OwnL.setBox ho (g := w.heap.size + 1) (by omega) (hoC c hold m) Au nu cu).lows (base' := w.heap.size) (lo' := w.heap.size) (by omega) (by omega))
    obtain ⟨z0, z1, z2, z3, z4, z5, z6⟩ := BR.all
    have f0 := BR.f 0
    have f1 := BR.f 1
    have f2 := BR.f 2
    have f3 := BR.f 3
    have f4 := BR.f 4
    have f5 := BR.f 5
    have f6 := BR.f 6
    clear p0 p1 p2 p3 p4 p5 p6 hsu
    go_wp2
    refine bodyPost_ret_by (results_ct rfl _ _ (w.heap.size + 1) 0 rfl [.int .u64 (hoC c hold m).Id, .int .u64 (hoC c hold m).Local, .int .u64 (hoC c hold m).Remote, .int .u64 (hoC c hold m).Reserve, .int .u64 (hoC c hold m).Most, .slice Au nu cu, .bool (hoC c hold m).Open] _ (range7 B9.out) Try.underlying26 rfl (by kernel_rfl)) rfl ?_
    exact ⟨_, by rw [HE2.out.1]; rfl, by rw [HE2.out.2]; exact ⟨_, rfl, HO9.out⟩, HB9.out⟩

set_option maxRecDepth 100000 in
set_option maxHeartbeats 4000000 in
theorem lHold_any (A : Option Addr) (n k : Nat) (l : List Chn) (id hold m : Int) (w : World) (h : Sl lay_Channel w (· < w.heap.size) A n k l) (hh : (Lit.int .u64 hold).wf = true) (hm : (Lit.int .u64 m).wf = true) :
    Calls Try.prog 18 #[.slice A n k, .int .u64 id, .int .u64 hold, .int .u64 m] w fun e w' => ∃ v, e = .returned (.tuple #[v, .int .i64 (lhoE l id hold m)]) ∧ OwnL lay_Channel w' w.heap.size (some w.heap.size) 26 v (lhoL l id hold m) ∧ Below w.heap.size w w' := by
  have HWL := hid (sl_chns h)
  have hb0 : Below w.heap.size w (((w.alloc (Obj.cells #[.slice A n k] 22)).alloc (Obj.cells #[.int .u64 hold] 23)).alloc (Obj.cells #[.int .u64 m] 23)) := bel_alloc (bel_alloc (bel_alloc (Below.refl _ _) _) _) _
  have hP1 : (((w.alloc (Obj.cells #[.slice A n k] 22)).alloc (Obj.cells #[.int .u64 hold] 23)).alloc (Obj.cells #[.int .u64 m] 23)).heap[w.heap.size]? = some (.cells #[.slice A n k] 22 (0, 0)) := (heap_alloc_old _ _ (by simp <;> omega)).trans (heap_alloc2_old _ _ _)
  have hP2 : (((w.alloc (Obj.cells #[.slice A n k] 22)).alloc (Obj.cells #[.int .u64 hold] 23)).alloc (Obj.cells #[.int .u64 m] 23)).heap[w.heap.size + 1]? = some (.cells #[.int .u64 hold] 23 (0, 0)) := (heap_alloc_old _ _ (by simp)).trans (heap_alloc2_new _ _ _)
  have hP3 : (((w.alloc (Obj.cells #[.slice A n k] 22)).alloc (Obj.cells #[.int .u64 hold] 23)).alloc (Obj.cells #[.int .u64 m] 23)).heap[w.heap.size + 1 + 1]? = some (.cells #[.int .u64 m] 23 (0, 0)) := by
    have := heap_alloc2_new (w.alloc (Obj.cells #[.slice A n k] 22)) (Obj.cells #[.int .u64 hold] 23) (Obj.cells #[.int .u64 m] 23)
    simpa using this
  go_enter Try.func18, Try.ntmps18
  go_upto_region 1 with (fail)
  generalize ((w.alloc (Obj.cells #[.slice A n k] 22)).alloc (Obj.cells #[.int .u64 hold] 23)).alloc (Obj.cells #[.int .u64 m] 23) = W0 at *
  have HX := hid (change3_any 53 (.pointer (some ⟨w.heap.size, 0, none⟩)) (.pointer (some ⟨w.heap.size + 1, 0, none⟩)) (.pointer (some ⟨w.heap.size + 1 + 1, 0, none⟩)) (fun args w => enter_any Try.func53 (by kernel_rfl) (by rfl) args w) w.heap.size
    (fun W => W.heap[w.heap.size]? = some (.cells #[.slice A n k] 22 (0, 0)) ∧ W.heap[w.heap.size + 1]? = some (.cells #[.int .u64 hold] 23 (0, 0)) ∧ W.heap[w.heap.size + 1 + 1]? = some (.cells #[.int .u64 m] 23 (0, 0))) (fun _ => True) (fun W W' hc hb => ⟨one_call hc.1 hb, one_call hc.2.1 hb, one_call hc.2.2 hb⟩) (fun _ _ _ _ => trivial) (lhE l hold m) (hdC l hold m) A n k l id W0 (h.keep fun p hp => hb0.cell hp) hb0.size ⟨hP1, hP2, hP3⟩
    (fun hq s W hbW hc r => (hold1_any s (gtC l id) hold m A n k l w.heap.size (w.heap.size + 1) (w.heap.size + 1 + 1) W (lay_Channel.wide r fun b hb => Nat.lt_of_lt_of_le hb (Nat.le_trans hb0.size hbW.size)) ((h.keep fun p hp => (hb0.trans hbW).cell hp).wide fun b hb => Nat.lt_of_lt_of_le hb (hb0.trans hbW).size) hh hm (gt_is hq).1 hc.1 hc.2.1 hc.2.2).mono (by
      rintro e w' ⟨v, rfl, ho, hb⟩
      have hgw := gt_wfL HWL.out hq
      obtain ⟨t, rfl, hr⟩ := ho.rep (B := w.heap.size) (by
        unfold hdC
        by_cases q : (whereF l hold).isSome = true
        · rw [if_pos q]; exact zero_wf
        · rw [if_neg q]; exact ho_wf hgw.1 (bounds_u64 hm).1) (hb0.trans hbW).size
      exact ⟨t, rfl, hr, trivial, hb.mono (hb0.trans hbW).size⟩))
    (fun hq he => by
      by_cases q : (whereF l hold).isSome = true
      · have : lhE l hold m (gtC l id) = 6 := if_pos q
        rw [this] at he; cases he
      · have e : lhE l hold m (gtC l id) = hoE (gtC l id) hold m := if_neg q
        rw [e] at he
        show (hdC l hold m (gtC l id)).Id = id
        unfold hdC
        rw [if_neg q, (ho_is he).2.2.2.2.2.2.2.2.2]
        exact (gt_is hq).2.2.2.1))
  have HDD := hid (one_d (l := l) (id := id) (e := lhE l hold m) (d := hdC l hold m) (d2 := fun c => hoC c hold m) (fun he => by
    by_cases q : (whereF l hold).isSome = true
    · have : lhE l hold m (gtC l id) = 6 := if_pos q
      rw [this] at he; cases he
    · exact if_neg q))
  have y1 := one_cell hP1
  have f1 := one_free hP1
  clear hP1 hP2 hP3
  go_wp2_with fail
  with_reducible refine HX.out.mono ?_
  rintro e w1 ⟨v, rfl, ho, -, hb⟩
  rw [HDD.out] at ho
  have HO := hid ho
  have HB := hid (hb0.trans hb)
  clear ho
  go_wp2
  go_ret2
  exact ⟨_, rfl, HO.out, HB.out⟩

end Go.Proofs.Ytanlpcndbfmkiaa
namespace Go.Proofs.Ytanlpcndbfmkiaa
open Go.RowKit Go.WalkArith

theorem run_copyS {P : Program} (w : World) (dT sT ty elem : TypeId) (size g o dLen dCap : Nat) (a : Addr) (sLen sCap : Nat) (cur : Array Value) (t : TypeId) (cs : List Value)
    (hu : P.underlying dT = some (.slice elem)) (hs : (P.info? elem).map (·.size) = some size)
    (hg : w.heap[g]? = some (.cells cur t (0, 0))) (hn : cs.length = Nat.min sLen dLen * size)
    (hsrc : ∀ j v, cs[j]? = some v → w.cell? (a.add j) = some v) (hfit : o + cs.length ≤ cur.size) (h1 : ∀ v ∈ cs, v.oneCell' = true) :
    (Builtin.copy_ #[dT, sT] ty #[.slice (some ⟨g, o, none⟩) dLen dCap, .slice (some a) sLen sCap]).run P w =
      .ok (goInt (Nat.min sLen dLen)) (w.setRow g (cur.toList.take o ++ cs ++ cur.toList.drop (o + cs.length)).toArray) := by
  have hl := run_loadCells_list (P := P) w a cs hsrc
  rw [hn] at hl
  have hst := run_storeCells_at P g o t cs 0 cur w hg (by simpa using hfit) h1
  cases hq : P.info? elem with
  | none => simp [hq] at hs
  | some i =>
    have hi : i.size = size := by simpa [hq] using hs
    simp [Builtin.copy_, run_underlying hu, Builtin.lenOf, Builtin.firstCells, sizeOf, typeInfo, hq, hi, hl, hst]

/-- 'copy(d, s)' for the walk, where its run is known by an equation. -/
theorem wpList_copyS {P : Program} {w : World} {ops : Array Oper} {rest : List Oper} {o : Oper} {a : Act} {Q : Exit → Act → World → Prop} (hgd : o.guard = none) (d s : Operand) (t t' : TypeId)
    (ho : o.op = .call { callee := .builtin .copy, args := #[d, s], argTypes := #[t, t'] }) (v u : Value) (hd : a.eval d = v) (hs : a.eval s = u) {v' : Value} {w' : World}
    (hr : ∀ ty, (Builtin.copy_ #[t, t'] ty #[v, u]).run P w = .ok v' w') (h : wpList P ops Q rest (a.put o.dst v') w') : wpList P ops Q (o :: rest) a w := by
  refine wpList_plain hgd fun K hK => ?_
  unfold Oper.wp execOp
  simp only [ho, resolve, invoke, builtin, Sem.run_bind, Sem.run_pure, Result.andThen_ok, List.map_toArray, List.map_cons, List.map_nil, hd, hs, hr]
  exact hK _ _ h
theorem step_copyS {P : Program} {ops : Array Oper} {o : Oper} {a : Act} {w : World} {K : Act → World → Prop} {Q : Exit → Act → World → Prop} {E : Prop}
    (hg : o.guard = none) (d x : Operand) (dT sT : TypeId) (hop : o.op = Op.call { callee := Callee.builtin Builtin.copy, args := #[d, x], argTypes := #[dT, sT] })
    (v u : Value) (hd : a.eval d = v) (hx : a.eval x = u) {v' : Value} {w' : World} (hr : ∀ ty, (Builtin.copy_ #[dT, sT] ty #[v, u]).run P w = .ok v' w') (hK : K (a.put o.dst v') w') :
    if Region.wanted o (yielded ops a.tmps) = true then Oper.wp P o a w K Q else E := by
  have hw : Region.wanted o (yielded ops a.tmps) = true := by simp [Region.wanted, hg]
  rw [if_pos hw]
  unfold Oper.wp
  simp [execOp, hop, resolve, invoke, builtin, hd, hx, hr, Result.andThen]
  exact hK

/-- What lies in a row of one's own behind two copies: all from place i on, one further; then x, at place i. -/
def shiftS (size i : Nat) (cur cs : List Value) : List Value := cur.take ((i + 1) * size) ++ cs.drop (i * size) ++ cur.drop ((i + 1) * size + (cs.drop (i * size)).length)
def putS (size i : Nat) (cur cx : List Value) : List Value := cur.take (i * size) ++ cx ++ cur.drop (i * size + cx.length)
theorem shift_len {size i n m : Nat} {cur cs : List Value} (hc : cs.length = n * size) (hi : i ≤ n) (hm : cur.length = m * size) (hn : n < m) : (shiftS size i cur cs).length = m * size := by
  have h1 : (n + 1) * size ≤ m * size := Nat.mul_le_mul_right _ hn
  have h2 : i * size ≤ n * size := Nat.mul_le_mul_right _ hi
  rw [Nat.add_mul] at h1
  unfold shiftS
  simp only [List.length_append, List.length_take, List.length_drop, hc, hm, Nat.add_mul]
  omega
/-- The cells behind both. -/
theorem put_shift {size i n m : Nat} {cur cs cx : List Value} (hc : cs.length = n * size) (hx : cx.length = size) (hi : i ≤ n) (hm : cur.length = m * size) (hn : n < m) (ht : cur.take (i * size) = cs.take (i * size)) :
    (putS size i (shiftS size i cur cs) cx).length = m * size ∧ (putS size i (shiftS size i cur cs) cx).take ((n + 1) * size) = cs.take (i * size) ++ cx ++ cs.drop (i * size) := by
  have h1 : (n + 1) * size ≤ m * size := Nat.mul_le_mul_right _ hn
  have h2 : i * size ≤ n * size := Nat.mul_le_mul_right _ hi
  have hl := shift_len hc hi hm hn
  rw [Nat.add_mul] at h1
  have e1 : (shiftS size i cur cs).take (i * size) = cs.take (i * size) := by
    rw [← ht]
    unfold shiftS
    rw [List.append_assoc, List.take_append_of_le_length (by rw [List.length_take, hm, Nat.add_mul]; omega), List.take_take, Nat.min_eq_left (by rw [Nat.add_mul]; omega)]
  have e2 : (shiftS size i cur cs).drop (i * size + cx.length) = cs.drop (i * size) ++ cur.drop ((i + 1) * size + (cs.drop (i * size)).length) := by
    unfold shiftS
    rw [List.append_assoc, List.drop_append, List.drop_of_length_le (by rw [List.length_take, hx, hm, Nat.add_mul]; omega), List.nil_append]
    rw [List.length_take, hm, hx, show i * size + size - min ((i + 1) * size) (m * size) = 0 from by rw [Nat.add_mul]; omega, List.drop_zero]
  unfold putS
  rw [e1, e2]
  constructor
  · simp only [List.length_append, List.length_take, List.length_drop, hc, hm, hx, Nat.add_mul]
    omega
  · rw [← List.append_assoc, List.take_append_of_le_length (by simp only [List.length_append, List.length_take, List.length_drop, hc, hx, Nat.add_mul]; omega), List.take_of_length_le (by simp only [List.length_append, List.length_take, List.length_drop, hc, hx, Nat.add_mul]; omega)]

section
variable {α : Type} {L : Lay α} {base : Nat} {lo : Option Nat} {e : TypeId} {g n cap : Nat} {xs : List α} {x : α}
/-- A row into which x has been put at place i. -/
theorem rows_put {w : World} {S : Nat → Prop} {cs cx : List Value} (h : RepRow L w S xs cs) (hx : L.rep w S x cx) (i : Nat) : RepRow L w S (xs.take i ++ [x] ++ xs.drop i) (cs.take (i * L.size) ++ cx ++ cs.drop (i * L.size)) :=
  ((h.take i).append (RepRow.single hx)).append (h.drop i)
end
end Go.Proofs.Ytanlpcndbfmkiaa
namespace Go.Proofs.Ytanlpcndbfmkiaa
open Go.RowKit Go.WalkArith

theorem Try.infoChI : (Try.prog.info? 26).map (fun i => (i.zero, i.size, i.bytes)) = some (some (.agg #[.int .u64 0, .int .u64 0, .int .u64 0, .int .u64 0, .int .u64 0, .slice none 0 0, .bool false]), lay_Channel.size, 72) := by kernel_rfl
theorem Try.elemChI : Try.prog.elem 22 = 26 := by kernel_rfl
theorem sizeC7 : (Try.prog.info? 26).map (·.size) = some 7 := by
  obtain ⟨i, hi, hz0, hz1, hz2⟩ := info_parts Try.infoChI
  rw [hi]
  simp [hz1, size_lay_Channel]
theorem sizeOfC (w : World) : (Go.sizeOf 26).run Try.prog w = .ok 7 w := by
  obtain ⟨i, hi, -, hz1, -⟩ := info_parts Try.infoChI
  simp [sizeOf, typeInfo, hi, hz1, size_lay_Channel]
theorem fromC (A : Addr) (n cap i : Nat) (hi : i ≤ n) (hc : cap ≠ i) (W : World) : (Instr.slice 22 (.slice (some A) n cap) (some (.int .i64 (i : Int))) none none).run Try.prog W = .ok (.slice (some (A.add (i * 7))) (n - i) (cap - i)) W := by
  have h := run_fromL (P := Try.prog) 22 26 .i64 Try.underlying22 Try.elemChI Try.infoChI (some A) n cap i hi W
  rw [cutS, if_neg hc] at h
  exact h

/-- What an owned row of channels is made of. -/
theorem own_parts {g n cap base : Nat} {l : List Chn} {w : World} (ho : OwnL lay_Channel w base (some base) 26 (.slice (some ⟨g, 0, none⟩) n cap) l) :
    l.length = n ∧ ∃ (cs : List Value) (cur : Array Value), cs.length = n * 7 ∧ RepRow lay_Channel w (Els w (some base) (.slice (some ⟨g, 0, none⟩) n cap)) l cs ∧ base ≤ g ∧ w.heap[g]? = some (.cells cur 26 (0, 0)) ∧ n ≤ cap ∧ cap ≤ maxLen ∧ cur.size = cap * 7 ∧ cur.toList.take (n * 7) = cs := by
  have hn := ho.num
  obtain ⟨cs, h1, h2⟩ := ho
  rw [hn] at h1
  refine ⟨hn, cs, ?_⟩
  rcases h1.2 with ⟨h', _⟩ | ⟨g', cap', cur, h', hbg, hg, hnc, hcm, hcs, ht⟩
  · simp at h'
  · simp only [Value.slice.injEq, Option.some.injEq, Addr.mk.injEq, and_true, true_and] at h'
    obtain ⟨rfl, rfl⟩ := h'
    exact ⟨cur, h1.1, h2, hbg, hg, hnc, hcm, hcs, ht⟩

/-- A row put together of cells that lie in a block of one's own. -/
theorem own_made {g n cap base : Nat} {l : List Chn} {x : Chn} {i : Nat} {w W : World} {v : Value} {cs cx row : List Value} (h2 : RepRow lay_Channel w (Els w (some base) v) l cs) (hr : lay_Channel.rep w (Els w (some base) v) x cx) (hl : l.length = n) (hi : i ≤ n)
    (hbg : base ≤ g) (hg : W.heap[g]? = some (.cells row.toArray 26 (0, 0))) (hnc : n + 1 ≤ cap) (hcm : cap ≤ maxLen) (hrow : row.length = cap * 7) (ht : row.take ((n + 1) * 7) = cs.take (i * 7) ++ cx ++ cs.drop (i * 7))
    (hk : ∀ b, Els w (some base) v b → W.heap[b]? = w.heap[b]? ∧ b < W.heap.size ∧ b ≠ g) : OwnL lay_Channel W base (some base) 26 (.slice (some ⟨g, 0, none⟩) (n + 1) cap) (l.take i ++ [x] ++ l.drop i) := by
  have hlen : (l.take i ++ [x] ++ l.drop i).length = n + 1 := by simp; omega
  have hrows := rows_put h2 hr i
  have hcl := hrows.len
  refine ⟨cs.take (i * 7) ++ cx ++ cs.drop (i * 7), ?_, ?_⟩
  · rw [hlen]
    rw [hlen] at hcl
    exact ⟨hcl, .inr ⟨g, cap, row.toArray, rfl, hbg, hg, hnc, hcm, by simpa [size_lay_Channel] using hrow, by simpa [size_lay_Channel] using ht⟩⟩
  · exact (hrows.keep fun p hp => World.cell?_of_block (hk p.block hp).1).wide fun b hb => ⟨hb.1.of_block (hk b hb).1, (hk b hb).2.1, fun e => (hk b hb).2.2 (by simpa [Value.ownBlock, eq_comm] using e)⟩

set_option maxRecDepth 100000 in
set_option maxHeartbeats 4000000 in
/-- There is room. -/
theorem insIn_any (g n cap i vb base : Nat) (l : List Chn) (x : Chn) (cx : Array Value) (w : World) (ho : OwnL lay_Channel w base (some base) 26 (.slice (some ⟨g, 0, none⟩) n cap) l) (hi : i < n) (hc : n + 1 ≤ cap) (hn : n ≤ 32)
    (hx : w.heap[vb]? = some (.cells cx 26 (0, 0))) (hr : lay_Channel.rep w (Els w (some base) (.slice (some ⟨g, 0, none⟩) n cap)) x cx.toList) (hne : vb ≠ g) :
    Calls Try.prog 38 #[.slice (some ⟨g, 0, none⟩) n cap, .int .i64 i, .slice (some ⟨vb, 0, none⟩) 1 1] w fun e w' => ∃ v', e = .returned v' ∧ OwnL lay_Channel w' base (some base) 26 v' (l.take i ++ [x] ++ l.drop i) ∧ Below base w w' := by
  obtain ⟨hl, cs, cur, hcl, h2, hbg, hg, hnc, hcm, hcs, ht⟩ := own_parts ho
  have hcx := lay_Channel.len hr
  rw [size_lay_Channel] at hcx
  have hcap := hcm
  unfold maxLen at hcap
  have hle := Nat.mul_le_mul_right 7 hc
  have hi7 := Nat.mul_le_mul_right 7 (Nat.le_of_lt hi)
  have hd7 : (cs.drop (i * 7)).length = (n - i) * 7 := by rw [List.length_drop, hcl, Nat.sub_mul]
  have hgc : ∀ (W : World), W.heap[g]? = w.heap[g]? → ∀ j v, cs[j]? = some v → W.cell? ⟨g, j, none⟩ = some v := fun W hW j v hj => by
    have hjl := (List.getElem?_eq_some_iff.1 hj).1
    rw [World.cell?_of_block hW]
    simp only [World.cell?, hg]
    rw [← ht, List.getElem?_take, if_pos (by omega)] at hj
    simpa using hj
  have hv1 : ∀ j v, cx.toList[j]? = some v → w.cell? ⟨vb, j, none⟩ = some v := fun j v hj => by
    simp only [World.cell?, hx]
    simpa using hj
  obtain ⟨W1, hW1⟩ : ∃ W1, W1 = w.drew.setRow g (shiftS 7 i cur.toList cs).toArray := ⟨_, rfl⟩
  obtain ⟨W2, hW2⟩ : ∃ W2, W2 = W1.setRow g (putS 7 i (shiftS 7 i cur.toList cs) cx.toList).toArray := ⟨_, rfl⟩
  have hg1 : W1.heap[g]? = some (.cells (shiftS 7 i cur.toList cs).toArray 26 (0, 0)) := by rw [hW1]; exact setRow_heap _ g _ _ _ _ (show w.drew.heap[g]? = _ from hg)
  have hg2 : W2.heap[g]? = some (.cells (putS 7 i (shiftS 7 i cur.toList cs) cx.toList).toArray 26 (0, 0)) := by rw [hW2]; exact setRow_heap _ g _ _ _ _ hg1
  have hsl := shift_len (size := 7) (i := i) (cur := cur.toList) hcl (by omega) (by rw [Array.length_toList]; exact hcs) (by omega)
  have hcp1 : ∀ ty dc sc, (Builtin.copy_ #[22, 22] ty #[.slice (some ⟨g, (i + 1) * 7, none⟩) (n - i) dc, .slice (some ⟨g, i * 7, none⟩) (n + 1 - i) sc]).run Try.prog w.drew = .ok (goInt (n - i : Nat)) W1 := fun ty dc sc => by
    have h := run_copyS (P := Try.prog) w.drew 22 22 ty 26 7 g ((i + 1) * 7) (n - i) dc ⟨g, i * 7, none⟩ (n + 1 - i) sc cur 26 (cs.drop (i * 7)) Try.underlying22 sizeC7 hg (by rw [hd7]; congr 1; simp only [Nat.min_def]; split <;> omega)
      (fun j v hj => by rw [Addr.add_lit]; rw [List.getElem?_drop] at hj; exact hgc w.drew rfl _ v hj) (by rw [hd7, hcs, ← Nat.add_mul]; exact Nat.mul_le_mul_right 7 (by omega)) (fun v hv => h2.one v (List.mem_of_mem_drop hv))
    rw [show Nat.min (n + 1 - i) (n - i) = n - i from by simp only [Nat.min_def]; split <;> omega] at h
    rw [hW1]
    exact h
  have hcp2 : ∀ ty dc, (Builtin.copy_ #[22, 22] ty #[.slice (some ⟨g, i * 7, none⟩) (n + 1 - i) dc, .slice (some ⟨vb, 0, none⟩) 1 1]).run Try.prog W1 = .ok (goInt (1 : Nat)) W2 := fun ty dc => by
    have h := run_copyS (P := Try.prog) W1 22 22 ty 26 7 g (i * 7) (n + 1 - i) dc ⟨vb, 0, none⟩ 1 1 _ 26 cx.toList Try.underlying22 sizeC7 hg1 (by rw [hcx]; rw [show Nat.min 1 (n + 1 - i) = 1 from by simp only [Nat.min_def]; split <;> omega])
      (fun j v hj => by
        rw [Addr.add_lit, Nat.zero_add, World.cell?_of_block (w := w) (by rw [hW1]; exact setRow_other w.drew g vb _ hne)]
        exact hv1 j v hj) (by simp only [List.size_toArray, hsl, hcx]; omega) (fun v hv => lay_Channel.one hr v hv)
    rw [show Nat.min 1 (n + 1 - i) = 1 from by simp only [Nat.min_def]; split <;> omega] at h
    rw [hW2]
    simpa [putS] using h
  obtain ⟨hp1, hp2⟩ := put_shift (size := 7) hcl hcx (Nat.le_of_lt hi) (by rw [Array.length_toList]; exact hcs) (by omega) (by rw [← ht, List.take_take, Nat.min_eq_left (by omega)])
  have HO := hid (own_made (g := g) (cap := cap) (W := W2) h2 hr hl (Nat.le_of_lt hi) hbg hg2 hc hcm hp1 hp2 fun b hb => by
    have hbn : b ≠ g := fun e => hb.2.2 (by rw [e]; rfl)
    have e1 : W2.heap[b]? = w.heap[b]? := by rw [hW2, setRow_other _ _ _ _ hbn, hW1]; exact setRow_other w.drew _ _ _ hbn
    exact ⟨e1, by rw [hW2, hW1]; simpa [World.setRow] using hb.2.1, hbn⟩)
  have HB := hid (show Below base w W2 from by rw [hW2, hW1]; exact Go.below_setRow (Go.below_setRow (Below.refl base w).drew hbg _) hbg _)
  have hov : ∀ lb cb, (callFunc 72 #[.slice (some ⟨vb, 0, none⟩) 1 1, .slice (some ⟨g, (i + 1) * 7, none⟩) lb cb]).run Try.prog w = .ok (.value (.bool false)) w := fun lb cb => by
    rw [run_callFunc_extern Try.func72 (by kernel_rfl) (by kernel_rfl) (by kernel_rfl) (e := Extern.SlicesOverlaps.overlaps #[22, 22] #[4]) (by kernel_rfl),
      Lib.run_overlaps_apart w 22 4 26 Try.underlying22 7 sizeOfC ⟨vb, 0, none⟩ ⟨g, (i + 1) * 7, none⟩ 1 1 lb cb hne 26 26 cx.size cur.size (by simp [World.shape?, hx]) (by simp [World.shape?, hg]) (by omega) (by simp [World.frozen?, hx]) (by simp [World.frozen?, hx])]
    rfl
  have hct0 := fun W => fromC ⟨g, 0, none⟩ n cap i (Nat.le_of_lt hi) (by omega) W
  have hct1 : ∀ W, (Instr.slice 22 (.slice (some ⟨g, 0, none⟩) (n + 1) cap) (some (.int .i64 ((i : Int) + 1))) none none).run Try.prog W = .ok (.slice (some ⟨g, (i + 1) * 7, none⟩) (n - i) (cap - (i + 1))) W := fun W => by
    have h := fromC ⟨g, 0, none⟩ (n + 1) cap (i + 1) (by omega) (by omega) W
    rw [Addr.add_lit, Nat.zero_add, Nat.add_sub_add_right] at h
    exact h
  have hct2 : ∀ W, (Instr.slice 22 (.slice (some ⟨g, 0, none⟩) (n + 1) cap) (some (.int .i64 (i : Int))) none none).run Try.prog W = .ok (.slice (some ⟨g, i * 7, none⟩) (n + 1 - i) (cap - i)) W := fun W => by
    have h := fromC ⟨g, 0, none⟩ (n + 1) cap i (by omega) (by omega) W
    rw [Addr.add_lit, Nat.zero_add] at h
    exact h
  have hct3 : ∀ W, (Instr.slice 22 (.slice (some ⟨g, 0, none⟩) n cap) none (some (.int .i64 ((n : Int) + 1))) none).run Try.prog W = .ok (.slice (some ⟨g, 0, none⟩) (n + 1) cap) W := fun W => run_uptoL (P := Try.prog) 22 26 .i64 Try.underlying22 Try.elemChI Try.infoChI (some ⟨g, 0, none⟩) n cap (n + 1) hc W
  have wi : IntKind.i64.wrap ((i : Int) + 1) = (i : Int) + 1 := IntWalk.i64_in _ (by omega)
  have wn : IntKind.i64.wrap ((n : Int) + 1) = (n : Int) + 1 := IntWalk.i64_in _ (by omega)
  have d0 : ((i : Int) == (n : Int)) = false := by simp; omega
  have d1 : decide ((cap : Int) < (n : Int) + 1) = false := by simp; omega
  clear hgc hv1 hg1 hg2 hsl hp1 hp2 hd7 hle hi7 h2 hW2 hW1 hr hx hg ht hcs ho
  go_enter Try.func38, Try.ntmps38
  go_wp2_with (simp only [hov])
  go_region_law (refine step_copyS rfl _ _ 22 22 rfl _ _ (by simp [Act.eval, Act.put]) (by simp [Act.eval, Act.put]) (fun ty => hcp1 ty _ _) ?_)
  all_goals
    go_wp2_with (at_builtin; refine wpList_copyS rfl _ _ 22 22 rfl _ _ rfl rfl (fun ty => hcp2 ty _) ?_)
    go_ret
    exact ⟨_, rfl, HO.out, HB.out⟩

/-- The cells behind one put in ahead, then all from place i on, one further. -/
theorem shift_put {size i n m : Nat} {cur cs cx : List Value} (hc : cs.length = n * size) (hx : cx.length = size) (hi : i ≤ n) (hm : cur.length = m * size) (hn : n < m) (ht : cur.take (i * size) = cs.take (i * size)) :
    (putS size i cur cx).length = m * size ∧ (shiftS size i (putS size i cur cx) cs).length = m * size ∧ (shiftS size i (putS size i cur cx) cs).take ((n + 1) * size) = cs.take (i * size) ++ cx ++ cs.drop (i * size) := by
  have h1 : (n + 1) * size ≤ m * size := Nat.mul_le_mul_right _ hn
  have h2 : i * size ≤ n * size := Nat.mul_le_mul_right _ hi
  rw [Nat.add_mul] at h1
  have hl : (putS size i cur cx).length = m * size := by
    unfold putS
    simp only [List.length_append, List.length_take, List.length_drop, hm, hx]
    omega
  have e1 : (putS size i cur cx).take ((i + 1) * size) = cs.take (i * size) ++ cx := by
    unfold putS
    rw [ht, List.take_append_of_le_length (by simp only [List.length_append, List.length_take, hc, hx, Nat.add_mul]; omega), List.take_of_length_le (by simp only [List.length_append, List.length_take, hc, hx, Nat.add_mul]; omega)]
  refine ⟨hl, shift_len hc hi hl hn, ?_⟩
  unfold shiftS
  rw [e1, List.take_append_of_le_length (by simp only [List.length_append, List.length_take, List.length_drop, hc, hx, Nat.add_mul]; omega), List.take_of_length_le (by simp only [List.length_append, List.length_take, List.length_drop, hc, hx, Nat.add_mul]; omega)]

set_option maxRecDepth 100000 in
set_option maxHeartbeats 4000000 in
/-- There is no room. -/
theorem insGrow_any (g n cap i vb base : Nat) (l : List Chn) (x : Chn) (cx : Array Value) (w : World) (ho : OwnL lay_Channel w base (some base) 26 (.slice (some ⟨g, 0, none⟩) n cap) l) (hi : i < n) (hc : cap < n + 1) (hn : n ≤ 32) (hbase : base ≤ w.heap.size)
    (hx : w.heap[vb]? = some (.cells cx 26 (0, 0))) (hr : lay_Channel.rep w (Els w (some base) (.slice (some ⟨g, 0, none⟩) n cap)) x cx.toList) :
    Calls Try.prog 38 #[.slice (some ⟨g, 0, none⟩) n cap, .int .i64 i, .slice (some ⟨vb, 0, none⟩) 1 1] w fun e w' => ∃ v', e = .returned v' ∧ OwnL lay_Channel w' base (some base) 26 v' (l.take i ++ [x] ++ l.drop i) ∧ Below base w w' := by
  obtain ⟨hl, cs, cur, hcl, h2, hbg, hg, hnc, hcm, hcs, ht⟩ := own_parts ho
  obtain rfl : cap = n := by omega
  have hcx := lay_Channel.len hr
  rw [size_lay_Channel] at hcx
  have hi7 := Nat.mul_le_mul_right 7 (Nat.le_of_lt hi)
  have hd7 : (cs.drop (i * 7)).length = (cap - i) * 7 := by rw [List.length_drop, hcl, Nat.sub_mul]
  have hglt : g < w.heap.size := (Array.getElem?_eq_some_iff.1 hg).1
  have hvlt : vb < w.heap.size := (Array.getElem?_eq_some_iff.1 hx).1
  have hgc : ∀ (W : World), W.heap[g]? = w.heap[g]? → ∀ j v, cs[j]? = some v → W.cell? ⟨g, j, none⟩ = some v := fun W hW j v hj => by
    have hjl := (List.getElem?_eq_some_iff.1 hj).1
    rw [World.cell?_of_block hW]
    simp only [World.cell?, hg]
    rw [← ht, List.getElem?_take, if_pos (by omega)] at hj
    simpa using hj
  have hv1 : ∀ j v, cx.toList[j]? = some v → w.cell? ⟨vb, j, none⟩ = some v := fun j v hj => by
    simp only [World.cell?, hx]
    simpa using hj
  obtain ⟨i0, hi0, hz0, hzs, hzb⟩ := info_parts Try.infoChI
  rw [size_lay_Channel] at hzs
  have hik : i + (cap + 1 - i) = cap + 1 := by omega
  have hold : (Builtin.firstCells i0.size i (.slice (some ⟨g, 0, none⟩) i cap)).run Try.prog w.drew = .ok (cs.take (i * 7)).toArray w.drew := by
    rw [hzs]
    exact run_firstCells_some w.drew 7 i ⟨g, 0, none⟩ i cap (cs.take (i * 7)) (by rw [List.length_take]; omega) fun j v hj => by
      rw [Addr.add_lit, Nat.zero_add]
      rw [List.getElem?_take] at hj
      split at hj
      · exact hgc w.drew rfl j v hj
      · cases hj
  obtain ⟨G, hG⟩ : ∃ G, G = grownCap w (cap + 1) cap 26 := ⟨_, rfl⟩
  have hGn : cap + 1 ≤ G := by rw [hG]; exact grownCap_ge w _ _ _
  have hGm : G ≤ maxLen := by rw [hG]; exact grownCap_le_maxLen w _ _ _ (by unfold maxLen; omega)
  obtain ⟨ROW, hROW⟩ : ∃ ROW : Array Value, ROW = (cs.take (i * 7)).toArray ++ Builtin.zeroCells (Value.agg #[.int .u64 0, .int .u64 0, .int .u64 0, .int .u64 0, .int .u64 0, .slice none 0 0, .bool false]).cells (cap + 1 - i) ++ Builtin.zeroCells (Value.agg #[.int .u64 0, .int .u64 0, .int .u64 0, .int .u64 0, .int .u64 0, .slice none 0 0, .bool false]).cells (G - (cap + 1)) := ⟨_, rfl⟩
  obtain ⟨W1, hW1⟩ : ∃ W1, W1 = w.drew.alloc (.cells ROW 26) := ⟨_, rfl⟩
  have hrz : ∀ ty, (Builtin.append_ #[22, 3] ty #[.slice (some ⟨g, 0, none⟩) i cap, .int .i64 ((cap : Int) + 1 - (i : Int))]).run Try.prog w = .ok (.slice (some ⟨w.heap.size, 0, none⟩) (cap + 1) G) W1 := fun ty => by
    have h := Lib.run_append_grow_zeros (P := Try.prog) w 22 3 ty 26 i0 _ .i64 .i64 Try.underlying22 Try.underlying3 hi0 hz0 (some ⟨g, 0, none⟩) i cap (cs.take (i * 7)) hold (cap + 1 - i) (by omega) (by rw [hzs]; omega) (by omega) (by omega) (by rw [hzb]; omega) (by rw [hzb, hik]; exact growslice_fits (by omega) (by omega))
    rw [hik, ← hG, ← hROW, ← hW1] at h
    rw [show (cap : Int) + 1 - (i : Int) = ((cap + 1 - i : Nat) : Int) from by omega]
    exact h
  have hRs : ROW.toList.length = G * 7 := by
    rw [Array.length_toList, hROW]
    simp only [Array.size_append, size_zeroCells, List.size_toArray, List.length_take, hcl]
    rw [show (Value.agg #[.int .u64 0, .int .u64 0, .int .u64 0, .int .u64 0, .int .u64 0, .slice none 0 0, .bool false]).cells.size = 7 from rfl, ← Nat.sub_add_cancel hGn]
    simp only [Nat.add_sub_cancel, Nat.sub_mul, Nat.add_mul]
    omega
  have hRt : ROW.toList.take (i * 7) = cs.take (i * 7) := by
    rw [hROW, Array.toList_append, Array.toList_append, List.append_assoc, List.take_append_of_le_length (by simp; omega)]
    simp only [List.take_take, Nat.min_self]
  obtain ⟨hq1, hq2, hq3⟩ := shift_put (size := 7) hcl hcx (Nat.le_of_lt hi) hRs (by omega) hRt
  have hg1 : W1.heap[w.heap.size]? = some (.cells ROW 26 (0, 0)) := by rw [hW1]; exact heap_alloc_new w.drew _
  have hk1 : ∀ b, b < w.heap.size → W1.heap[b]? = w.heap[b]? := fun b hb => by rw [hW1]; exact heap_alloc_old w.drew _ hb
  obtain ⟨W2, hW2⟩ : ∃ W2, W2 = W1.setRow w.heap.size (putS 7 i ROW.toList cx.toList).toArray := ⟨_, rfl⟩
  obtain ⟨W3, hW3⟩ : ∃ W3, W3 = W2.drew.setRow w.heap.size (shiftS 7 i (putS 7 i ROW.toList cx.toList) cs).toArray := ⟨_, rfl⟩
  have hg2 : W2.heap[w.heap.size]? = some (.cells (putS 7 i ROW.toList cx.toList).toArray 26 (0, 0)) := by rw [hW2]; exact setRow_heap _ _ _ _ _ _ hg1
  have hg3 : W3.heap[w.heap.size]? = some (.cells (shiftS 7 i (putS 7 i ROW.toList cx.toList) cs).toArray 26 (0, 0)) := by rw [hW3]; exact setRow_heap _ _ _ _ _ _ (show W2.drew.heap[w.heap.size]? = _ from hg2)
  have hk2 : ∀ b, b < w.heap.size → W2.heap[b]? = w.heap[b]? := fun b hb => by rw [hW2, setRow_other _ _ _ _ (by omega)]; exact hk1 b hb
  have hcp2 : ∀ ty dc, (Builtin.copy_ #[22, 22] ty #[.slice (some ⟨w.heap.size, i * 7, none⟩) (cap + 1 - i) dc, .slice (some ⟨vb, 0, none⟩) 1 1]).run Try.prog W1 = .ok (goInt (1 : Nat)) W2 := fun ty dc => by
    have h := run_copyS (P := Try.prog) W1 22 22 ty 26 7 w.heap.size (i * 7) (cap + 1 - i) dc ⟨vb, 0, none⟩ 1 1 ROW 26 cx.toList Try.underlying22 sizeC7 hg1 (by rw [hcx]; rw [show Nat.min 1 (cap + 1 - i) = 1 from by simp only [Nat.min_def]; split <;> omega])
      (fun j v hj => by
        rw [Addr.add_lit, Nat.zero_add, World.cell?_of_block (hk1 vb hvlt)]
        exact hv1 j v hj) (by rw [← Array.length_toList, hRs, hcx]; omega) (fun v hv => lay_Channel.one hr v hv)
    rw [show Nat.min 1 (cap + 1 - i) = 1 from by simp only [Nat.min_def]; split <;> omega] at h
    rw [hW2]
    exact h
  have hcp1 : ∀ ty dc sc, (Builtin.copy_ #[22, 22] ty #[.slice (some ⟨w.heap.size, (i + 1) * 7, none⟩) (cap - i) dc, .slice (some ⟨g, i * 7, none⟩) (cap - i) sc]).run Try.prog W2.drew = .ok (goInt (cap - i : Nat)) W3 := fun ty dc sc => by
    have h := run_copyS (P := Try.prog) W2.drew 22 22 ty 26 7 w.heap.size ((i + 1) * 7) (cap - i) dc ⟨g, i * 7, none⟩ (cap - i) sc _ 26 (cs.drop (i * 7)) Try.underlying22 sizeC7 (show W2.drew.heap[w.heap.size]? = _ from hg2) (by rw [hd7]; congr 1; simp only [Nat.min_def]; split <;> omega)
      (fun j v hj => by rw [Addr.add_lit]; rw [List.getElem?_drop] at hj; exact hgc W2.drew (hk2 g hglt) _ v hj) (by rw [List.size_toArray, hq1, hd7, ← Nat.add_mul]; exact Nat.mul_le_mul_right 7 (by omega)) (fun v hv => h2.one v (List.mem_of_mem_drop hv))
    rw [show Nat.min (cap - i) (cap - i) = cap - i from Nat.min_self _] at h
    rw [hW3]
    exact h
  have hs3 : W3.heap.size = w.heap.size + 1 := by rw [hW3, hW2, hW1]; simp [World.setRow]
  have HO := hid (own_made (g := w.heap.size) (cap := G) (W := W3) h2 hr hl (Nat.le_of_lt hi) hbase hg3 hGn hGm hq2 hq3 fun b hb => by
    have hlt := hb.2.1
    exact ⟨by rw [hW3, setRow_other _ _ _ _ (by omega)]; exact hk2 b hlt, by omega, by omega⟩)
  have HB := hid (show Below base w W3 from by rw [hW3, hW2, hW1]; exact below_setRow (below_setRow ((Below.refl base w).drew.alloc hbase _) hbase _).drew hbase _)
  have hct0 := fun W => fromC ⟨g, 0, none⟩ cap cap i (Nat.le_of_lt hi) (by omega) W
  have hct1 : ∀ W, (Instr.slice 22 (.slice (some ⟨w.heap.size, 0, none⟩) (cap + 1) G) (some (.int .i64 ((i : Int) + 1))) none none).run Try.prog W = .ok (.slice (some ⟨w.heap.size, (i + 1) * 7, none⟩) (cap - i) (G - (i + 1))) W := fun W => by
    have h := fromC ⟨w.heap.size, 0, none⟩ (cap + 1) G (i + 1) (by omega) (by omega) W
    rw [Addr.add_lit, Nat.zero_add, Nat.add_sub_add_right] at h
    exact h
  have hct2 : ∀ W, (Instr.slice 22 (.slice (some ⟨w.heap.size, 0, none⟩) (cap + 1) G) (some (.int .i64 (i : Int))) none none).run Try.prog W = .ok (.slice (some ⟨w.heap.size, i * 7, none⟩) (cap + 1 - i) (G - i)) W := fun W => by
    have h := fromC ⟨w.heap.size, 0, none⟩ (cap + 1) G i (by omega) (by omega) W
    rw [Addr.add_lit, Nat.zero_add] at h
    exact h
  have hct4 : ∀ W, (Instr.slice 22 (.slice (some ⟨g, 0, none⟩) cap cap) (some (.int .i64 (i : Int))) none none).run Try.prog W = .ok (.slice (some ⟨g, i * 7, none⟩) (cap - i) (cap - i)) W := fun W => by
    have h := fromC ⟨g, 0, none⟩ cap cap i (by omega) (by omega) W
    rw [Addr.add_lit, Nat.zero_add] at h
    exact h
  have hct3 := fun W => run_uptoL (P := Try.prog) 22 26 .i64 Try.underlying22 Try.elemChI Try.infoChI (some ⟨g, 0, none⟩) cap cap i (Nat.le_of_lt hi) W
  have wi : IntKind.i64.wrap ((i : Int) + 1) = (i : Int) + 1 := IntWalk.i64_in _ (by omega)
  have wn : IntKind.i64.wrap ((cap : Int) + 1) = (cap : Int) + 1 := IntWalk.i64_in _ (by omega)
  have wk : IntKind.i64.wrap ((cap : Int) + 1 - (i : Int)) = (cap : Int) + 1 - (i : Int) := IntWalk.i64_in _ (by omega)
  have d0 : ((i : Int) == (cap : Int)) = false := by simp; omega
  have d1 : decide ((cap : Int) < (cap : Int) + 1) = true := by simp; omega
  clear hct0 hgc hv1 hg1 hg2 hg3 hk1 hk2 hq1 hq2 hq3 hRs hRt hd7 hi7 h2 hW3 hW2 hW1 hROW hr hx hg ht hcs ho hold hs3 hik hGm hG
  have hct0 := hct4
  have b1 : (0 : Int) ≤ (i : Int) + 1 := by omega
  have b2 : i ≤ cap := by omega
  have b3 : ¬ (G = i + 1) := by omega
  have b4 : ¬ (G = i) := by omega
  have b5 : ¬ (cap = i) := by omega
  go_enter Try.func38, Try.ntmps38
  go_wp2_with (first
    | (at_builtin; refine Lib.wpList_append_run _ rfl _ _ _ _ rfl _ _ rfl rfl _ _ (hrz _) ?_)
    | (at_builtin; refine wpList_copyS rfl _ _ 22 22 rfl _ _ rfl rfl (fun ty => hcp2 ty _) ?_))
  go_region_law (refine step_copyS rfl _ _ 22 22 rfl _ _ (by simp [Act.eval, Act.put]) (by simp [Act.eval, Act.put]) (fun ty => hcp1 ty _ _) ?_)
  all_goals
    go_wp2
    go_ret
    exact ⟨_, rfl, HO.out, HB.out⟩

set_option maxRecDepth 100000 in
set_option maxHeartbeats 4000000 in
/-- At the end. -/
theorem insEnd_any (v : Value) (vb base : Nat) (l : List Chn) (x : Chn) (cx : Array Value) (w : World) (ho : OwnL lay_Channel w base (some base) 26 v l) (hn : l.length ≤ 32) (hbase : base ≤ w.heap.size)
    (hx : w.heap[vb]? = some (.cells cx 26 (0, 0))) (hr : lay_Channel.rep w (Els w (some base) v) x cx.toList) :
    Calls Try.prog 38 #[v, .int .i64 (l.length : Nat), .slice (some ⟨vb, 0, none⟩) 1 1] w fun e w' => ∃ v', e = .returned v' ∧ OwnL lay_Channel w' base (some base) 26 v' (l ++ [x]) ∧ Below base w w' := by
  have HO := hid ho
  have HR := hid hr
  have HX : ∀ j u, cx.toList[j]? = some u → w.cell? ((⟨vb, 0, none⟩ : Addr).add j) = some u := fun j u hj => by
    rw [Addr.add_lit, Nat.zero_add]
    simp only [World.cell?, hx]
    simpa using hj
  have HX := hid HX
  obtain ⟨A, n, c, rfl, hs⟩ := ho.read
  obtain rfl : l.length = n := hs.len
  have hcap := hs.cap
  unfold maxLen at hcap
  have hct := fun W => run_fromL (P := Try.prog) 22 26 .i64 Try.underlying22 Try.elemChI Try.infoChI A l.length c l.length (Nat.le_refl _) W
  clear hs ho hr hx
  have HL := hid (show l.length ≤ 32 from hn)
  generalize hm : l.length = m at *
  have HM := hid hm
  clear hm
  go_enter Try.func38, Try.ntmps38
  go_wp2_with (at_builtin; go_must (refine wpList_appL rfl _ _ 22 rfl base (some base) 26 _ 72 Try.underlying22 Try.infoChI rfl (by decide) _ l [x] cx.toList ⟨vb, 0, none⟩ 1 1 rfl rfl HO.out (RepRow.single HR.out) rfl HX.out hbase (by rw [HM.out]; omega) (by rw [HM.out]; unfold maxLen; omega) ?_; intro v' w' ho' hx'))
  go_ret
  exact ⟨_, rfl, ho', HO.out.below hx' hbase⟩

theorem insertC_any (v : Value) (i vb base : Nat) (l : List Chn) (x : Chn) (cx : Array Value) (w : World) (ho : OwnL lay_Channel w base (some base) 26 v l) (hi : i ≤ l.length) (hn : l.length ≤ 32) (hbase : base ≤ w.heap.size)
    (hx : w.heap[vb]? = some (.cells cx 26 (0, 0))) (hr : lay_Channel.rep w (Els w (some base) v) x cx.toList) (hne : v.ownBlock ≠ some vb) :
    Calls Try.prog 38 #[v, .int .i64 i, .slice (some ⟨vb, 0, none⟩) 1 1] w fun e w' => ∃ v', e = .returned v' ∧ OwnL lay_Channel w' base (some base) 26 v' (l.take i ++ [x] ++ l.drop i) ∧ Below base w w' := by
  rcases Nat.lt_or_ge i l.length with h | h
  · obtain ⟨g, cap, rfl⟩ := ho.shape (by omega)
    rcases Nat.lt_or_ge cap (l.length + 1) with h1 | h1
    · exact insGrow_any g l.length cap i vb base l x cx w ho h h1 hn hbase hx hr
    · exact insIn_any g l.length cap i vb base l x cx w ho h h1 hn hx hr fun e => hne (by rw [e]; rfl)
  · obtain rfl : i = l.length := by omega
    have h2 := insEnd_any v vb base l x cx w ho hn hbase hx hr
    rw [List.take_of_length_le (Nat.le_refl _), List.drop_of_length_le (Nat.le_refl _), List.append_nil]
    exact h2
end Go.Proofs.Ytanlpcndbfmkiaa
namespace Go.Proofs.Ytanlpcndbfmkiaa
open Go.RowKit Go.WalkArith

/-- A slice of nothing reaches nothing. -/
theorem sl_none {α : Type} {L : Lay α} {w w' : World} {S S' : Nat → Prop} {A : Option Addr} {n c : Nat} {xs : List α} (hx : xs = []) (h : Sl L w S A n c xs) : Sl L w' S' A n c xs :=
  ⟨h.len, h.cap.1, h.cap.2, h.no, fun q => absurd q (by rw [← h.len, hx]; simp)⟩
/-- How Open ends. -/
theorem op_ways {l : List Chn} {c : Chn} : (opE l c ≠ 0 → opL l c = []) := fun h => if_neg h

set_option maxRecDepth 100000 in
set_option maxHeartbeats 4000000 in
theorem lOpen_any (A : Option Addr) (n k : Nat) (l : List Chn) (s : Array Value) (c : Chn) (w : World) (h : Sl lay_Channel w (· < w.heap.size) A n k l) (r : lay_Channel.rep w (· < w.heap.size) c s.toList) :
    Calls Try.prog 12 #[.slice A n k, .agg s] w fun e w' => ∃ v, e = .returned (.tuple #[v, .int .i64 (opE l c)]) ∧ OwnL lay_Channel w' w.heap.size (some w.heap.size) 26 v (opL l c) ∧ Below w.heap.size w w' := by
  obtain ⟨Ac, nc, kc, rfl, hw, hs⟩ := agg_Channel r
  have HL := hid h.len
  have hcap := h.cap
  unfold maxLen at hcap
  have HLC0 := hid hs.len
  have hcc := hs.cap
  unfold maxLen at hcc
  have HW := hid hw
  have HSL := hid (fun (W : World) (h' : Below w.heap.size w W) => Sl.call h h')
  have HS0 := hid (fun (W : World) (h' : Below w.heap.size w W) => Sl.call hs h')
  have HWL := hid (sl_chns h)
  have hb0 := bel_alloc (Below.refl w.heap.size w) (Obj.cells #[.int .u64 c.Id, .int .u64 c.Local, .int .u64 c.Remote, .int .u64 c.Reserve, .int .u64 c.Most, .slice Ac nc kc, .bool c.Open] 26)
  have BC := BoxC.new w c Ac nc kc
  have hz0 : (w.alloc (Obj.cells #[.int .u64 c.Id, .int .u64 c.Local, .int .u64 c.Remote, .int .u64 c.Reserve, .int .u64 c.Most, .slice Ac nc kc, .bool c.Open] 26)).heap.size = w.heap.size + 1 := by simp
  have HNO : Hid (¬ (LgOk l ∧ ChOk c ∧ c.Open = true ∧ c.Holds = []) → opE l c = 1 ∧ opL l c = []) := hid fun q => by
    have e : opE l c = 1 := if_neg q
    exact ⟨e, if_neg (by rw [e]; decide)⟩
  clear r hs h hw
  go_enter Try.func12, Try.ntmps12
  go_upto_region 1 with (fail)
  generalize w.alloc (Obj.cells #[.int .u64 c.Id, .int .u64 c.Local, .int .u64 c.Remote, .int .u64 c.Reserve, .int .u64 c.Most, .slice Ac nc kc, .bool c.Open] 26) = W0 at *
  go_wp2_with fail
  with_reducible refine (lCheck_any A n k l W0 (HSL.out _ hb0)).mono ?_
  rcases lg_two (l := l) with ⟨g, e⟩ | ⟨g, e⟩
  rotate_left
  · rw [e]
    have HE := hid (HNO.out fun q => g q.1)
    clear e g
    rintro e w1 ⟨rfl, hb1⟩
    go_wp2
    go_ret2
    exact ⟨_, by rw [HE.out.1]; rfl, by rw [HE.out.2]; exact OwnL.nil _ _ _ _ _, bel_call hb0 hb1⟩
  rw [e]
  clear e
  rintro e w1 ⟨rfl, hb1⟩
  have HB1 := bel_call hb0 hb1
  have BC1 := BC.call hb1
  have hz1 := hb1.size
  obtain ⟨p0, p1, p2, p3, p4, p5, p6⟩ := BC1.all
  clear hb1
  have HG := hid g
  clear g
  go_wp2_with fail
  with_reducible refine (cCheck_any _ c w1 (chan_in HW.out (HS0.out _ HB1) (Below.refl _ _))).mono ?_
  rcases ch_is (c := c) with ⟨ok, e⟩ | ⟨ok, e⟩
  rotate_left
  · rw [e]
    have HE := hid (HNO.out fun q => ok q.2.1)
    clear e ok
    rintro e w2 ⟨rfl, hb2⟩
    have HB2 := bel_call HB1 hb2
    obtain ⟨q0, q1, q2, q3, q4, q5, q6⟩ := (BC1.call hb2).all
    clear p0 p1 p2 p3 p4 p5 p6
    go_wp2
    go_ret2
    exact ⟨_, by rw [HE.out.1]; rfl, by rw [HE.out.2]; exact OwnL.nil _ _ _ _ _, HB2⟩
  rw [e]
  clear e
  have HOK := hid ok
  clear ok
  rintro e w2 ⟨rfl, hb2⟩
  have HB2 := bel_call HB1 hb2
  have BC2 := BC1.call hb2
  have hz2 := hb2.size
  clear p0 p1 p2 p3 p4 p5 p6 hb2
  obtain ⟨p0, p1, p2, p3, p4, p5, p6⟩ := BC2.all
  obtain ⟨o, ho⟩ : ∃ o, c.Open = o := ⟨_, rfl⟩
  rw [ho] at p6
  have HO := hid ho
  clear ho
  cases o
  · have HE := hid (HNO.out fun q => by rw [HO.out] at q; cases q.2.2.1)
    go_wp2
    go_ret2
    exact ⟨_, by rw [HE.out.1]; rfl, by rw [HE.out.2]; exact OwnL.nil _ _ _ _ _, HB2⟩
  by_cases hnc : 0 < nc
  · have HE := hid (HNO.out fun q => by have := HLC0.out; rw [q.2.2.2] at this; simp at this; omega)
    have d1 : decide ((0 : Int) < (nc : Int)) = true := by simp; omega
    have d2 : decide (0 < nc) = true := by simp; omega
    go_wp2
    go_ret2
    exact ⟨_, by rw [HE.out.1]; rfl, by rw [HE.out.2]; exact OwnL.nil _ _ _ _ _, HB2⟩
  have d1 : decide ((0 : Int) < (nc : Int)) = false := by simp; omega
  have d2 : decide (0 < nc) = false := by simp; omega
  have HNIL := hid (show c.Holds = [] from List.eq_nil_of_length_eq_zero (by rw [HLC0.out]; omega))
  have HYES := hid (show opE l c = (if (chanF l c.Id).isSome = true then 6 else if l.length = 32 then 7 else if mMax < sumC (withC l c) then 8 else 0) from if_pos ⟨HG.out, HOK.out, HO.out, HNIL.out⟩)
  clear hnc HNO
  have HU := hid (show UpF Chn.Id l from HG.out.2.2.1)
  have hn32 : n ≤ 32 := by have := HG.out.1; rw [HL.out] at this; exact this
  have hn64 : n ≤ 64 := by omega
  go_wp2_with fail
  with_reducible refine (placeC_any A n k l c.Id w2 (HSL.out _ HB2) hn64 HU.out).mono ?_
  rintro e w3 ⟨j, rfl, hat, hb3⟩
  have HB3 := bel_call HB2 hb3
  have BC3 := BC2.call hb3
  have hz3 := hb3.size
  obtain ⟨d, hd⟩ : ∃ d, hitF Chn.Id l c.Id j = d := ⟨_, rfl⟩
  rw [hd]
  clear p0 p1 p2 p3 p4 p5 p6 hb3 BC2 BC1
  cases d
  rotate_left
  · have HE := hid (show opE l c = 6 ∧ opL l c = [] from by
      obtain ⟨hjk, hfe, hf⟩ := hat.find hd
      have hf2 : (chanF l c.Id).isSome = true := by
        have : chanF l c.Id = some _ := hf
        rw [this]; rfl
      have e : opE l c = 6 := by rw [HYES.out, if_pos hf2]
      exact ⟨e, if_neg (by rw [e]; decide)⟩)
    clear hat hd
    go_wp2
    go_ret2
    exact ⟨_, by rw [HE.out.1]; rfl, by rw [HE.out.2]; exact OwnL.nil _ _ _ _ _, HB3⟩
  have HNONE := hid (show ¬ (chanF l c.Id).isSome = true from by
    have : chanF l c.Id = none := hat.none HU.out hd
    rw [this]; simp)
  have hjl : j ≤ l.length := hat.1
  have HWC := hid (hat.with_new HU.out hd c)
  have hjc : (j : Int) ≤ 4096 := by have := HL.out; omega
  clear hat hd
  by_cases h32 : n = 32
  · have HE := hid (show opE l c = 7 ∧ opL l c = [] from by
      have e : opE l c = 7 := by rw [HYES.out, if_neg HNONE.out, if_pos (by rw [HL.out]; exact h32)]
      exact ⟨e, if_neg (by rw [e]; decide)⟩)
    have d3 : ((n : Int) == 32) = true := by simp; omega
    go_wp2
    go_ret2
    exact ⟨_, by rw [HE.out.1]; rfl, by rw [HE.out.2]; exact OwnL.nil _ _ _ _ _, HB3⟩
  have d3 : ((n : Int) == 32) = false := by simp; omega
  have HYE := hid (show opE l c = (if mMax < sumC (withC l c) then 8 else 0) from by rw [HYES.out, if_neg HNONE.out, if_neg (by rw [HL.out]; exact h32)])
  have hn20 : n ≤ 1048576 := by omega
  have hl32 : l.length ≤ 32 := by rw [HL.out]; omega
  have HH20 := hid (show ∀ x ∈ l, x.Holds.length ≤ 1048576 from fun x hx => by have := (HG.out.2.1 x hx).2.2.1; omega)
  have HLC := hid (show c.Holds.length ≤ 1048576 from by rw [HNIL.out]; simp)
  have HZ3 := hid (show w.heap.size ≤ w3.heap.size from HB3.size)
  have HSC := hid (HS0.out _ HB3)
  have HALL := hid (show ∀ x ∈ withC l c, ChOk x from fun x hx => by
    rcases cwith_mem.1 hx with ⟨q, -⟩ | q
    · exact HG.out.2.1 x q
    · rw [q]; exact HOK.out)
  clear h32
  go_upto_region 8 with (fail)
  refine wp_region_held (S := fun W => Below w3.heap.size w3 W) (by kernel_rfl) ?_
  have hS0 : (fun W => Below w3.heap.size w3 W) (w3.drewN 1) := bel_drewN (Below.refl _ _) _
  change wpAnyH _ _ _ _ _ 8 (Array.replicate 8 false) _ (w3.drewN 1)
  rw [show Array.replicate 8 false = #[false, false, false, false, false, false, false, false] from rfl]
  refine wpAnyH_yes 0 (some 43) (.slice A n k) rfl rfl (by kernel_rfl) (by kernel_rfl) (by kernel_rfl) (fun _ _ _ h => h) (by rfl) (fun w' hS => by go_simp) hS0 ?_
  try simp only [Act.put, List.setIfInBounds_toArray, List.set_cons_zero, List.set_cons_succ]
  refine wpAnyH_yes 2 (some 45) (.int .i64 (j : Nat)) rfl rfl (by kernel_rfl) (by kernel_rfl) (by kernel_rfl) (fun _ _ _ h => h) (by rfl) (fun w' hS => by go_simp) hS0 ?_
  try simp only [Act.put, List.setIfInBounds_toArray, List.set_cons_zero, List.set_cons_succ]
  refine wpAnyH_yes 3 (some 46) (.agg #[.int .u64 c.Id, .int .u64 c.Local, .int .u64 c.Remote, .int .u64 c.Reserve, .int .u64 c.Most, .slice Ac nc kc, .bool c.Open]) rfl rfl (by kernel_rfl) (by kernel_rfl) (by kernel_rfl) (fun _ _ _ h => h) (by rfl) (fun w' hS => by obtain ⟨p0, p1, p2, p3, p4, p5, p6⟩ := (BC3.call hS).all; go_simp) hS0 ?_
  try simp only [Act.put, List.setIfInBounds_toArray, List.set_cons_zero, List.set_cons_succ]
  refine wpAnyH_step 1 _ (by kernel_rfl) rfl (by rfl) ?_
  go_simp
  with_reducible refine (copies_any A n k l _ (HSL.out _ (HB3.trans (hS0.mono HZ3.out))) hn20 HH20.out).mono ?_
  rintro e wA ⟨vL, rfl, hoL, hbL⟩
  have hSwA := hS0.trans (hbL.mono hS0.size)
  refine ⟨hSwA, ?_⟩
  try simp only [Act.put, List.setIfInBounds_toArray, List.set_cons_zero, List.set_cons_succ]
  refine wpAnyH_step 4 _ (by kernel_rfl) rfl (by rfl) ?_
  go_simp
  with_reducible refine (copyOf_any _ c _ (chan_in HW.out HSC.out (hSwA)) HLC.out).mono ?_
  rintro e wB ⟨v2, rfl, ⟨u, rfl, ho⟩, hbC⟩
  obtain ⟨Au, nu, cu, rfl, hsu⟩ := ho.read
  have hSwB := hSwA.trans (hbC.mono hSwA.size)
  refine ⟨hSwB, ?_⟩
  try simp only [Act.put, List.setIfInBounds_toArray, List.set_cons_zero, List.set_cons_succ]
  refine wpAnyH_step 5 _ (by kernel_rfl) rfl (by rfl) ?_
  go_simp
  have hSwC := hSwB.alloc hSwB.size (Obj.cells #[.int .u64 c.Id, .int .u64 c.Local, .int .u64 c.Remote, .int .u64 c.Reserve, .int .u64 c.Most, .slice Au nu cu, .bool c.Open] 26)
  refine ⟨hSwC, ?_⟩
  try simp only [Act.put, List.setIfInBounds_toArray, List.set_cons_zero, List.set_cons_succ]
  refine wpAnyH_step 6 _ (by kernel_rfl) rfl (by rfl) ?_
  go_simp
  have hgL : ∀ g, vL.ownBlock = some g → g < wB.heap.size := fun g hg => by
    obtain ⟨cs, q1, -⟩ := hoL
    have q := q1.lt g hg
    exact Nat.lt_of_lt_of_le q.2 hbC.size
  have HI := hid (insertC_any vL j wB.heap.size w3.heap.size l c #[.int .u64 c.Id, .int .u64 c.Local, .int .u64 c.Remote, .int .u64 c.Reserve, .int .u64 c.Most, .slice Au nu cu, .bool c.Open] (wB.alloc (Obj.cells #[.int .u64 c.Id, .int .u64 c.Local, .int .u64 c.Remote, .int .u64 c.Reserve, .int .u64 c.Most, .slice Au nu cu, .bool c.Open] 26)) ((hoL.keep hbC).keep (bel_alloc (Below.refl _ _) _)) hjl hl32 hSwC.size (heap_alloc_new wB _) (rep_Channel.2 ⟨Au, nu, cu, rfl, HW.out, sl_none HNIL.out hsu⟩) (fun e => by have := hgL _ e; omega))
  with_reducible refine HI.out.mono ?_
  rintro e wI ⟨vI, rfl, hoI, hbI⟩
  have hSI := hSwC.trans hbI
  have hBI := HB3.trans (hSI.mono HZ3.out)
  have HOI := hid (hoI.lows (base' := w.heap.size) (lo' := w.heap.size) HZ3.out HZ3.out)
  have HSI := hid hSI
  have HBI := hid hBI
  clear hoI hbI hSI hBI
  clear hoL
  refine ⟨HSI.out, ?_⟩
  try simp only [Act.put, List.setIfInBounds_toArray, List.set_cons_zero, List.set_cons_succ]
  refine wpAnyH_step 7 _ (by kernel_rfl) rfl (by rfl) ?_
  go_simp
  refine ⟨HSI.out, ?_⟩
  try simp only [Act.put, List.setIfInBounds_toArray, List.set_cons_zero, List.set_cons_succ]
  refine wpAnyH_done (by kernel_rfl) ?_ _
  obtain ⟨AI, nI, cI, rfl, hsI⟩ := HOI.out.read
  have hlI : nI ≤ 1048576 := by
    have := hsI.len
    simp at this
    omega
  have HWI := hid hsI
  clear hsI
  go_wp2_with fail
  with_reducible refine (lAll_any AI nI cI _ wI HWI.out hlI).mono ?_
  rintro e w9 ⟨v9, x9, rfl, h9, -, hb9⟩
  rw [← show withC l c = l.take j ++ [c] ++ l.drop j from HWC.out] at h9 HOI
  have hx9 := h9 HALL.out
  have HB9 := bel_call HBI.out hb9
  by_cases hsum : mMax < sumC (withC l c)
  · have HE := hid (show opE l c = 8 ∧ opL l c = [] from by
      have e : opE l c = 8 := by rw [HYE.out, if_pos hsum]
      exact ⟨e, if_neg (by rw [e]; decide)⟩)
    rw [if_neg (by omega)] at hx9
    subst hx9
    clear h9 hsum
    go_wp2
    go_ret2
    exact ⟨_, by rw [HE.out.1]; rfl, by rw [HE.out.2]; exact OwnL.nil _ _ _ _ _, HB9⟩
  · have HE := hid (show opE l c = 0 ∧ opL l c = withC l c from by
      have e : opE l c = 0 := by rw [HYE.out, if_neg hsum]
      exact ⟨e, if_pos e⟩)
    rw [if_pos (by omega)] at hx9
    subst hx9
    clear h9 hsum
    have HO9 := hid (HOI.out.keep hb9)
    go_wp2
    go_ret2
    exact ⟨_, by rw [HE.out.1]; rfl, by rw [HE.out.2]; exact HO9.out, HB9⟩
theorem chan_two : ChanTwo where
  same := fun s t c o w r1 r2 => cSame_any s t c o w r1 r2
  all := fun s c w r => cAll_any s c w r
theorem ledger_spec : LedgerSpec where
  check := fun A n k l w h => lCheck_any A n k l w h
  same := fun A A' n k n' k' l o w h1 h2 => lSame_any A A' n k n' k' l o w h1 h2
  get := fun A n k l id w h _ => lGet_any A n k l id w h
  where_ := fun A n k l hold w h hh => lWhere_any A n k l hold w h hh
  ours := fun A n k l w h => lOurs_any A n k l w h
  open_ := fun A n k l s c w h r => lOpen_any A n k l s c w h r
  close := fun A n k l id w h _ => lClose_any A n k l id w h
  push := fun A n k l id m w h _ hm => lPush_any A n k l id m w h hm
  hold := fun A n k l id hold m w h _ hh hm => lHold_any A n k l id hold m w h hh hm
  end_ := fun A n k l hold paid w h hh => lEnd_any A n k l hold paid w h hh
end Go.Proofs.Ytanlpcndbfmkiaa
