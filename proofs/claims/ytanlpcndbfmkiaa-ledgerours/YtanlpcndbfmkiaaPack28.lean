/-
  Package ledger: Close, Push.
-/
import Derived.Test.YtanlpcndbfmkiaaPack1
import Derived.Test.YtanlpcndbfmkiaaPack2
import Derived.Test.YtanlpcndbfmkiaaPack3
import Derived.Test.YtanlpcndbfmkiaaPack4
import Derived.Test.YtanlpcndbfmkiaaPack5
import Derived.Test.YtanlpcndbfmkiaaPack6
import Derived.Test.YtanlpcndbfmkiaaPack7
import Derived.Test.YtanlpcndbfmkiaaPack8
import Derived.Test.YtanlpcndbfmkiaaPack9
import Derived.Test.YtanlpcndbfmkiaaPack10
import Derived.Test.YtanlpcndbfmkiaaPack11
import Derived.Test.YtanlpcndbfmkiaaPack12
import Derived.Test.YtanlpcndbfmkiaaPack13
import Derived.Test.YtanlpcndbfmkiaaPack14
import Derived.Test.YtanlpcndbfmkiaaPack15
import Derived.Test.YtanlpcndbfmkiaaPack16
import Derived.Test.YtanlpcndbfmkiaaPack17
import Derived.Test.YtanlpcndbfmkiaaPack18
import Derived.Test.YtanlpcndbfmkiaaPack19
import Derived.Test.YtanlpcndbfmkiaaPack20
import Derived.Test.YtanlpcndbfmkiaaPack21
import Derived.Test.YtanlpcndbfmkiaaPack22
import Derived.Test.YtanlpcndbfmkiaaPack23
import Derived.Test.YtanlpcndbfmkiaaPack24
import Derived.Test.YtanlpcndbfmkiaaPack25
import Derived.Test.YtanlpcndbfmkiaaPack26
import Derived.Test.YtanlpcndbfmkiaaPack27
namespace Go.Proofs.Ytanlpcndbfmkiaa
open Go.RowKit Go.WalkArith

/-- A block that holds one cell. -/
theorem one_cell {w : World} {b : Nat} {v : Value} {t : TypeId} (h : w.heap[b]? = some (.cells #[v] t (0, 0))) : w.cell? ⟨b, 0, none⟩ = some v := by simp [World.cell?, h]
theorem one_free {w : World} {b : Nat} {v : Value} {t : TypeId} (h : w.heap[b]? = some (.cells #[v] t (0, 0))) : w.frozen? ⟨b, 0, none⟩ = false := by simp [World.frozen?, h]
theorem one_lt {w : World} {b : Nat} {o : Obj} (h : w.heap[b]? = some o) : b < w.heap.size := (Array.getElem?_eq_some_iff.1 h).1
theorem one_call {w w' : World} {b : Nat} {o : Obj} (h : w.heap[b]? = some o) (hb : Below w.heap.size w w') : w'.heap[b]? = some o := (hb.block b (one_lt h)).trans h
/-- What is done may be said otherwise where it fails. -/
theorem one_d {l : List Chn} {id : Int} {e : Chn → Int} {d d2 : Chn → Chn} (h : e (gtC l id) = 0 → d (gtC l id) = d2 (gtC l id)) : oneL l id e d = oneL l id e d2 := by
  unfold oneL
  by_cases q : oneE l id e = 0
  · rw [if_pos q, if_pos q]
    have : e (gtC l id) = 0 := by
      unfold oneE at q
      by_cases g : gtE l id ≠ 0
      · rw [if_pos g] at q; exact absurd q g
      · rw [if_neg g] at q; exact q
    rw [h this]
  · rw [if_neg q, if_neg q]
theorem gt_wfL {l : List Chn} (hw : ChnsWf l) {id : Int} (h : gtE l id = 0) : ChnWf (gtC l id) ∧ HldsWf (gtC l id).Holds := hw _ (gt_is h).2.2.1

set_option maxRecDepth 100000 in
set_option maxHeartbeats 4000000 in
theorem lClose_any (A : Option Addr) (n k : Nat) (l : List Chn) (id : Int) (w : World) (h : Sl lay_Channel w (· < w.heap.size) A n k l) :
    Calls Try.prog 14 #[.slice A n k, .int .u64 id] w fun e w' => ∃ v, e = .returned (.tuple #[v, .int .i64 (lclE l id)]) ∧ OwnL lay_Channel w' w.heap.size (some w.heap.size) 26 v (lclL l id) ∧ Below w.heap.size w w' := by
  have HWL := hid (sl_chns h)
  have HX := hid (change0_any 48 (fun args w => enter_any Try.func48 (by kernel_rfl) (by rfl) args w) w.heap.size (fun _ => True) (fun _ => True) (fun _ _ _ _ => trivial) (fun _ _ _ _ => trivial) clE clC A n k l id w h (Nat.le_refl _) trivial
    (fun hq s W hbW _ r => (cClose_any s (gtC l id) W (lay_Channel.wide r fun b hb => Nat.lt_of_lt_of_le hb hbW.size)).mono (by
      rintro e w' ⟨t, rfl, hr, hb⟩
      refine ⟨t, rfl, ?_, trivial, hb.mono hbW.size⟩
      obtain ⟨A1, n1, k1, hc, hw1, hs1⟩ := rep_Channel.1 hr
      have hnil : (clC (gtC l id)).Holds = [] := by
        by_cases q : clE (gtC l id) = 0
        · rw [(cl_is q).2.2.2.1]; exact (cl_is q).2.2.1
        · rw [show clC (gtC l id) = zeroCh from if_neg q]; rfl
      have hn0 : n1 = 0 := by rw [← hs1.len, hnil]; rfl
      refine rep_Channel.2 ⟨A1, n1, k1, hc, hw1, hs1.len, hs1.cap.1, hs1.cap.2, hs1.no, fun q => absurd q (by omega)⟩))
    (fun hq he => by rw [(cl_is he).2.2.2.1]; exact (gt_is hq).2.2.2.1))
  go_enter Try.func14, Try.ntmps14
  go_wp2_with fail
  with_reducible refine HX.out.mono ?_
  rintro e w1 ⟨v, rfl, ho, -, hb⟩
  have HO := hid ho
  clear ho
  go_wp2
  go_ret2
  exact ⟨_, rfl, HO.out, hb⟩

set_option maxRecDepth 100000 in
set_option maxHeartbeats 4000000 in
theorem push1_any (s : Array Value) (c : Chn) (m : Int) (pb : Nat) (w : World) (r : lay_Channel.rep w (· < w.heap.size) c s.toList) (hm : (Lit.int .u64 m).wf = true) (hp : w.heap[pb]? = some (.cells #[.int .u64 m] 23 (0, 0))) :
    Calls Try.prog 50 #[.agg s, .pointer (some ⟨pb, 0, none⟩)] w fun e w' => ∃ v, e = .returned (.tuple #[v, .int .i64 (puE c m)]) ∧ OwnC w' w.heap.size v (puC c m) ∧ Below w.heap.size w w' := by
  obtain ⟨A, n, k, rfl, hw, hs⟩ := agg_Channel r
  have HWL := hid (And.intro hw (sl_hlds hs))
  have hb0 : Below w.heap.size w ((w.alloc (Obj.cells #[.int .u64 c.Id, .int .u64 c.Local, .int .u64 c.Remote, .int .u64 c.Reserve, .int .u64 c.Most, .slice A n k, .bool c.Open] 26)).alloc (Obj.cells #[.int .u64 0, .int .u64 0, .int .u64 0, .int .u64 0, .int .u64 0, .slice none 0 0, .bool false] 26)) := bel_alloc (bel_alloc (Below.refl _ _) _) _
  have BC : BoxC ((w.alloc (Obj.cells #[.int .u64 c.Id, .int .u64 c.Local, .int .u64 c.Remote, .int .u64 c.Reserve, .int .u64 c.Most, .slice A n k, .bool c.Open] 26)).alloc (Obj.cells #[.int .u64 0, .int .u64 0, .int .u64 0, .int .u64 0, .int .u64 0, .slice none 0 0, .bool false] 26)) w.heap.size c A n k := heap_alloc2_old _ _ _
  have BR : BoxC ((w.alloc (Obj.cells #[.int .u64 c.Id, .int .u64 c.Local, .int .u64 c.Remote, .int .u64 c.Reserve, .int .u64 c.Most, .slice A n k, .bool c.Open] 26)).alloc (Obj.cells #[.int .u64 0, .int .u64 0, .int .u64 0, .int .u64 0, .int .u64 0, .slice none 0 0, .bool false] 26)) (w.heap.size + 1) zeroCh none 0 0 := alloc2_new _ _ _
  have HZ := hid (show ((w.alloc (Obj.cells #[.int .u64 c.Id, .int .u64 c.Local, .int .u64 c.Remote, .int .u64 c.Reserve, .int .u64 c.Most, .slice A n k, .bool c.Open] 26)).alloc (Obj.cells #[.int .u64 0, .int .u64 0, .int .u64 0, .int .u64 0, .int .u64 0, .slice none 0 0, .bool false] 26)).heap.size = w.heap.size + 2 from by simp)
  have S0 := Sl.call hs hb0
  clear r hs
  have hp0 := one_cell (one_call hp hb0)
  go_enter Try.func50, Try.ntmps50
  go_upto_region 1 with (fail)
  generalize (w.alloc (Obj.cells #[.int .u64 c.Id, .int .u64 c.Local, .int .u64 c.Remote, .int .u64 c.Reserve, .int .u64 c.Most, .slice A n k, .bool c.Open] 26)).alloc (Obj.cells #[.int .u64 0, .int .u64 0, .int .u64 0, .int .u64 0, .int .u64 0, .slice none 0 0, .bool false] 26) = W0 at *
  obtain ⟨p0, p1, p2, p3, p4, p5, p6⟩ := BC.all
  go_wp2_with fail
  with_reducible refine (cPush_any _ c m W0 (chan_in hw S0 (Below.refl _ _)) hm).mono ?_
  rintro e w1 ⟨v1, rfl, ⟨u, rfl, ho⟩, hb1⟩
  obtain ⟨Au, nu, cu, rfl, hsu⟩ := ho.read
  replace BR := BR.call hb1
  have HB1 := bel_call hb0 hb1
  have B9 := hid (BR.set (puC c m) Au nu cu)
  have HB9 := hid (Below.setBox HB1 (g := w.heap.size + 1) (Nat.le_succ _) (puC c m) Au nu cu)
  have HO9 := hid ((OwnL.setBox ho (g := w.heap.size + 1) (by rw [HZ.out]; omega) (puC c m) Au nu cu).lows (base' := w.heap.size) (lo' := w.heap.size) (by rw [HZ.out]; omega) (by rw [HZ.out]; omega))
  obtain ⟨z0, z1, z2, z3, z4, z5, z6⟩ := BR.all
  have f0 := BR.f 0
  have f1 := BR.f 1
  have f2 := BR.f 2
  have f3 := BR.f 3
  have f4 := BR.f 4
  have f5 := BR.f 5
  have f6 := BR.f 6
  clear p0 p1 p2 p3 p4 p5 p6 hsu
  go_wp2
  refine bodyPost_ret_by (results_ct rfl _ _ (w.heap.size + 1) 0 rfl [.int .u64 (puC c m).Id, .int .u64 (puC c m).Local, .int .u64 (puC c m).Remote, .int .u64 (puC c m).Reserve, .int .u64 (puC c m).Most, .slice Au nu cu, .bool (puC c m).Open] _ (range7 B9.out) Try.underlying26 rfl (by kernel_rfl)) rfl ?_
  exact ⟨_, rfl, ⟨_, rfl, HO9.out⟩, HB9.out⟩

set_option maxRecDepth 100000 in
set_option maxHeartbeats 4000000 in
theorem lPush_any (A : Option Addr) (n k : Nat) (l : List Chn) (id m : Int) (w : World) (h : Sl lay_Channel w (· < w.heap.size) A n k l) (hm : (Lit.int .u64 m).wf = true) :
    Calls Try.prog 16 #[.slice A n k, .int .u64 id, .int .u64 m] w fun e w' => ∃ v, e = .returned (.tuple #[v, .int .i64 (lpuE l id m)]) ∧ OwnL lay_Channel w' w.heap.size (some w.heap.size) 26 v (lpuL l id m) ∧ Below w.heap.size w w' := by
  have HWL := hid (sl_chns h)
  have hb0 := bel_alloc (Below.refl w.heap.size w) (Obj.cells #[.int .u64 m] 23)
  have hP : (w.alloc (Obj.cells #[.int .u64 m] 23)).heap[w.heap.size]? = some (.cells #[.int .u64 m] 23 (0, 0)) := heap_alloc_new w _
  have HX := hid (change1_any 50 (.pointer (some ⟨w.heap.size, 0, none⟩)) (fun args w => enter_any Try.func50 (by kernel_rfl) (by rfl) args w) w.heap.size (fun W => W.heap[w.heap.size]? = some (.cells #[.int .u64 m] 23 (0, 0))) (fun _ => True) (fun W W' hc hb => one_call hc hb) (fun _ _ _ _ => trivial) (fun c => puE c m) (fun c => puC c m) A n k l id (w.alloc (Obj.cells #[.int .u64 m] 23)) (h.keep fun p hp => hb0.cell hp) hb0.size hP
    (fun hq s W hbW hc r => (push1_any s (gtC l id) m w.heap.size W (lay_Channel.wide r fun b hb => Nat.lt_of_lt_of_le hb (Nat.le_trans hb0.size hbW.size)) hm hc).mono (by
      rintro e w' ⟨v, rfl, ho, hb⟩
      have hgw := gt_wfL HWL.out hq
      obtain ⟨t, rfl, hr⟩ := ho.rep (B := w.heap.size) (pu_wf hgw.1 hgw.2 (bounds_u64 hm).1) (Nat.le_trans hb0.size hbW.size)
      exact ⟨t, rfl, hr, trivial, hb.mono (Nat.le_trans hb0.size hbW.size)⟩))
    (fun hq he => by
      have hgw := gt_wfL HWL.out hq
      show (puC (gtC l id) m).Id = id
      rw [(pu_is hgw.1 hgw.2 (bounds_u64 hm).1 he).2.2.2.1]
      exact (gt_is hq).2.2.2.1))
  clear hP
  go_enter Try.func16, Try.ntmps16
  go_wp2_with fail
  with_reducible refine HX.out.mono ?_
  rintro e w1 ⟨v, rfl, ho, -, hb⟩
  have HO := hid ho
  have HB := hid (hb0.trans hb)
  clear ho
  go_wp2
  go_ret2
  exact ⟨_, rfl, HO.out, HB.out⟩

end Go.Proofs.Ytanlpcndbfmkiaa
