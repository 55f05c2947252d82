/-
  Package ledger: Close, Push.
  Package ledger: Hold.
-/
import Derived.Test.YtpkfejfdbjoehaaPackLg1
namespace Go.Proofs.Ytpkfejfdbjoehaa
open Go.RowKit Go.WalkArith

/-- A block that holds one cell. -/
theorem one_cell {w : World} {b : Nat} {v : Value} {t : TypeId} (h : w.heap[b]? = some (.cells #[v] t (0, 0))) : w.cell? ⟨b, 0, none⟩ = some v := by simp [World.cell?, h]
theorem one_free {w : World} {b : Nat} {v : Value} {t : TypeId} (h : w.heap[b]? = some (.cells #[v] t (0, 0))) : w.frozen? ⟨b, 0, none⟩ = false := by simp [World.frozen?, h]
theorem one_lt {w : World} {b : Nat} {o : Obj} (h : w.heap[b]? = some o) : b < w.heap.size := (Array.getElem?_eq_some_iff.1 h).1
theorem one_call {w w' : World} {b : Nat} {o : Obj} (h : w.heap[b]? = some o) (hb : Below w.heap.size w w') : w'.heap[b]? = some o := (hb.block b (one_lt h)).trans h
/-- What is done may be said otherwise where it fails. -/
theorem one_d {l : List Chn} {id : Int} {e : Chn → Int} {d d2 : Chn → Chn} (h : e (gtC l id) = 0 → d (gtC l id) = d2 (gtC l id)) : oneL l id e d = oneL l id e d2 := by
  unfold oneL
  by_cases q : oneE l id e = 0
  · rw [if_pos q, if_pos q]
    have : e (gtC l id) = 0 := by
      unfold oneE at q
      by_cases g : gtE l id ≠ 0
      · rw [if_pos g] at q; exact absurd q g
      · rw [if_neg g] at q; exact q
    rw [h this]
  · rw [if_neg q, if_neg q]
theorem gt_wfL {l : List Chn} (hw : ChnsWf l) {id : Int} (h : gtE l id = 0) : ChnWf (gtC l id) ∧ HldsWf (gtC l id).Holds := hw _ (gt_is h).2.2.1

end Go.Proofs.Ytpkfejfdbjoehaa
namespace Go.Proofs.Ytpkfejfdbjoehaa
open Go.RowKit Go.WalkArith

/-- What holding leaves, where it may be that another channel has that hold. -/
noncomputable def hdC (l : List Chn) (hold m : Int) (c : Chn) : Chn := if (whereF l hold).isSome = true then zeroCh else hoC c hold m
theorem hold_two {l : List Chn} {c : Chn} {hold m : Int} (g : LgOk l) : (whE l hold = 0 ∧ lhE l hold m c = 6 ∧ (hdC l hold m c) = zeroCh) ∨ (whE l hold = 5 ∧ lhE l hold m c = hoE c hold m ∧ (hdC l hold m c) = hoC c hold m) := by
  unfold whE lhE hdC
  rw [if_pos g]
  cases hf : whereF l hold with
  | some y => exact .inl ⟨rfl, if_pos rfl, if_pos rfl⟩
  | none => exact .inr ⟨rfl, if_neg (by simp), if_neg (by simp)⟩

set_option maxRecDepth 100000 in
set_option maxHeartbeats 400000 in
theorem hold1_any (s : Array Value) (c : Chn) (hold m : Int) (Al : Option Addr) (nl kl : Nat) (l : List Chn) (pl ph pn : Nat) (w : World) (r : lay_Channel.rep w (· < w.heap.size) c s.toList) (hl : Sl lay_Channel w (· < w.heap.size) Al nl kl l) (hh : (Lit.int .u64 hold).wf = true) (hm : (Lit.int .u64 m).wf = true) (g : LgOk l)
    (hpl : w.heap[pl]? = some (.cells #[.slice Al nl kl] 22 (0, 0))) (hph : w.heap[ph]? = some (.cells #[.int .u64 hold] 24 (0, 0))) (hpn : w.heap[pn]? = some (.cells #[.int .u64 m] 24 (0, 0))) :
    Calls Try.prog 44 #[.agg s, .pointer (some ⟨pl, 0, none⟩), .pointer (some ⟨ph, 0, none⟩), .pointer (some ⟨pn, 0, none⟩)] w fun e w' => ∃ v, e = .returned (.tuple #[v, .int .i64 (lhE l hold m c)]) ∧ OwnC w' w.heap.size v (hdC l hold m c) ∧ Below w.heap.size w w' := by
  obtain ⟨A, n, k, rfl, hw, hs⟩ := agg_Channel r
  have HWL := hid (And.intro hw (sl_hlds hs))
  have hb0 : Below w.heap.size w ((w.alloc (Obj.cells #[.int .u64 c.Id, .int .u64 c.Local, .int .u64 c.Remote, .int .u64 c.Reserve, .int .u64 c.Most, .slice A n k, .bool c.Open] 28)).alloc (Obj.cells #[.int .u64 0, .int .u64 0, .int .u64 0, .int .u64 0, .int .u64 0, .slice none 0 0, .bool false] 28)) := bel_alloc (bel_alloc (Below.refl _ _) _) _
  have BC : BoxC ((w.alloc (Obj.cells #[.int .u64 c.Id, .int .u64 c.Local, .int .u64 c.Remote, .int .u64 c.Reserve, .int .u64 c.Most, .slice A n k, .bool c.Open] 28)).alloc (Obj.cells #[.int .u64 0, .int .u64 0, .int .u64 0, .int .u64 0, .int .u64 0, .slice none 0 0, .bool false] 28)) w.heap.size c A n k := heap_alloc2_old _ _ _
  have BR : BoxC ((w.alloc (Obj.cells #[.int .u64 c.Id, .int .u64 c.Local, .int .u64 c.Remote, .int .u64 c.Reserve, .int .u64 c.Most, .slice A n k, .bool c.Open] 28)).alloc (Obj.cells #[.int .u64 0, .int .u64 0, .int .u64 0, .int .u64 0, .int .u64 0, .slice none 0 0, .bool false] 28)) (w.heap.size + 1) zeroCh none 0 0 := alloc2_new _ _ _
  have HZ := hid (show ((w.alloc (Obj.cells #[.int .u64 c.Id, .int .u64 c.Local, .int .u64 c.Remote, .int .u64 c.Reserve, .int .u64 c.Most, .slice A n k, .bool c.Open] 28)).alloc (Obj.cells #[.int .u64 0, .int .u64 0, .int .u64 0, .int .u64 0, .int .u64 0, .slice none 0 0, .bool false] 28)).heap.size = w.heap.size + 2 from by simp)
  have S0 := Sl.call hs hb0
  clear r hs
  have c1 := one_call hpl hb0
  have c2 := one_call hph hb0
  have c3 := one_call hpn hb0
  have SL0 := Sl.call hl hb0
  go_enter Try.func44, Try.ntmps44
  go_upto_region 1 with (fail)
  generalize (w.alloc (Obj.cells #[.int .u64 c.Id, .int .u64 c.Local, .int .u64 c.Remote, .int .u64 c.Reserve, .int .u64 c.Most, .slice A n k, .bool c.Open] 28)).alloc (Obj.cells #[.int .u64 0, .int .u64 0, .int .u64 0, .int .u64 0, .int .u64 0, .slice none 0 0, .bool false] 28) = W0 at *
  have p1 := one_cell c1
  have p2 := one_cell c2
  go_wp2_with fail
  with_reducible refine (lWhere_any Al nl kl l hold W0 SL0 hh).mono ?_
  rintro e w1 ⟨rfl, hb1⟩
  replace BR := BR.call hb1
  replace BC := BC.call hb1
  have HB1 := bel_call hb0 hb1
  have S1 := Sl.call S0 hb1
  have k2 := one_cell (one_call c2 hb1)
  have k3 := one_cell (one_call c3 hb1)
  have hz1 := hb1.size
  rw [HZ.out] at hz1
  clear p1 p2 c1 c2 c3 hb1
  have HG := hid g
  clear g hl hpl hph hpn SL0 S0
  obtain ⟨wv, hwv⟩ : ∃ z, whE l hold = z := ⟨_, rfl⟩
  obtain ⟨xv, hxv⟩ : ∃ z, whV l hold = z := ⟨_, rfl⟩
  rw [hwv, hxv]
  clear hxv
  rcases hold_two (l := l) (c := c) (hold := hold) (m := m) HG.out with ⟨e1, e2, e3⟩ | ⟨e1, e2, e3⟩
  · have HE2 := hid (And.intro e2 e3)
    obtain rfl : wv = 0 := by rw [← hwv, e1]
    clear e1 e2 e3 hwv
    have B9 := hid (BR.set zeroCh none 0 0)
    have HB9 := hid (Below.setBox HB1 (g := w.heap.size + 1) (Nat.le_succ _) zeroCh none 0 0)
    obtain ⟨z0, z1, z2, z3, z4, z5, z6⟩ := BR.all
    have f0 := BR.f 0
    have f1 := BR.f 1
    have f2 := BR.f 2
    have f3 := BR.f 3
    have f4 := BR.f 4
    have f5 := BR.f 5
    have f6 := BR.f 6
    clear BR BC HB1 S1 k2 k3 hz1
    go_wp2
    refine bodyPost_ret_by (results_ct rfl _ _ (w.heap.size + 1) 0 rfl [.int .u64 0, .int .u64 0, .int .u64 0, .int .u64 0, .int .u64 0, .slice none 0 0, .bool false] _ (range7 B9.out) Try.underlying28 rfl (by kernel_rfl)) rfl ?_
    exact ⟨_, by rw [HE2.out.1]; rfl, by rw [HE2.out.2]; exact ⟨_, rfl, OwnL.nil _ _ _ _ _⟩, HB9.out⟩
  · have HE2 := hid (And.intro e2 e3)
    obtain rfl : wv = 5 := by rw [← hwv, e1]
    clear e1 e2 e3 hwv
    obtain ⟨p0, p1, p2, p3, p4, p5, p6⟩ := BC.all
    go_wp2_with fail
    with_reducible refine (cHold_any _ c hold m w1 (chan_in hw S1 (Below.refl _ _)) hh hm).mono ?_
    rintro e w2 ⟨v2, rfl, ⟨u, rfl, ho⟩, hb2⟩
    obtain ⟨Au, nu, cu, rfl, hsu⟩ := ho.read
    replace BR := BR.call hb2
    have HB2 := bel_call HB1 hb2
    have B9 := hid (BR.set (hoC c hold m) Au nu cu)
    have HB9 := hid (Below.setBox HB2 (g := w.heap.size + 1) (Nat.le_succ _) (hoC c hold m) Au nu cu)
    have HO9 := hid ((OwnL.setBox ho (g := w.heap.size + 1) (by omega) (hoC c hold m) Au nu cu).lows (base' := w.heap.size) (lo' := w.heap.size) (by omega) (by omega))
    obtain ⟨z0, z1, z2, z3, z4, z5, z6⟩ := BR.all
    have f0 := BR.f 0
    have f1 := BR.f 1
    have f2 := BR.f 2
    have f3 := BR.f 3
    have f4 := BR.f 4
    have f5 := BR.f 5
    have f6 := BR.f 6
    clear p0 p1 p2 p3 p4 p5 p6 hsu
    go_wp2
    refine bodyPost_ret_by (results_ct rfl _ _ (w.heap.size + 1) 0 rfl [.int .u64 (hoC c hold m).Id, .int .u64 (hoC c hold m).Local, .int .u64 (hoC c hold m).Remote, .int .u64 (hoC c hold m).Reserve, .int .u64 (hoC c hold m).Most, .slice Au nu cu, .bool (hoC c hold m).Open] _ (range7 B9.out) Try.underlying28 rfl (by kernel_rfl)) rfl ?_
    exact ⟨_, by rw [HE2.out.1]; rfl, by rw [HE2.out.2]; exact ⟨_, rfl, HO9.out⟩, HB9.out⟩

set_option maxRecDepth 100000 in
set_option maxHeartbeats 4000000 in
theorem lHold_any (A : Option Addr) (n k : Nat) (l : List Chn) (id hold m : Int) (w : World) (h : Sl lay_Channel w (· < w.heap.size) A n k l) (hh : (Lit.int .u64 hold).wf = true) (hm : (Lit.int .u64 m).wf = true) :
    Calls Try.prog 26 #[.slice A n k, .int .u64 id, .int .u64 hold, .int .u64 m] w fun e w' => ∃ v, e = .returned (.tuple #[v, .int .i64 (lhoE l id hold m)]) ∧ OwnL lay_Channel w' w.heap.size (some w.heap.size) 28 v (lhoL l id hold m) ∧ Below w.heap.size w w' := by
  have HWL := hid (sl_chns h)
  have hb0 : Below w.heap.size w (((w.alloc (Obj.cells #[.slice A n k] 22)).alloc (Obj.cells #[.int .u64 hold] 24)).alloc (Obj.cells #[.int .u64 m] 24)) := bel_alloc (bel_alloc (bel_alloc (Below.refl _ _) _) _) _
  have hP1 : (((w.alloc (Obj.cells #[.slice A n k] 22)).alloc (Obj.cells #[.int .u64 hold] 24)).alloc (Obj.cells #[.int .u64 m] 24)).heap[w.heap.size]? = some (.cells #[.slice A n k] 22 (0, 0)) := (heap_alloc_old _ _ (by simp <;> omega)).trans (heap_alloc2_old _ _ _)
  have hP2 : (((w.alloc (Obj.cells #[.slice A n k] 22)).alloc (Obj.cells #[.int .u64 hold] 24)).alloc (Obj.cells #[.int .u64 m] 24)).heap[w.heap.size + 1]? = some (.cells #[.int .u64 hold] 24 (0, 0)) := (heap_alloc_old _ _ (by simp)).trans (heap_alloc2_new _ _ _)
  have hP3 : (((w.alloc (Obj.cells #[.slice A n k] 22)).alloc (Obj.cells #[.int .u64 hold] 24)).alloc (Obj.cells #[.int .u64 m] 24)).heap[w.heap.size + 1 + 1]? = some (.cells #[.int .u64 m] 24 (0, 0)) := by
    have := heap_alloc2_new (w.alloc (Obj.cells #[.slice A n k] 22)) (Obj.cells #[.int .u64 hold] 24) (Obj.cells #[.int .u64 m] 24)
    simpa using this
  go_enter Try.func26, Try.ntmps26
  go_upto_region 1 with (fail)
  generalize ((w.alloc (Obj.cells #[.slice A n k] 22)).alloc (Obj.cells #[.int .u64 hold] 24)).alloc (Obj.cells #[.int .u64 m] 24) = W0 at *
  have HX := hid (change3_any 44 (.pointer (some ⟨w.heap.size, 0, none⟩)) (.pointer (some ⟨w.heap.size + 1, 0, none⟩)) (.pointer (some ⟨w.heap.size + 1 + 1, 0, none⟩)) (fun args w => enter_any Try.func44 (by kernel_rfl) (by rfl) args w) w.heap.size
    (fun W => W.heap[w.heap.size]? = some (.cells #[.slice A n k] 22 (0, 0)) ∧ W.heap[w.heap.size + 1]? = some (.cells #[.int .u64 hold] 24 (0, 0)) ∧ W.heap[w.heap.size + 1 + 1]? = some (.cells #[.int .u64 m] 24 (0, 0))) (fun _ => True) (fun W W' hc hb => ⟨one_call hc.1 hb, one_call hc.2.1 hb, one_call hc.2.2 hb⟩) (fun _ _ _ _ => trivial) (lhE l hold m) (hdC l hold m) A n k l id W0 (h.keep fun p hp => hb0.cell hp) hb0.size ⟨hP1, hP2, hP3⟩
    (fun hq s W hbW hc r => (hold1_any s (gtC l id) hold m A n k l w.heap.size (w.heap.size + 1) (w.heap.size + 1 + 1) W (lay_Channel.wide r fun b hb => Nat.lt_of_lt_of_le hb (Nat.le_trans hb0.size hbW.size)) ((h.keep fun p hp => (hb0.trans hbW).cell hp).wide fun b hb => Nat.lt_of_lt_of_le hb (hb0.trans hbW).size) hh hm (gt_is hq).1 hc.1 hc.2.1 hc.2.2).mono (by
      rintro e w' ⟨v, rfl, ho, hb⟩
      have hgw := gt_wfL HWL.out hq
      obtain ⟨t, rfl, hr⟩ := ho.rep (B := w.heap.size) (by
        unfold hdC
        by_cases q : (whereF l hold).isSome = true
        · rw [if_pos q]; exact zero_wf
        · rw [if_neg q]; exact ho_wf hgw.1 (bounds_u64 hm).1) (hb0.trans hbW).size
      exact ⟨t, rfl, hr, trivial, hb.mono (hb0.trans hbW).size⟩))
    (fun hq he => by
      by_cases q : (whereF l hold).isSome = true
      · have : lhE l hold m (gtC l id) = 6 := if_pos q
        rw [this] at he; cases he
      · have e : lhE l hold m (gtC l id) = hoE (gtC l id) hold m := if_neg q
        rw [e] at he
        show (hdC l hold m (gtC l id)).Id = id
        unfold hdC
        rw [if_neg q, (ho_is he).2.2.2.2.2.2.2.2.2]
        exact (gt_is hq).2.2.2.1))
  have HDD := hid (one_d (l := l) (id := id) (e := lhE l hold m) (d := hdC l hold m) (d2 := fun c => hoC c hold m) (fun he => by
    by_cases q : (whereF l hold).isSome = true
    · have : lhE l hold m (gtC l id) = 6 := if_pos q
      rw [this] at he; cases he
    · exact if_neg q))
  have y1 := one_cell hP1
  have f1 := one_free hP1
  clear hP1 hP2 hP3
  go_wp2_with fail
  with_reducible refine HX.out.mono ?_
  rintro e w1 ⟨v, rfl, ho, -, hb⟩
  rw [HDD.out] at ho
  have HO := hid ho
  have HB := hid (hb0.trans hb)
  clear ho
  go_wp2
  go_ret2
  exact ⟨_, rfl, HO.out, HB.out⟩

end Go.Proofs.Ytpkfejfdbjoehaa
