/-
  Package ledger: End.
  Package ledger: Hold.
-/
import Derived.Deep.QuietTactic
import Derived.Test.YtanlpcndbfmkiaaPack1
import Derived.Test.YtanlpcndbfmkiaaPack2
import Derived.Test.YtanlpcndbfmkiaaPack3
import Derived.Test.YtanlpcndbfmkiaaPack4
import Derived.Test.YtanlpcndbfmkiaaPack5
import Derived.Test.YtanlpcndbfmkiaaPack6
import Derived.Test.YtanlpcndbfmkiaaPack7
import Derived.Test.YtanlpcndbfmkiaaPack8
import Derived.Test.YtanlpcndbfmkiaaPack9
import Derived.Test.YtanlpcndbfmkiaaPack10
import Derived.Test.YtanlpcndbfmkiaaPack11
import Derived.Test.YtanlpcndbfmkiaaPack12
import Derived.Test.YtanlpcndbfmkiaaPack13
import Derived.Test.YtanlpcndbfmkiaaPack14
import Derived.Test.YtanlpcndbfmkiaaPack15
import Derived.Test.YtanlpcndbfmkiaaPack16
import Derived.Test.YtanlpcndbfmkiaaPack17
import Derived.Test.YtanlpcndbfmkiaaPack18
import Derived.Test.YtanlpcndbfmkiaaPack19
import Derived.Test.YtanlpcndbfmkiaaPack20
import Derived.Test.YtanlpcndbfmkiaaPack21
import Derived.Test.YtanlpcndbfmkiaaPack22
import Derived.Test.YtanlpcndbfmkiaaPack23
import Derived.Test.YtanlpcndbfmkiaaPack24
import Derived.Test.YtanlpcndbfmkiaaPack25
import Derived.Test.YtanlpcndbfmkiaaPack26
import Derived.Test.YtanlpcndbfmkiaaPack27
import Derived.Test.YtanlpcndbfmkiaaPack28
import Derived.Test.YtanlpcndbfmkiaaPack29
namespace Go.Proofs.Ytanlpcndbfmkiaa
open Go.RowKit Go.WalkArith

set_option maxRecDepth 100000 in
set_option maxHeartbeats 4000000 in
theorem lEnd_any (A : Option Addr) (n k : Nat) (l : List Chn) (hold : Int) (paid : Bool) (w : World) (h : Sl lay_Channel w (· < w.heap.size) A n k l) (hh : (Lit.int .u64 hold).wf = true) :
    Calls Try.prog 20 #[.slice A n k, .int .u64 hold, .bool paid] w fun e w' => ∃ v, e = .returned (.tuple #[v, .int .u64 (enN l hold), .int .i64 (whE l hold)]) ∧ OwnL lay_Channel w' w.heap.size (some w.heap.size) 26 v (enL l hold paid) ∧ Below w.heap.size w w' := by
  have HWL := hid (sl_chns h)
  have hb0 := bel_alloc (Below.refl w.heap.size w) (Obj.cells #[.int .u64 hold] 23)
  have hP : (w.alloc (Obj.cells #[.int .u64 hold] 23)).heap[w.heap.size]? = some (.cells #[.int .u64 hold] 23 (0, 0)) := heap_alloc_new w _
  go_enter Try.func20, Try.ntmps20
  go_upto_region 1 with (fail)
  generalize w.alloc (Obj.cells #[.int .u64 hold] 23) = W0 at *
  have p0 := one_cell hP
  go_wp2_with fail
  with_reducible refine (lWhere_any A n k l hold W0 (Sl.call h hb0) hh).mono ?_
  obtain ⟨xv, hxv⟩ : ∃ z, whV l hold = z := ⟨_, rfl⟩
  rw [hxv]
  have HXV := hid hxv
  clear hxv
  rintro e w1 ⟨rfl, hb1⟩
  have hP1 := one_call hP hb1
  have HB1 := bel_call hb0 hb1
  clear p0 hP hb0 hb1
  by_cases hq : whE l hold = 0
  rotate_left
  · have HE := hid (show enN l hold = 0 ∧ enL l hold paid = [] from ⟨if_neg hq, if_neg hq⟩)
    have d2 : (whE l hold == 0) = false := by simpa using hq
    have d3 : (whE l hold != 0) = true := by simpa using hq
    clear hq
    obtain ⟨x, hx⟩ : ∃ x, whE l hold = x := ⟨_, rfl⟩
    rw [hx] at d2 d3 ⊢
    have HX := hid hx
    clear hx
    go_wp2
    go_ret3
    exact ⟨_, by rw [HE.out.1, HX.out]; rfl, by rw [HE.out.2]; exact OwnL.nil _ _ _ _ _, HB1⟩
  have HQ := hid hq
  obtain ⟨g, c, hc, -, hv, hgc, hwt⟩ := wh_is hq
  rw [HXV.out] at hv hgc
  subst hv
  have HC := hid (show c ∈ l ∧ gtE l c.Id = 0 ∧ gtC l c.Id = c ∧ wtE c hold = 0 from ⟨hc, (gt_of g hc).1, hgc, hwt⟩)
  have HW := hid (HWL.out c hc)
  have HEN := hid (show enN l hold = wtN c hold from by unfold enN; rw [if_pos hq, HXV.out, hgc])
  rw [hq]
  clear hq g hc hgc hwt
  have hsf : ∀ (a : Addr) (K : Nat) (m : Mode) (W : World), (store a (.func (.func K) #[] #[]) m).run Try.prog W = stored Try.prog W a (.func (.func K) #[] #[]) m := fun a K m W => run_store Try.prog W a _ m rfl
  cases paid
  · skip
    have hb5 : Below w1.heap.size w1 ((w1.alloc (Obj.cells #[.func (.func 57) #[] #[]] 74)).alloc (Obj.cells #[.int .u64 0] 23)) := bel_alloc (bel_alloc (Below.refl _ _) _) _
    have hQ1 : ((w1.alloc (Obj.cells #[.func (.func 57) #[] #[]] 74)).alloc (Obj.cells #[.int .u64 0] 23)).heap[w1.heap.size]? = some (.cells #[.func (.func 57) #[] #[]] 74 (0, 0)) := heap_alloc2_old _ _ _
    have hQ2 : ((w1.alloc (Obj.cells #[.func (.func 57) #[] #[]] 74)).alloc (Obj.cells #[.int .u64 0] 23)).heap[w1.heap.size + 1]? = some (.cells #[.int .u64 0] 23 (0, 0)) := alloc2_new _ _ _
    have hQ3 := one_call hP1 hb5
    go_upto_region 8 with (fail)
    generalize (w1.alloc (Obj.cells #[.func (.func 57) #[] #[]] 74)).alloc (Obj.cells #[.int .u64 0] 23) = W5 at *
    have HB5 := bel_call HB1 hb5
    have HX := hid (change3_any 59 (.pointer (some ⟨w1.heap.size, 0, none⟩)) (.pointer (some ⟨w.heap.size, 0, none⟩)) (.pointer (some ⟨w1.heap.size + 1, 0, none⟩)) (fun args w => enter_any Try.func59 (by kernel_rfl) (by rfl) args w) w.heap.size
      (fun W => W.heap[w1.heap.size]? = some (.cells #[.func (.func 57) #[] #[]] 74 (0, 0)) ∧ W.heap[w.heap.size]? = some (.cells #[.int .u64 hold] 23 (0, 0)) ∧ W.heap[w1.heap.size + 1]? = some (.cells #[.int .u64 0] 23 (0, 0))) (fun W => W.heap[w1.heap.size + 1]? = some (.cells #[.int .u64 (wtN c hold)] 23 (0, 0))) (fun W W' hc hb => ⟨one_call hc.1 hb, one_call hc.2.1 hb, one_call hc.2.2 hb⟩) (fun W W' hc hb => one_call hc hb) (fun c => wtE c hold) (fun c => faC c hold) A n k l c.Id W5 (h.keep fun p hp => HB5.cell hp) HB5.size ⟨hQ1, hQ3, hQ2⟩
      (fun hq s W hbW hc r => by
        rw [HC.out.2.2.1] at r ⊢
        exact (endF1_any s c hold 0 w1.heap.size w.heap.size (w1.heap.size + 1) w.heap.size W (lay_Channel.wide r fun b hb => Nat.lt_of_lt_of_le hb (HB5.trans hbW).size) (Nat.le_trans HB1.size (Nat.le_succ _)) (HB5.trans hbW).size hc.1 hc.2.1 hc.2.2).mono (by
          rintro e w' ⟨v, rfl, ho, hn, hb⟩
          obtain ⟨t, rfl, hr⟩ := ho.rep (B := w.heap.size) (fa_wf HW.out.1 HW.out.2) (HB5.trans hbW).size
          exact ⟨t, rfl, hr, hn, hb⟩))
      (fun hq he => by
        rw [HC.out.2.2.1]
        show (faC c hold).Id = c.Id
        rw [(fa_is HW.out.1 HW.out.2 HC.out.2.2.2).1]))
    have HRES := hid (show oneE l c.Id (fun c => wtE c hold) = 0 ∧ oneL l c.Id (fun c => wtE c hold) (fun c => faC c hold) = enL l hold false from by
      have e : oneE l c.Id (fun c => wtE c hold) = 0 := by
        unfold oneE
        rw [if_neg (by rw [HC.out.2.1]; simp), HC.out.2.2.1]
        exact HC.out.2.2.2
      refine ⟨e, ?_⟩
      unfold oneL enL
      rw [if_pos e, if_pos HQ.out, HXV.out]
      rfl)
    clear hQ1 hQ2 hQ3 hb5
    go_wp2_with fail
    with_reducible refine HX.out.mono ?_
    rw [HRES.out.1, HRES.out.2]
    rintro e w6 ⟨v, rfl, ho, hn, hb6⟩
    have hn6 := hn HC.out.2.1
    have y6 := one_cell hn6
    have HO := hid ho
    have HB6 := hid (HB5.trans hb6)
    clear hn hn6 ho hb6 HB5
    go_wp2_with fail
    go_quiet (fail)
    go_wp2
    go_ret3
    exact ⟨_, by rw [HEN.out, HQ.out]; rfl, by first | exact HO.out.drewN _ | exact HO.out.keep (bel_drewN (Below.refl _ _) _), bel_drewN HB6.out _⟩
  · skip
    have hb5 : Below w1.heap.size w1 ((w1.alloc (Obj.cells #[.func (.func 58) #[] #[]] 74)).alloc (Obj.cells #[.int .u64 0] 23)) := bel_alloc (bel_alloc (Below.refl _ _) _) _
    have hQ1 : ((w1.alloc (Obj.cells #[.func (.func 58) #[] #[]] 74)).alloc (Obj.cells #[.int .u64 0] 23)).heap[w1.heap.size]? = some (.cells #[.func (.func 58) #[] #[]] 74 (0, 0)) := heap_alloc2_old _ _ _
    have hQ2 : ((w1.alloc (Obj.cells #[.func (.func 58) #[] #[]] 74)).alloc (Obj.cells #[.int .u64 0] 23)).heap[w1.heap.size + 1]? = some (.cells #[.int .u64 0] 23 (0, 0)) := alloc2_new _ _ _
    have hQ3 := one_call hP1 hb5
    go_upto_region 8 with (fail)
    generalize (w1.alloc (Obj.cells #[.func (.func 58) #[] #[]] 74)).alloc (Obj.cells #[.int .u64 0] 23) = W5 at *
    have HB5 := bel_call HB1 hb5
    have HX := hid (change3_any 59 (.pointer (some ⟨w1.heap.size, 0, none⟩)) (.pointer (some ⟨w.heap.size, 0, none⟩)) (.pointer (some ⟨w1.heap.size + 1, 0, none⟩)) (fun args w => enter_any Try.func59 (by kernel_rfl) (by rfl) args w) w.heap.size
      (fun W => W.heap[w1.heap.size]? = some (.cells #[.func (.func 58) #[] #[]] 74 (0, 0)) ∧ W.heap[w.heap.size]? = some (.cells #[.int .u64 hold] 23 (0, 0)) ∧ W.heap[w1.heap.size + 1]? = some (.cells #[.int .u64 0] 23 (0, 0))) (fun W => W.heap[w1.heap.size + 1]? = some (.cells #[.int .u64 (wtN c hold)] 23 (0, 0))) (fun W W' hc hb => ⟨one_call hc.1 hb, one_call hc.2.1 hb, one_call hc.2.2 hb⟩) (fun W W' hc hb => one_call hc hb) (fun c => wtE c hold) (fun c => seC c hold) A n k l c.Id W5 (h.keep fun p hp => HB5.cell hp) HB5.size ⟨hQ1, hQ3, hQ2⟩
      (fun hq s W hbW hc r => by
        rw [HC.out.2.2.1] at r ⊢
        exact (endS1_any s c hold 0 w1.heap.size w.heap.size (w1.heap.size + 1) w.heap.size W (lay_Channel.wide r fun b hb => Nat.lt_of_lt_of_le hb (HB5.trans hbW).size) (Nat.le_trans HB1.size (Nat.le_succ _)) (HB5.trans hbW).size hc.1 hc.2.1 hc.2.2).mono (by
          rintro e w' ⟨v, rfl, ho, hn, hb⟩
          obtain ⟨t, rfl, hr⟩ := ho.rep (B := w.heap.size) (se_wf HW.out.1 HW.out.2) (HB5.trans hbW).size
          exact ⟨t, rfl, hr, hn, hb⟩))
      (fun hq he => by
        rw [HC.out.2.2.1]
        show (seC c hold).Id = c.Id
        rw [(se_is HW.out.1 HW.out.2 HC.out.2.2.2).1]))
    have HRES := hid (show oneE l c.Id (fun c => wtE c hold) = 0 ∧ oneL l c.Id (fun c => wtE c hold) (fun c => seC c hold) = enL l hold true from by
      have e : oneE l c.Id (fun c => wtE c hold) = 0 := by
        unfold oneE
        rw [if_neg (by rw [HC.out.2.1]; simp), HC.out.2.2.1]
        exact HC.out.2.2.2
      refine ⟨e, ?_⟩
      unfold oneL enL
      rw [if_pos e, if_pos HQ.out, HXV.out]
      rfl)
    clear hQ1 hQ2 hQ3 hb5
    go_wp2_with fail
    with_reducible refine HX.out.mono ?_
    rw [HRES.out.1, HRES.out.2]
    rintro e w6 ⟨v, rfl, ho, hn, hb6⟩
    have hn6 := hn HC.out.2.1
    have y6 := one_cell hn6
    have HO := hid ho
    have HB6 := hid (HB5.trans hb6)
    clear hn hn6 ho hb6 HB5
    go_wp2_with fail
    go_quiet (fail)
    go_wp2
    go_ret3
    exact ⟨_, by rw [HEN.out, HQ.out]; rfl, by first | exact HO.out.drewN _ | exact HO.out.keep (bel_drewN (Below.refl _ _) _), bel_drewN HB6.out _⟩
end Go.Proofs.Ytanlpcndbfmkiaa
namespace Go.Proofs.Ytanlpcndbfmkiaa
open Go.RowKit Go.WalkArith

/-- What holding leaves, where it may be that another channel has that hold. -/
noncomputable def hdC (l : List Chn) (hold m : Int) (c : Chn) : Chn := if (whereF l hold).isSome = true then zeroCh else hoC c hold m
theorem hold_two {l : List Chn} {c : Chn} {hold m : Int} (g : LgOk l) : (whE l hold = 0 ∧ lhE l hold m c = 6 ∧ (hdC l hold m c) = zeroCh) ∨ (whE l hold = 5 ∧ lhE l hold m c = hoE c hold m ∧ (hdC l hold m c) = hoC c hold m) := by
  unfold whE lhE hdC
  rw [if_pos g]
  cases hf : whereF l hold with
  | some y => exact .inl ⟨rfl, if_pos rfl, if_pos rfl⟩
  | none => exact .inr ⟨rfl, if_neg (by simp), if_neg (by simp)⟩

set_option maxRecDepth 100000 in
set_option maxHeartbeats 400000 in
theorem hold1_any (s : Array Value) (c : Chn) (hold m : Int) (Al : Option Addr) (nl kl : Nat) (l : List Chn) (pl ph pn : Nat) (w : World) (r : lay_Channel.rep w (· < w.heap.size) c s.toList) (hl : Sl lay_Channel w (· < w.heap.size) Al nl kl l) (hh : (Lit.int .u64 hold).wf = true) (hm : (Lit.int .u64 m).wf = true) (g : LgOk l)
    (hpl : w.heap[pl]? = some (.cells #[.slice Al nl kl] 22 (0, 0))) (hph : w.heap[ph]? = some (.cells #[.int .u64 hold] 23 (0, 0))) (hpn : w.heap[pn]? = some (.cells #[.int .u64 m] 23 (0, 0))) :
    Calls Try.prog 53 #[.agg s, .pointer (some ⟨pl, 0, none⟩), .pointer (some ⟨ph, 0, none⟩), .pointer (some ⟨pn, 0, none⟩)] w fun e w' => ∃ v, e = .returned (.tuple #[v, .int .i64 (lhE l hold m c)]) ∧ OwnC w' w.heap.size v (hdC l hold m c) ∧ Below w.heap.size w w' := by
  obtain ⟨A, n, k, rfl, hw, hs⟩ := agg_Channel r
  have HWL := hid (And.intro hw (sl_hlds hs))
  have hb0 : Below w.heap.size w ((w.alloc (Obj.cells #[.int .u64 c.Id, .int .u64 c.Local, .int .u64 c.Remote, .int .u64 c.Reserve, .int .u64 c.Most, .slice A n k, .bool c.Open] 26)).alloc (Obj.cells #[.int .u64 0, .int .u64 0, .int .u64 0, .int .u64 0, .int .u64 0, .slice none 0 0, .bool false] 26)) := bel_alloc (bel_alloc (Below.refl _ _) _) _
  have BC : BoxC ((w.alloc (Obj.cells #[.int .u64 c.Id, .int .u64 c.Local, .int .u64 c.Remote, .int .u64 c.Reserve, .int .u64 c.Most, .slice A n k, .bool c.Open] 26)).alloc (Obj.cells #[.int .u64 0, .int .u64 0, .int .u64 0, .int .u64 0, .int .u64 0, .slice none 0 0, .bool false] 26)) w.heap.size c A n k := heap_alloc2_old _ _ _
  have BR : BoxC ((w.alloc (Obj.cells #[.int .u64 c.Id, .int .u64 c.Local, .int .u64 c.Remote, .int .u64 c.Reserve, .int .u64 c.Most, .slice A n k, .bool c.Open] 26)).alloc (Obj.cells #[.int .u64 0, .int .u64 0, .int .u64 0, .int .u64 0, .int .u64 0, .slice none 0 0, .bool false] 26)) (w.heap.size + 1) zeroCh none 0 0 := alloc2_new _ _ _
  have HZ := hid (show ((w.alloc (Obj.cells #[.int .u64 c.Id, .int .u64 c.Local, .int .u64 c.Remote, .int .u64 c.Reserve, .int .u64 c.Most, .slice A n k, .bool c.Open] 26)).alloc (Obj.cells #[.int .u64 0, .int .u64 0, .int .u64 0, .int .u64 0, .int .u64 0, .slice none 0 0, .bool false] 26)).heap.size = w.heap.size + 2 from by simp)
  have S0 := Sl.call hs hb0
  clear r hs
  have c1 := one_call hpl hb0
  have c2 := one_call hph hb0
  have c3 := one_call hpn hb0
  have SL0 := Sl.call hl hb0
  go_enter Try.func53, Try.ntmps53
  go_upto_region 1 with (fail)
  generalize (w.alloc (Obj.cells #[.int .u64 c.Id, .int .u64 c.Local, .int .u64 c.Remote, .int .u64 c.Reserve, .int .u64 c.Most, .slice A n k, .bool c.Open] 26)).alloc (Obj.cells #[.int .u64 0, .int .u64 0, .int .u64 0, .int .u64 0, .int .u64 0, .slice none 0 0, .bool false] 26) = W0 at *
  have p1 := one_cell c1
  have p2 := one_cell c2
  go_wp2_with fail
  with_reducible refine (lWhere_any Al nl kl l hold W0 SL0 hh).mono ?_
  rintro e w1 ⟨rfl, hb1⟩
  replace BR := BR.call hb1
  replace BC := BC.call hb1
  have HB1 := bel_call hb0 hb1
  have S1 := Sl.call S0 hb1
  have k2 := one_cell (one_call c2 hb1)
  have k3 := one_cell (one_call c3 hb1)
  have hz1 := hb1.size
  rw [HZ.out] at hz1
  clear p1 p2 c1 c2 c3 hb1
  have HG := hid g
  clear g hl hpl hph hpn SL0 S0
  obtain ⟨wv, hwv⟩ : ∃ z, whE l hold = z := ⟨_, rfl⟩
  obtain ⟨xv, hxv⟩ : ∃ z, whV l hold = z := ⟨_, rfl⟩
  rw [hwv, hxv]
  clear hxv
  rcases hold_two (l := l) (c := c) (hold := hold) (m := m) HG.out with ⟨e1, e2, e3⟩ | ⟨e1, e2, e3⟩
  · have HE2 := hid (And.intro e2 e3)
    obtain rfl : wv = 0 := by rw [← hwv, e1]
    clear e1 e2 e3 hwv
    have B9 := hid (BR.set zeroCh none 0 0)
    have HB9 := hid (Below.setBox HB1 (g := w.heap.size + 1) (Nat.le_succ _) zeroCh none 0 0)
    obtain ⟨z0, z1, z2, z3, z4, z5, z6⟩ := BR.all
    have f0 := BR.f 0
    have f1 := BR.f 1
    have f2 := BR.f 2
    have f3 := BR.f 3
    have f4 := BR.f 4
    have f5 := BR.f 5
    have f6 := BR.f 6
    clear BR BC HB1 S1 k2 k3 hz1
    go_wp2
    refine bodyPost_ret_by (results_ct rfl _ _ (w.heap.size + 1) 0 rfl [.int .u64 0, .int .u64 0, .int .u64 0, .int .u64 0, .int .u64 0, .slice none 0 0, .bool false] _ (range7 B9.out) Try.underlying26 rfl (by kernel_rfl)) rfl ?_
    exact ⟨_, by rw [HE2.out.1]; rfl, by rw [HE2.out.2]; exact ⟨_, rfl, OwnL.nil _ _ _ _ _⟩, HB9.out⟩
  · have HE2 := hid (And.intro e2 e3)
    obtain rfl : wv = 5 := by rw [← hwv, e1]
    clear e1 e2 e3 hwv
    obtain ⟨p0, p1, p2, p3, p4, p5, p6⟩ := BC.all
    go_wp2_with fail
    with_reducible refine (cHold_any _ c hold m w1 (chan_in hw S1 (Below.refl _ _)) hh hm).mono ?_
    rintro e w2 ⟨v2, rfl, ⟨u, rfl, ho⟩, hb2⟩
    obtain ⟨Au, nu, cu, rfl, hsu⟩ := ho.read
    replace BR := BR.call hb2
    have HB2 := bel_call HB1 hb2
    have B9 := hid (BR.set (hoC c hold m) Au nu cu)
    have HB9 := hid (Below.setBox HB2 (g := w.heap.size + 1) (Nat.le_succ _) (hoC c hold m) Au nu cu)
    have HO9 := hid ((OwnL.setBox ho (g := w.heap.size + 1) (by omega) (hoC c hold m) Au nu cu).lows (base' := w.heap.size) (lo' := w.heap.size) (by omega) (by omega))
    obtain ⟨z0, z1, z2, z3, z4, z5, z6⟩ := BR.all
    have f0 := BR.f 0
    have f1 := BR.f 1
    have f2 := BR.f 2
    have f3 := BR.f 3
    have f4 := BR.f 4
    have f5 := BR.f 5
    have f6 := BR.f 6
    clear p0 p1 p2 p3 p4 p5 p6 hsu
    go_wp2
    refine bodyPost_ret_by (results_ct rfl _ _ (w.heap.size + 1) 0 rfl [.int .u64 (hoC c hold m).Id, .int .u64 (hoC c hold m).Local, .int .u64 (hoC c hold m).Remote, .int .u64 (hoC c hold m).Reserve, .int .u64 (hoC c hold m).Most, .slice Au nu cu, .bool (hoC c hold m).Open] _ (range7 B9.out) Try.underlying26 rfl (by kernel_rfl)) rfl ?_
    exact ⟨_, by rw [HE2.out.1]; rfl, by rw [HE2.out.2]; exact ⟨_, rfl, HO9.out⟩, HB9.out⟩

set_option maxRecDepth 100000 in
set_option maxHeartbeats 4000000 in
theorem lHold_any (A : Option Addr) (n k : Nat) (l : List Chn) (id hold m : Int) (w : World) (h : Sl lay_Channel w (· < w.heap.size) A n k l) (hh : (Lit.int .u64 hold).wf = true) (hm : (Lit.int .u64 m).wf = true) :
    Calls Try.prog 18 #[.slice A n k, .int .u64 id, .int .u64 hold, .int .u64 m] w fun e w' => ∃ v, e = .returned (.tuple #[v, .int .i64 (lhoE l id hold m)]) ∧ OwnL lay_Channel w' w.heap.size (some w.heap.size) 26 v (lhoL l id hold m) ∧ Below w.heap.size w w' := by
  have HWL := hid (sl_chns h)
  have hb0 : Below w.heap.size w (((w.alloc (Obj.cells #[.slice A n k] 22)).alloc (Obj.cells #[.int .u64 hold] 23)).alloc (Obj.cells #[.int .u64 m] 23)) := bel_alloc (bel_alloc (bel_alloc (Below.refl _ _) _) _) _
  have hP1 : (((w.alloc (Obj.cells #[.slice A n k] 22)).alloc (Obj.cells #[.int .u64 hold] 23)).alloc (Obj.cells #[.int .u64 m] 23)).heap[w.heap.size]? = some (.cells #[.slice A n k] 22 (0, 0)) := (heap_alloc_old _ _ (by simp <;> omega)).trans (heap_alloc2_old _ _ _)
  have hP2 : (((w.alloc (Obj.cells #[.slice A n k] 22)).alloc (Obj.cells #[.int .u64 hold] 23)).alloc (Obj.cells #[.int .u64 m] 23)).heap[w.heap.size + 1]? = some (.cells #[.int .u64 hold] 23 (0, 0)) := (heap_alloc_old _ _ (by simp)).trans (heap_alloc2_new _ _ _)
  have hP3 : (((w.alloc (Obj.cells #[.slice A n k] 22)).alloc (Obj.cells #[.int .u64 hold] 23)).alloc (Obj.cells #[.int .u64 m] 23)).heap[w.heap.size + 1 + 1]? = some (.cells #[.int .u64 m] 23 (0, 0)) := by
    have := heap_alloc2_new (w.alloc (Obj.cells #[.slice A n k] 22)) (Obj.cells #[.int .u64 hold] 23) (Obj.cells #[.int .u64 m] 23)
    simpa using this
  go_enter Try.func18, Try.ntmps18
  go_upto_region 1 with (fail)
  generalize ((w.alloc (Obj.cells #[.slice A n k] 22)).alloc (Obj.cells #[.int .u64 hold] 23)).alloc (Obj.cells #[.int .u64 m] 23) = W0 at *
  have HX := hid (change3_any 53 (.pointer (some ⟨w.heap.size, 0, none⟩)) (.pointer (some ⟨w.heap.size + 1, 0, none⟩)) (.pointer (some ⟨w.heap.size + 1 + 1, 0, none⟩)) (fun args w => enter_any Try.func53 (by kernel_rfl) (by rfl) args w) w.heap.size
    (fun W => W.heap[w.heap.size]? = some (.cells #[.slice A n k] 22 (0, 0)) ∧ W.heap[w.heap.size + 1]? = some (.cells #[.int .u64 hold] 23 (0, 0)) ∧ W.heap[w.heap.size + 1 + 1]? = some (.cells #[.int .u64 m] 23 (0, 0))) (fun _ => True) (fun W W' hc hb => ⟨one_call hc.1 hb, one_call hc.2.1 hb, one_call hc.2.2 hb⟩) (fun _ _ _ _ => trivial) (lhE l hold m) (hdC l hold m) A n k l id W0 (h.keep fun p hp => hb0.cell hp) hb0.size ⟨hP1, hP2, hP3⟩
    (fun hq s W hbW hc r => (hold1_any s (gtC l id) hold m A n k l w.heap.size (w.heap.size + 1) (w.heap.size + 1 + 1) W (lay_Channel.wide r fun b hb => Nat.lt_of_lt_of_le hb (Nat.le_trans hb0.size hbW.size)) ((h.keep fun p hp => (hb0.trans hbW).cell hp).wide fun b hb => Nat.lt_of_lt_of_le hb (hb0.trans hbW).size) hh hm (gt_is hq).1 hc.1 hc.2.1 hc.2.2).mono (by
      rintro e w' ⟨v, rfl, ho, hb⟩
      have hgw := gt_wfL HWL.out hq
      obtain ⟨t, rfl, hr⟩ := ho.rep (B := w.heap.size) (by
        unfold hdC
        by_cases q : (whereF l hold).isSome = true
        · rw [if_pos q]; exact zero_wf
        · rw [if_neg q]; exact ho_wf hgw.1 (bounds_u64 hm).1) (hb0.trans hbW).size
      exact ⟨t, rfl, hr, trivial, hb.mono (hb0.trans hbW).size⟩))
    (fun hq he => by
      by_cases q : (whereF l hold).isSome = true
      · have : lhE l hold m (gtC l id) = 6 := if_pos q
        rw [this] at he; cases he
      · have e : lhE l hold m (gtC l id) = hoE (gtC l id) hold m := if_neg q
        rw [e] at he
        show (hdC l hold m (gtC l id)).Id = id
        unfold hdC
        rw [if_neg q, (ho_is he).2.2.2.2.2.2.2.2.2]
        exact (gt_is hq).2.2.2.1))
  have HDD := hid (one_d (l := l) (id := id) (e := lhE l hold m) (d := hdC l hold m) (d2 := fun c => hoC c hold m) (fun he => by
    by_cases q : (whereF l hold).isSome = true
    · have : lhE l hold m (gtC l id) = 6 := if_pos q
      rw [this] at he; cases he
    · exact if_neg q))
  have y1 := one_cell hP1
  have f1 := one_free hP1
  clear hP1 hP2 hP3
  go_wp2_with fail
  with_reducible refine HX.out.mono ?_
  rintro e w1 ⟨v, rfl, ho, -, hb⟩
  rw [HDD.out] at ho
  have HO := hid ho
  have HB := hid (hb0.trans hb)
  clear ho
  go_wp2
  go_ret2
  exact ⟨_, rfl, HO.out, HB.out⟩

end Go.Proofs.Ytanlpcndbfmkiaa
