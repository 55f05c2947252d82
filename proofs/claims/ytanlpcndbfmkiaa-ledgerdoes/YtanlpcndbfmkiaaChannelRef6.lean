/-
  The contract of the document's Hold of layer 9.
-/
import Derived.Test.YtanlpcndbfmkiaaChannelRef5
namespace Go.Proofs.Ytanlpcndbfmkiaa
open Go.RowKit Go.WalkArith

set_option maxRecDepth 100000 in
set_option maxHeartbeats 8000000 in
theorem refHold9_any (s : Array Value) (c : Chn) (id m : Int) (w : World) (r : lay_Channel.rep w (· < w.heap.size) c s.toList) (hi : (Lit.int .u64 id).wf = true) (hm : (Lit.int .u64 m).wf = true) :
    Calls Try.prog 56 #[.agg s, .int .u64 id, .int .u64 m] w fun e w' => ∃ v, e = .returned (.tuple #[v, .int .i64 (hoE c id m)]) ∧ OwnC w' w.heap.size v (hoC c id m) ∧ Below w.heap.size w w' := by
  obtain ⟨A, n, k, rfl, hw, hs⟩ := agg_Channel r
  clear r
  have HL := hid hs.len
  have hcap := hs.cap
  unfold maxLen at hcap
  have hb0 : Below w.heap.size w ((w.alloc (Obj.cells #[.int .u64 c.Id, .int .u64 c.Local, .int .u64 c.Remote, .int .u64 c.Reserve, .int .u64 c.Most, .slice A n k, .bool c.Open] 26)).alloc (Obj.cells #[.int .u64 0, .int .u64 0, .int .u64 0, .int .u64 0, .int .u64 0, .slice none 0 0, .bool false] 26)) := bel_alloc (bel_alloc (Below.refl _ _) _) _
  have BC : BoxC ((w.alloc (Obj.cells #[.int .u64 c.Id, .int .u64 c.Local, .int .u64 c.Remote, .int .u64 c.Reserve, .int .u64 c.Most, .slice A n k, .bool c.Open] 26)).alloc (Obj.cells #[.int .u64 0, .int .u64 0, .int .u64 0, .int .u64 0, .int .u64 0, .slice none 0 0, .bool false] 26)) w.heap.size c A n k := heap_alloc2_old _ _ _
  have BR : BoxC ((w.alloc (Obj.cells #[.int .u64 c.Id, .int .u64 c.Local, .int .u64 c.Remote, .int .u64 c.Reserve, .int .u64 c.Most, .slice A n k, .bool c.Open] 26)).alloc (Obj.cells #[.int .u64 0, .int .u64 0, .int .u64 0, .int .u64 0, .int .u64 0, .slice none 0 0, .bool false] 26)) (w.heap.size + 1) zeroCh none 0 0 := alloc2_new _ _ _
  have HZ := hid (show ((w.alloc (Obj.cells #[.int .u64 c.Id, .int .u64 c.Local, .int .u64 c.Remote, .int .u64 c.Reserve, .int .u64 c.Most, .slice A n k, .bool c.Open] 26)).alloc (Obj.cells #[.int .u64 0, .int .u64 0, .int .u64 0, .int .u64 0, .int .u64 0, .slice none 0 0, .bool false] 26)).heap.size = w.heap.size + 2 from by simp)
  have S0 := Sl.call hs hb0
  go_enter Try.func56, Try.ntmps56
  go_upto_region 1 with (fail)
  generalize ((w.alloc (Obj.cells #[.int .u64 c.Id, .int .u64 c.Local, .int .u64 c.Remote, .int .u64 c.Reserve, .int .u64 c.Most, .slice A n k, .bool c.Open] 26)).alloc (Obj.cells #[.int .u64 0, .int .u64 0, .int .u64 0, .int .u64 0, .int .u64 0, .slice none 0 0, .bool false] 26)) = W0 at *
  have bm := bounds_u64 hm
  obtain ⟨p0, p1, p2, p3, p4, p5, p6⟩ := BC.all
  go_wp2_with fail
  refine (refHeld9_any _ c _ (chan_in hw S0 (Below.refl _ _))).mono ?_
  rintro e w1 ⟨rfl, hb1⟩
  have BC1 := BC.call hb1
  have BR1 := BR.call hb1
  have HB := bel_call hb0 hb1
  have HX := hb1
  clear p0 p1 p2 p3 p4 p5 p6 hb1 BC BR
  rcases ch_is (c := c) with ⟨ok, hE⟩ | ⟨ok, hE⟩
  rotate_left
  · rw [hE]
    have HE := hid (show hoE c id m = 1 ∧ hoC c id m = zeroCh from by
      have e : hoE c id m = 1 := if_neg fun h => ok h.1
      exact ⟨e, ho_no (by rw [e]; decide)⟩)
    clear hE ok
    have B9 := hid (BR1.set zeroCh none 0 0)
    have HB9 := hid (Below.setBox HB (g := w.heap.size + 1) (Nat.le_succ _) zeroCh none 0 0)
    obtain ⟨z0, z1, z2, z3, z4, z5, z6⟩ := BR1.all
    have f0 := BR1.f 0
    have f1 := BR1.f 1
    have f2 := BR1.f 2
    have f3 := BR1.f 3
    have f4 := BR1.f 4
    have f5 := BR1.f 5
    have f6 := BR1.f 6
    go_wp2
    refine bodyPost_ret_by (results_ct rfl _ _ (w.heap.size + 1) 0 rfl [.int .u64 0, .int .u64 0, .int .u64 0, .int .u64 0, .int .u64 0, .slice none 0 0, .bool false] _ (range7 B9.out) Try.underlying26 rfl (by kernel_rfl)) rfl ?_
    exact ⟨_, by rw [HE.out.1]; rfl, by rw [HE.out.2]; exact ⟨_, rfl, OwnL.nil _ _ _ _ _⟩, HB9.out⟩
  rw [hE, show heV c = heldN c from if_pos ok]
  clear hE
  by_cases g0 : m = 0
  · have d0 : (m == 0) = true := by simpa using g0
    have HE := hid (show hoE c id m = 1 ∧ hoC c id m = zeroCh from by
      have e : hoE c id m = 1 := if_neg fun h => h.2.1 g0
      exact ⟨e, ho_no (by rw [e]; decide)⟩)
    clear g0 ok
    have B9 := hid (BR1.set zeroCh none 0 0)
    have HB9 := hid (Below.setBox HB (g := w.heap.size + 1) (Nat.le_succ _) zeroCh none 0 0)
    obtain ⟨z0, z1, z2, z3, z4, z5, z6⟩ := BR1.all
    have f0 := BR1.f 0
    have f1 := BR1.f 1
    have f2 := BR1.f 2
    have f3 := BR1.f 3
    have f4 := BR1.f 4
    have f5 := BR1.f 5
    have f6 := BR1.f 6
    go_wp2
    refine bodyPost_ret_by (results_ct rfl _ _ (w.heap.size + 1) 0 rfl [.int .u64 0, .int .u64 0, .int .u64 0, .int .u64 0, .int .u64 0, .slice none 0 0, .bool false] _ (range7 B9.out) Try.underlying26 rfl (by kernel_rfl)) rfl ?_
    exact ⟨_, by rw [HE.out.1]; rfl, by rw [HE.out.2]; exact ⟨_, rfl, OwnL.nil _ _ _ _ _⟩, HB9.out⟩
  have d0 : (m == 0) = false := by simpa using g0
  have R1 := rd_one w1 m hm
  have hba := bel_alloc (Below.refl w1.heap.size w1) (Obj.cells #[.int .u64 m] 23)
  replace BC1 := BC1.call hba
  replace BR1 := BR1.call hba
  replace HB := bel_call HB hba
  replace HX := bel_call HX hba
  clear hba
  go_wp2_with fail
  generalize w1.alloc (Obj.cells #[.int .u64 m] 23) = W2 at *
  refine (rmCheck_any _ _ _ _ _ _ R1).mono ?_
  rw [chkM_one]
  rintro e w3 ⟨rfl, rfl⟩
  clear R1
  by_cases g1 : m ≤ mMax
  rotate_left
  · rw [if_neg g1]
    have HE := hid (show hoE c id m = 1 ∧ hoC c id m = zeroCh from by
      have e : hoE c id m = 1 := if_neg fun h => g1 h.2.2
      exact ⟨e, ho_no (by rw [e]; decide)⟩)
    clear g1
    have B9 := hid (BR1.set zeroCh none 0 0)
    have HB9 := hid (Below.setBox HB (g := w.heap.size + 1) (Nat.le_succ _) zeroCh none 0 0)
    obtain ⟨z0, z1, z2, z3, z4, z5, z6⟩ := BR1.all
    have f0 := BR1.f 0
    have f1 := BR1.f 1
    have f2 := BR1.f 2
    have f3 := BR1.f 3
    have f4 := BR1.f 4
    have f5 := BR1.f 5
    have f6 := BR1.f 6
    go_wp2
    refine bodyPost_ret_by (results_ct rfl _ _ (w.heap.size + 1) 0 rfl [.int .u64 0, .int .u64 0, .int .u64 0, .int .u64 0, .int .u64 0, .slice none 0 0, .bool false] _ (range7 B9.out) Try.underlying26 rfl (by kernel_rfl)) rfl ?_
    exact ⟨_, by rw [HE.out.1]; rfl, by rw [HE.out.2]; exact ⟨_, rfl, OwnL.nil _ _ _ _ _⟩, HB9.out⟩
  rw [if_pos g1]
  obtain ⟨p0, p1, p2, p3, p4, p5, p6⟩ := BC1.all
  obtain ⟨o, ho⟩ : ∃ z, c.Open = z := ⟨_, rfl⟩
  rw [ho] at p6
  have HO := hid ho
  clear ho
  cases o
  · skip
    have HE := hid (show hoE c id m = 14 ∧ hoC c id m = zeroCh from by
      have e : hoE c id m = 14 := by unfold hoE; rw [if_pos ⟨ok, g0, g1⟩, if_pos HO.out]
      exact ⟨e, ho_no (by rw [e]; decide)⟩)
    clear g1
    have B9 := hid (BR1.set zeroCh none 0 0)
    have HB9 := hid (Below.setBox HB (g := w.heap.size + 1) (Nat.le_succ _) zeroCh none 0 0)
    obtain ⟨z0, z1, z2, z3, z4, z5, z6⟩ := BR1.all
    have f0 := BR1.f 0
    have f1 := BR1.f 1
    have f2 := BR1.f 2
    have f3 := BR1.f 3
    have f4 := BR1.f 4
    have f5 := BR1.f 5
    have f6 := BR1.f 6
    go_wp2
    refine bodyPost_ret_by (results_ct rfl _ _ (w.heap.size + 1) 0 rfl [.int .u64 0, .int .u64 0, .int .u64 0, .int .u64 0, .int .u64 0, .slice none 0 0, .bool false] _ (range7 B9.out) Try.underlying26 rfl (by kernel_rfl)) rfl ?_
    exact ⟨_, by rw [HE.out.1]; rfl, by rw [HE.out.2]; exact ⟨_, rfl, OwnL.nil _ _ _ _ _⟩, HB9.out⟩
  go_upto_region 6 with (fail)
  clear p0 p1 p2 p3 p4 p5 p6
  obtain ⟨p0, p1, p2, p3, p4, p5, p6⟩ := BC1.all
  go_wp2_with fail
  refine (refFind9_any A n k c.Holds id _ (Sl.call S0 HX)).mono ?_
  rintro e w2 ⟨hx, fb, rfl, hfr, hb2⟩
  have hba := bel_alloc (Below.refl w2.heap.size w2) (Obj.cells #[.int .u64 hx.Id, .int .u64 hx.N] 41)
  have BH := BoxH.new w2 hx
  have BC3 := (BC1.call hb2).call hba
  have BR3 := (BR1.call hb2).call hba
  have HB3 := bel_call (bel_call HB hb2) hba
  have HX3 := bel_call (bel_call HX hb2) hba
  have hg2 : w.heap.size + 2 ≤ w2.heap.size := by rw [← HZ.out]; exact (bel_call HX hb2).size
  clear p0 p1 p2 p3 p4 p5 p6 hb2 hba BC1 BR1 HB HX
  go_upto_region 7 with (fail)
  generalize w2.alloc (Obj.cells #[.int .u64 hx.Id, .int .u64 hx.N] 41) = W3 at *
  generalize w2.heap.size = gh at *
  have hl64 : n ≤ 64 := by rw [← HL.out]; exact ok.2.2.1
  have hno : ¬ c.Open = false := by rw [HO.out]; decide
  rcases hfr with ⟨rfl, hF⟩ | ⟨rfl, hF⟩
  · skip
    have HE := hid (show hoE c id m = 6 ∧ hoC c id m = zeroCh from by
      have e : hoE c id m = 6 := by unfold hoE; rw [if_pos ⟨ok, g0, g1⟩, if_neg hno, if_pos (by rw [hF]; rfl)]
      exact ⟨e, ho_no (by rw [e]; decide)⟩)
    clear g1 hF ok hno
    have B9 := hid (BR3.set zeroCh none 0 0)
    have HB9 := hid (Below.setBox HB3 (g := w.heap.size + 1) (Nat.le_succ _) zeroCh none 0 0)
    obtain ⟨z0, z1, z2, z3, z4, z5, z6⟩ := BR3.all
    have f0 := BR3.f 0
    have f1 := BR3.f 1
    have f2 := BR3.f 2
    have f3 := BR3.f 3
    have f4 := BR3.f 4
    have f5 := BR3.f 5
    have f6 := BR3.f 6
    go_wp2
    refine bodyPost_ret_by (results_ct rfl _ _ (w.heap.size + 1) 0 rfl [.int .u64 0, .int .u64 0, .int .u64 0, .int .u64 0, .int .u64 0, .slice none 0 0, .bool false] _ (range7 B9.out) Try.underlying26 rfl (by kernel_rfl)) rfl ?_
    exact ⟨_, by rw [HE.out.1]; rfl, by rw [HE.out.2]; exact ⟨_, rfl, OwnL.nil _ _ _ _ _⟩, HB9.out⟩
  have hns : ¬ (holdF c.Holds id).isSome = true := by rw [hF]; decide
  obtain ⟨p0, p1, p2, p3, p4, p5, p6⟩ := BC3.all
  by_cases g2 : n = 64
  · have d2 : ((n : Int) == 64) = true := by simp; omega
    have HE := hid (show hoE c id m = 7 ∧ hoC c id m = zeroCh from by
      have e : hoE c id m = 7 := by unfold hoE; rw [if_pos ⟨ok, g0, g1⟩, if_neg hno, if_neg hns, if_pos (by rw [HL.out]; exact g2)]
      exact ⟨e, ho_no (by rw [e]; decide)⟩)
    have HG2 := hid g2
    clear g1 g2 hF ok hno hns
    have B9 := hid (BR3.set zeroCh none 0 0)
    have HB9 := hid (Below.setBox HB3 (g := w.heap.size + 1) (Nat.le_succ _) zeroCh none 0 0)
    obtain ⟨z0, z1, z2, z3, z4, z5, z6⟩ := BR3.all
    have f0 := BR3.f 0
    have f1 := BR3.f 1
    have f2 := BR3.f 2
    have f3 := BR3.f 3
    have f4 := BR3.f 4
    have f5 := BR3.f 5
    have f6 := BR3.f 6
    go_wp2
    refine bodyPost_ret_by (results_ct rfl _ _ (w.heap.size + 1) 0 rfl [.int .u64 0, .int .u64 0, .int .u64 0, .int .u64 0, .int .u64 0, .slice none 0 0, .bool false] _ (range7 B9.out) Try.underlying26 rfl (by kernel_rfl)) rfl ?_
    exact ⟨_, by rw [HE.out.1]; rfl, by rw [HE.out.2]; exact ⟨_, rfl, OwnL.nil _ _ _ _ _⟩, HB9.out⟩
  have d2 : ((n : Int) == 64) = false := by simp; omega
  have g2p : ¬ c.Holds.length = 64 := by rw [HL.out]; exact g2
  have c1 := bounds_u64 hw.loc
  have c2 := bounds_u64 hw.res
  have c3 := bounds_u64 hw.most
  have hh0 := held_nonneg (c := c) (sl_hlds hs)
  have hh1 : heldN c ≤ c.Most := ok.2.2.2.2.2.2.2.1
  by_cases g3 : c.Local < c.Reserve
  · have d3 : decide (c.Local < c.Reserve) = true := decide_eq_true g3
    have HE := hid (show hoE c id m = 9 ∧ hoC c id m = zeroCh from by
      have e : hoE c id m = 9 := by unfold hoE; rw [if_pos ⟨ok, g0, g1⟩, if_neg hno, if_neg hns, if_neg g2p, if_pos (.inl g3)]
      exact ⟨e, ho_no (by rw [e]; decide)⟩)
    clear g1 g2 g3 hF ok hno hns g2p
    have B9 := hid (BR3.set zeroCh none 0 0)
    have HB9 := hid (Below.setBox HB3 (g := w.heap.size + 1) (Nat.le_succ _) zeroCh none 0 0)
    obtain ⟨z0, z1, z2, z3, z4, z5, z6⟩ := BR3.all
    have f0 := BR3.f 0
    have f1 := BR3.f 1
    have f2 := BR3.f 2
    have f3 := BR3.f 3
    have f4 := BR3.f 4
    have f5 := BR3.f 5
    have f6 := BR3.f 6
    go_wp2
    refine bodyPost_ret_by (results_ct rfl _ _ (w.heap.size + 1) 0 rfl [.int .u64 0, .int .u64 0, .int .u64 0, .int .u64 0, .int .u64 0, .slice none 0 0, .bool false] _ (range7 B9.out) Try.underlying26 rfl (by kernel_rfl)) rfl ?_
    exact ⟨_, by rw [HE.out.1]; rfl, by rw [HE.out.2]; exact ⟨_, rfl, OwnL.nil _ _ _ _ _⟩, HB9.out⟩
  have d3 : decide (c.Local < c.Reserve) = false := decide_eq_false g3
  have w1e : IntKind.u64.wrap (c.Local - c.Reserve) = c.Local - c.Reserve := IntWalk.u64_in _ (by omega)
  by_cases g4 : c.Local - c.Reserve < m
  · have d4 : decide (c.Local - c.Reserve < m) = true := decide_eq_true g4
    have HE := hid (show hoE c id m = 9 ∧ hoC c id m = zeroCh from by
      have e : hoE c id m = 9 := by unfold hoE; rw [if_pos ⟨ok, g0, g1⟩, if_neg hno, if_neg hns, if_neg g2p, if_pos (.inr g4)]
      exact ⟨e, ho_no (by rw [e]; decide)⟩)
    clear g1 g2 g3 g4 hF ok hno hns g2p
    have B9 := hid (BR3.set zeroCh none 0 0)
    have HB9 := hid (Below.setBox HB3 (g := w.heap.size + 1) (Nat.le_succ _) zeroCh none 0 0)
    obtain ⟨z0, z1, z2, z3, z4, z5, z6⟩ := BR3.all
    have f0 := BR3.f 0
    have f1 := BR3.f 1
    have f2 := BR3.f 2
    have f3 := BR3.f 3
    have f4 := BR3.f 4
    have f5 := BR3.f 5
    have f6 := BR3.f 6
    go_wp2
    refine bodyPost_ret_by (results_ct rfl _ _ (w.heap.size + 1) 0 rfl [.int .u64 0, .int .u64 0, .int .u64 0, .int .u64 0, .int .u64 0, .slice none 0 0, .bool false] _ (range7 B9.out) Try.underlying26 rfl (by kernel_rfl)) rfl ?_
    exact ⟨_, by rw [HE.out.1]; rfl, by rw [HE.out.2]; exact ⟨_, rfl, OwnL.nil _ _ _ _ _⟩, HB9.out⟩
  have d4 : decide (c.Local - c.Reserve < m) = false := decide_eq_false g4
  have w2e : IntKind.u64.wrap (c.Most - heldN c) = c.Most - heldN c := IntWalk.u64_in _ (by omega)
  by_cases g5 : c.Most - heldN c < m
  · have d5 : decide (c.Most - heldN c < m) = true := decide_eq_true g5
    have HE := hid (show hoE c id m = 8 ∧ hoC c id m = zeroCh from by
      have e : hoE c id m = 8 := by unfold hoE; rw [if_pos ⟨ok, g0, g1⟩, if_neg hno, if_neg hns, if_neg g2p, if_neg (fun q => q.elim g3 g4), if_pos g5]
      exact ⟨e, ho_no (by rw [e]; decide)⟩)
    clear g1 g2 g3 g4 g5 hF ok hno hns g2p
    have B9 := hid (BR3.set zeroCh none 0 0)
    have HB9 := hid (Below.setBox HB3 (g := w.heap.size + 1) (Nat.le_succ _) zeroCh none 0 0)
    obtain ⟨z0, z1, z2, z3, z4, z5, z6⟩ := BR3.all
    have f0 := BR3.f 0
    have f1 := BR3.f 1
    have f2 := BR3.f 2
    have f3 := BR3.f 3
    have f4 := BR3.f 4
    have f5 := BR3.f 5
    have f6 := BR3.f 6
    go_wp2
    refine bodyPost_ret_by (results_ct rfl _ _ (w.heap.size + 1) 0 rfl [.int .u64 0, .int .u64 0, .int .u64 0, .int .u64 0, .int .u64 0, .slice none 0 0, .bool false] _ (range7 B9.out) Try.underlying26 rfl (by kernel_rfl)) rfl ?_
    exact ⟨_, by rw [HE.out.1]; rfl, by rw [HE.out.2]; exact ⟨_, rfl, OwnL.nil _ _ _ _ _⟩, HB9.out⟩
  have d5 : decide (c.Most - heldN c < m) = false := decide_eq_false g5
  have e0 : hoE c id m = 0 := by unfold hoE; rw [if_pos ⟨ok, g0, g1⟩, if_neg hno, if_neg hns, if_neg g2p, if_neg (fun q => q.elim g3 g4), if_neg g5]
  have QT := hid (And.intro e0 (ho_is e0).2.2.2.2.2.2.2.2.2)
  have w3e : IntKind.u64.wrap (c.Local - m) = c.Local - m := IntWalk.u64_in _ (by omega)
  clear e0 g1 g2 g3 g4 g5 hF ok hno hns g2p c1 c2 c3 hh0 hh1
  have hba := bel_alloc (Below.refl W3.heap.size W3) (Obj.cells #[.int .u64 c.Id, .int .u64 c.Local, .int .u64 c.Remote, .int .u64 c.Reserve, .int .u64 c.Most, .slice A n k, .bool c.Open] 26)
  have BO4 := BoxC.new W3 c A n k
  have BC4 := BC3.call hba
  have BR4 := BR3.call hba
  have BH4 := BH.call hba
  have hgh := BH.lt
  have HB4 := bel_call HB3 hba
  clear BC3 BR3 BH HB3 hba HX3
  go_upto_region 16 with (fail)
  clear p0 p1 p2 p3 p4 p5 p6
  generalize W3.alloc (Obj.cells #[.int .u64 c.Id, .int .u64 c.Local, .int .u64 c.Remote, .int .u64 c.Reserve, .int .u64 c.Most, .slice A n k, .bool c.Open] 26) = W4 at *
  generalize W3.heap.size = go at *
  obtain ⟨p0, p1, p2, p3, p4, p5, p6⟩ := BO4.all
  have g5 := BO4.f 1
  obtain ⟨d0, hd0⟩ : ∃ z : Chn, z = ⟨c.Id, c.Local - m, c.Remote, c.Reserve, c.Most, c.Holds, c.Open⟩ := ⟨_, rfl⟩
  have D0 := hid hd0
  have BO5 : BoxC (W4.setCell ⟨go, 1, none⟩ (.int .u64 (c.Local - m))) go d0 A n k := by rw [hd0]; exact BO4.setLoc (c.Local - m)
  have BC5 := BC4.setOther (b := go) (by omega) 1 (.int .u64 (c.Local - m))
  have BR5 := BR4.setOther (b := go) (by omega) 1 (.int .u64 (c.Local - m))
  have BH5 := BH4.setOther (b := go) (by omega) 1 (.int .u64 (c.Local - m))
  have HB5 := HB4.setCell (p := ⟨go, 1, none⟩) (by show w.heap.size ≤ go; omega) (.int .u64 (c.Local - m))
  clear BO4 BC4 BR4 BH4 HB4 hd0
  go_upto_region 17 with (fail)
  clear p0 p1 p2 p3 p4 p5 p6 g5
  generalize W4.setCell ⟨go, 1, none⟩ (.int .u64 (c.Local - m)) = W5 at *
  have o5 := BO5.all.2.2.2.2.2.1
  have g5 := BO5.f 5
  have BO6 := BO5.setHol none 0 0
  have BC6 := BC5.setOther (b := go) (by omega) 5 (.slice none 0 0)
  have BR6 := BR5.setOther (b := go) (by omega) 5 (.slice none 0 0)
  have BH6 := BH5.setOther (b := go) (by omega) 5 (.slice none 0 0)
  have HB6 := HB5.setCell (p := ⟨go, 5, none⟩) (by show w.heap.size ≤ go; omega) (.slice none 0 0)
  clear BO5 BC5 BR5 BH5 HB5
  go_upto_region 18 with (fail)
  generalize W5.setCell ⟨go, 5, none⟩ (.slice none 0 0) = W6 at *
  clear o5 g5
  obtain ⟨BS, hBS⟩ : ∃ z, W6.heap.size = z := ⟨_, rfl⟩
  have hgo : go < BS := by rw [← hBS]; exact BO6.lt
  obtain ⟨F1, hF1⟩ : ∃ f : Hld → Bool, f = fun x => decide (x.Id < id) := ⟨_, rfl⟩
  obtain ⟨F2, hF2⟩ : ∃ f : Hld → Bool, f = fun x => decide (id < x.Id) := ⟨_, rfl⟩
  have G1 := hid (fun x => congrFun hF1 x)
  have G2 := hid (fun x => congrFun hF2 x)
  clear hF1 hF2
  obtain ⟨-, -, -, -, -, p5, -⟩ := BC6.all
  go_wp2
  clear p5
  go_loopw [85] (fun i wr => ∃ (j : Nat) (A' : Option Addr) (n' c' : Nat), j ≤ n ∧ i = .int .i64 j ∧ BoxC wr go d0 A' n' c' ∧ OwnL lay_Hold wr BS (some BS) 41 (.slice A' n' c') (([] : List Hld) ++ (c.Holds.take j).filter F1) ∧ BoxC wr w.heap.size c A n k ∧ BoxC wr (w.heap.size + 1) zeroCh none 0 0 ∧ BoxH wr gh hx ∧ BS ≤ wr.heap.size ∧ Below w.heap.size w wr) (fun i _ => n - (intOf i).toNat)
  case atStart => exact ⟨0, none, 0, 0, Nat.zero_le _, rfl, BO6, OwnL.nil _ _ _ _ _, BC6, BR6, BH6, Nat.le_of_eq hBS.symm, HB6⟩
  case round =>
  obtain ⟨j, Ax, nx, cx, hj, rfl, BO, hown, BCr, BRr, BHr, hzB, hbel⟩ := hrel
  by_cases hlt : j < n
  · obtain ⟨b1, o1, hx1, hA1, hb1, t1, t2, hwh⟩ := hld_at hs hlt
    have q1 := (hbel.cell (p := ⟨b1, o1 + j * 2, none⟩) hb1).trans t1
    have q2 := (hbel.cell (p := ⟨b1, o1 + j * 2 + 1, none⟩) hb1).trans t2
    subst hA1
    have hba := bel_alloc (Below.refl wr.heap.size wr) (Obj.cells #[.int .u64 c.Holds[j].Id, .int .u64 c.Holds[j].N] 41)
    have BO2 := BO.call hba
    have BC2 := BCr.call hba
    have BR2 := BRr.call hba
    have BH2 := BHr.call hba
    have BN := BoxH.new wr c.Holds[j]
    have ho2 := hown.keep hba
    have HB2 := bel_call hbel hba
    have HFT := hid (filter_takeH (p := F1) hx1)
    have hfl := filter_lenH (p := F1) c.Holds j
    rw [HL.out] at hfl
    have HSZ := hid (show wr.heap.size + 1 = (wr.alloc (Obj.cells #[.int .u64 c.Holds[j].Id, .int .u64 c.Holds[j].N] 41)).heap.size from by simp)
    have hz2 : BS ≤ (wr.alloc (Obj.cells #[.int .u64 c.Holds[j].Id, .int .u64 c.Holds[j].N] 41)).heap.size := by rw [← HSZ.out]; omega
    clear t1 t2 hown BO BCr BRr BHr
    by_cases he : c.Holds[j].Id < id
    · have d1 : decide (c.Holds[j].Id < id) = true := by simpa using he
      rw [if_pos (by rw [G1.out]; exact d1)] at HFT
      have hlen1 : ((([] : List Hld) ++ (c.Holds.take j).filter F1).length + 1) * 16 ≤ 140737488355328 := by rw [List.length_append]; rw [List.length_nil]; omega
      have hlen2 : (([] : List Hld) ++ (c.Holds.take j).filter F1).length + 1 ≤ maxLen := by rw [List.length_append]; unfold maxLen; rw [List.length_nil]; omega
      have y0 := BN.c0
      have y1 := BN.c1
      have o5 := BO2.all.2.2.2.2.2.1
      clear he
      go_wp2_with (at_builtin; go_must (refine wpList_pushL (w := wr.alloc (Obj.cells #[.int .u64 c.Holds[j].Id, .int .u64 c.Holds[j].N] 41)) rfl (.tmp 94) (.tmp 96) 24 rfl BS (some BS) 41 _ 16 Try.underlying24 Try.infoHld rfl (by decide) (.slice Ax nx cx) (([] : List Hld) ++ (c.Holds.take j).filter F1) c.Holds[j] #[.int .u64 c.Holds[j].Id, .int .u64 c.Holds[j].N] (fun _ => False) rfl (congrArg (fun z => Value.slice (some ⟨z, 0, none⟩) 1 1) HSZ.out) ho2 (rep_Hold.2 ⟨rfl, hwh⟩) (fun b hb => hb.elim) hz2 hlen1 hlen2 ?_; intro v7 w7 ho7 hx7; have hb7 : Below BS (wr.alloc (Obj.cells #[.int .u64 c.Holds[j].Id, .int .u64 c.Holds[j].N] 41)) w7 := ho2.below hx7 hz2; have BO7 := BO2.keep hb7 hgo; have o7 := BO7.all.2.2.2.2.2.1; have f7 := BO7.f 5; obtain ⟨A7, n7, c7, rfl, hs7⟩ := ho7.read; clear hs7))
      go_roundw
      case rel => exact ⟨j + 1, A7, n7, c7, by omega, by go_num, BO7.setHol A7 n7 c7, by rw [HFT.out, ← List.append_assoc]; exact ho7.setLow (b := go) hgo hgo 5 _, (BC2.keep hb7 (by omega)).setOther (by omega) 5 _, (BR2.keep hb7 (by omega)).setOther (by omega) 5 _, (BH2.keep hb7 (by omega)).setOther (by omega) 5 _, by simpa using Nat.le_trans hz2 hb7.size, ((HB2.trans (hb7.mono (by omega))).setCell (p := ⟨go, 5, none⟩) (by show w.heap.size ≤ go; omega) _)⟩
      case measure => simp [intOf]; omega
    · have d1 : decide (c.Holds[j].Id < id) = false := by simpa using he
      rw [if_neg (by rw [G1.out, d1]; decide), List.append_nil] at HFT
      have y0 := BN.c0
      clear he
      go_wp2
      go_roundw
      case rel => exact ⟨j + 1, Ax, nx, cx, by omega, by go_num, BO2, by rw [HFT.out]; exact ho2, BC2, BR2, BH2, hz2, HB2⟩
      case measure => simp [intOf]; omega
  rw [List.take_of_length_le (show c.Holds.length ≤ j by rw [HL.out]; omega)] at hown
  rw [List.nil_append] at hown
  have hfl0 := filter_lenH (p := F1) c.Holds c.Holds.length
  rw [List.take_length, HL.out] at hfl0
  have hlen1 : ((c.Holds.filter F1).length + 1) * 16 ≤ 140737488355328 := by omega
  have hlen2 : (c.Holds.filter F1).length + 1 ≤ maxLen := by unfold maxLen; omega
  have o5 := BO.all.2.2.2.2.2.1
  go_upto_region 25 with (at_builtin; go_must (refine wpList_pushL (w := wr) rfl (.tmp 101) (.tmp 105) 24 rfl BS (some BS) 41 _ 16 Try.underlying24 Try.infoHld rfl (by decide) (.slice Ax nx cx) (c.Holds.filter F1) ⟨id, m⟩ #[.int .u64 id, .int .u64 m] (fun _ => False) rfl rfl hown (rep_Hold.2 ⟨rfl, ⟨hi, hm⟩⟩) (fun b hb => hb.elim) hzB hlen1 hlen2 ?_; intro v7 w7 ho7 hx7; have hb7 : Below BS wr w7 := hown.below hx7 hzB; have BO7 := BO.keep hb7 hgo; have o7 := BO7.all.2.2.2.2.2.1; have f7 := BO7.f 5; obtain ⟨A7, n7, c7, rfl, hs7⟩ := ho7.read; clear hs7))
  have BO8 := BO7.setHol A7 n7 c7
  have ho8 := ho7.setLow (b := go) hgo hgo 5 (.slice A7 n7 c7)
  have BC8 := (BCr.keep hb7 (by omega)).setOther (b := go) (by omega) 5 (.slice A7 n7 c7)
  have BR8 := (BRr.keep hb7 (by omega)).setOther (b := go) (by omega) 5 (.slice A7 n7 c7)
  have BH8 := (BHr.keep hb7 (by omega)).setOther (b := go) (by omega) 5 (.slice A7 n7 c7)
  have hz8 : BS ≤ (w7.setCell ⟨go, 5, none⟩ (.slice A7 n7 c7)).heap.size := by simpa using Nat.le_trans hzB hb7.size
  have HB8 := (hbel.trans (hb7.mono (by omega))).setCell (p := ⟨go, 5, none⟩) (by show w.heap.size ≤ go; omega) (.slice A7 n7 c7)
  clear BO BO7 o5 o7 f7 hown ho7 hx7 hb7 BCr BRr BHr hbel hzB hlt hj hlen1 hlen2
  generalize w7.setCell ⟨go, 5, none⟩ (.slice A7 n7 c7) = W8 at *
  obtain ⟨-, -, -, -, -, p5, -⟩ := BC8.all
  go_wp2
  clear p5
  obtain ⟨wq, hwq⟩ : ∃ z, z = wr := ⟨_, rfl⟩
  subst hwq
  go_loopw [111] (fun i wr => ∃ (j : Nat) (A' : Option Addr) (n' c' : Nat), j ≤ n ∧ i = .int .i64 j ∧ BoxC wr go d0 A' n' c' ∧ OwnL lay_Hold wr BS (some BS) 41 (.slice A' n' c') ((c.Holds.filter F1 ++ [(⟨id, m⟩ : Hld)]) ++ (c.Holds.take j).filter F2) ∧ BoxC wr w.heap.size c A n k ∧ BoxC wr (w.heap.size + 1) zeroCh none 0 0 ∧ BoxH wr gh hx ∧ BS ≤ wr.heap.size ∧ Below w.heap.size w wr) (fun i _ => n - (intOf i).toNat)
  case atStart => exact ⟨0, A7, n7, c7, Nat.zero_le _, rfl, BO8, by simpa using ho8, BC8, BR8, BH8, hz8, HB8⟩
  case round =>
  obtain ⟨j, Ax, nx, cx, hj, rfl, BO, hown, BCr, BRr, BHr, hzB, hbel⟩ := hrel
  by_cases hlt : j < n
  · obtain ⟨b1, o1, hx1, hA1, hb1, t1, t2, hwh⟩ := hld_at hs hlt
    have q1 := (hbel.cell (p := ⟨b1, o1 + j * 2, none⟩) hb1).trans t1
    have q2 := (hbel.cell (p := ⟨b1, o1 + j * 2 + 1, none⟩) hb1).trans t2
    subst hA1
    have hba := bel_alloc (Below.refl wr.heap.size wr) (Obj.cells #[.int .u64 c.Holds[j].Id, .int .u64 c.Holds[j].N] 41)
    have BO2 := BO.call hba
    have BC2 := BCr.call hba
    have BR2 := BRr.call hba
    have BH2 := BHr.call hba
    have BN := BoxH.new wr c.Holds[j]
    have ho2 := hown.keep hba
    have HB2 := bel_call hbel hba
    have HFT := hid (filter_takeH (p := F2) hx1)
    have hfl := filter_lenH (p := F2) c.Holds j
    rw [HL.out] at hfl
    have HSZ := hid (show wr.heap.size + 1 = (wr.alloc (Obj.cells #[.int .u64 c.Holds[j].Id, .int .u64 c.Holds[j].N] 41)).heap.size from by simp)
    have hz2 : BS ≤ (wr.alloc (Obj.cells #[.int .u64 c.Holds[j].Id, .int .u64 c.Holds[j].N] 41)).heap.size := by rw [← HSZ.out]; omega
    clear t1 t2 hown BO BCr BRr BHr
    by_cases he : id < c.Holds[j].Id
    · have d1 : decide (id < c.Holds[j].Id) = true := by simpa using he
      rw [if_pos (by rw [G2.out]; exact d1)] at HFT
      have hlen1 : (((c.Holds.filter F1 ++ [(⟨id, m⟩ : Hld)]) ++ (c.Holds.take j).filter F2).length + 1) * 16 ≤ 140737488355328 := by rw [List.length_append]; rw [List.length_append, List.length_singleton]; omega
      have hlen2 : ((c.Holds.filter F1 ++ [(⟨id, m⟩ : Hld)]) ++ (c.Holds.take j).filter F2).length + 1 ≤ maxLen := by rw [List.length_append]; unfold maxLen; rw [List.length_append, List.length_singleton]; omega
      have y0 := BN.c0
      have y1 := BN.c1
      have o5 := BO2.all.2.2.2.2.2.1
      clear he
      go_wp2_with (at_builtin; go_must (refine wpList_pushL (w := wr.alloc (Obj.cells #[.int .u64 c.Holds[j].Id, .int .u64 c.Holds[j].N] 41)) rfl (.tmp 120) (.tmp 122) 24 rfl BS (some BS) 41 _ 16 Try.underlying24 Try.infoHld rfl (by decide) (.slice Ax nx cx) ((c.Holds.filter F1 ++ [(⟨id, m⟩ : Hld)]) ++ (c.Holds.take j).filter F2) c.Holds[j] #[.int .u64 c.Holds[j].Id, .int .u64 c.Holds[j].N] (fun _ => False) rfl (congrArg (fun z => Value.slice (some ⟨z, 0, none⟩) 1 1) HSZ.out) ho2 (rep_Hold.2 ⟨rfl, hwh⟩) (fun b hb => hb.elim) hz2 hlen1 hlen2 ?_; intro v7 w7 ho7 hx7; have hb7 : Below BS (wr.alloc (Obj.cells #[.int .u64 c.Holds[j].Id, .int .u64 c.Holds[j].N] 41)) w7 := ho2.below hx7 hz2; have BO7 := BO2.keep hb7 hgo; have o7 := BO7.all.2.2.2.2.2.1; have f7 := BO7.f 5; obtain ⟨A7, n7, c7, rfl, hs7⟩ := ho7.read; clear hs7))
      go_roundw
      case rel => exact ⟨j + 1, A7, n7, c7, by omega, by go_num, BO7.setHol A7 n7 c7, by rw [HFT.out, ← List.append_assoc]; exact ho7.setLow (b := go) hgo hgo 5 _, (BC2.keep hb7 (by omega)).setOther (by omega) 5 _, (BR2.keep hb7 (by omega)).setOther (by omega) 5 _, (BH2.keep hb7 (by omega)).setOther (by omega) 5 _, by simpa using Nat.le_trans hz2 hb7.size, ((HB2.trans (hb7.mono (by omega))).setCell (p := ⟨go, 5, none⟩) (by show w.heap.size ≤ go; omega) _)⟩
      case measure => simp [intOf]; omega
    · have d1 : decide (id < c.Holds[j].Id) = false := by simpa using he
      rw [if_neg (by rw [G2.out, d1]; decide), List.append_nil] at HFT
      have y0 := BN.c0
      clear he
      go_wp2
      go_roundw
      case rel => exact ⟨j + 1, Ax, nx, cx, by omega, by go_num, BO2, by rw [HFT.out]; exact ho2, BC2, BR2, BH2, hz2, HB2⟩
      case measure => simp [intOf]; omega
  rw [List.take_of_length_le (show c.Holds.length ≤ j by rw [HL.out]; omega)] at hown
  have HWH := hid (show c.Holds.filter F1 ++ [⟨id, m⟩] ++ c.Holds.filter F2 = withH c.Holds ⟨id, m⟩ from by
    unfold withH
    have g1 : F1 = fun x => decide (x.Id < id) := funext fun x => G1.out x
    have g2 : F2 = fun x => decide (id < x.Id) := funext fun x => G2.out x
    rw [g1, g2])
  rw [HWH.out] at hown
  obtain ⟨d, hd⟩ : ∃ z : Chn, z = ⟨c.Id, c.Local - m, c.Remote, c.Reserve, c.Most, withH c.Holds ⟨id, m⟩, c.Open⟩ := ⟨_, rfl⟩
  have HDT := hid (show hoC c id m = d from by rw [hd]; exact QT.out.2)
  have hown' : OwnL lay_Hold wr BS (some BS) 41 (.slice Ax nx cx) d.Holds := by rw [hd]; exact hown
  have BO' : BoxC wr go d Ax nx cx := by rw [hd]; rw [D0.out] at BO; exact BO
  clear hd hown BO
  have z0 := (hown'.setBox (g := w.heap.size + 1) (by omega) d Ax nx cx).lows (base' := w.heap.size) (lo' := w.heap.size) (by omega) (by omega)
  have HO9 := hid z0
  have B9 := hid (BRr.set d Ax nx cx)
  have HB9 := hid (Below.setBox hbel (g := w.heap.size + 1) (Nat.le_succ _) d Ax nx cx)
  obtain ⟨p0, p1, p2, p3, p4, p5, p6⟩ := BO'.all
  obtain ⟨k0, k1, k2, k3, k4, k5, k6⟩ := BRr.all
  have f0 := BRr.f 0
  have f1 := BRr.f 1
  have f2 := BRr.f 2
  have f3 := BRr.f 3
  have f4 := BRr.f 4
  have f5 := BRr.f 5
  have f6 := BRr.f 6
  clear z0 BO' hown' BRr BCr BHr
  go_wp2
  refine bodyPost_ret_by (results_ct rfl _ _ (w.heap.size + 1) 0 rfl [.int .u64 d.Id, .int .u64 d.Local, .int .u64 d.Remote, .int .u64 d.Reserve, .int .u64 d.Most, .slice Ax nx cx, .bool d.Open] _ (range7 B9.out) Try.underlying26 rfl (by kernel_rfl)) rfl ?_
  exact ⟨_, by rw [QT.out.1]; rfl, by rw [HDT.out]; exact ⟨_, rfl, HO9.out⟩, HB9.out⟩
end Go.Proofs.Ytanlpcndbfmkiaa
