/-
  Package channel: Hold, Push, Close.
-/
import Derived.Test.YtanlpcndbfmkiaaPack1
import Derived.Test.YtanlpcndbfmkiaaPack2
import Derived.Test.YtanlpcndbfmkiaaPack3
import Derived.Test.YtanlpcndbfmkiaaPack4
import Derived.Test.YtanlpcndbfmkiaaPack5
import Derived.Test.YtanlpcndbfmkiaaPack6
import Derived.Test.YtanlpcndbfmkiaaPack7
import Derived.Test.YtanlpcndbfmkiaaPack8
import Derived.Test.YtanlpcndbfmkiaaPack9
import Derived.Test.YtanlpcndbfmkiaaPack10
import Derived.Test.YtanlpcndbfmkiaaPack11
import Derived.Test.YtanlpcndbfmkiaaPack12
import Derived.Test.YtanlpcndbfmkiaaPack13
import Derived.Test.YtanlpcndbfmkiaaPack14
import Derived.Test.YtanlpcndbfmkiaaPack15
import Derived.Test.YtanlpcndbfmkiaaPack16
import Derived.Test.YtanlpcndbfmkiaaPack17
import Derived.Test.YtanlpcndbfmkiaaPack18
import Derived.Test.YtanlpcndbfmkiaaPack19
namespace Go.Proofs.Ytanlpcndbfmkiaa
open Go.RowKit Go.WalkArith

abbrev addRowH (W : World) (A : Option Addr) (n k j g : Nat) (id m : Int) : World := (W.alloc (Obj.cells #[.int .u64 id, .int .u64 m] 41)).alloc (Obj.cells #[.slice A j k, .slice (some ⟨g, 0, none⟩) 1 1, .slice (cutS lay_Hold.size A k j) (n - j) (k - j)] 24)
theorem addCatH_any (A : Option Addr) (n k j g g1 : Nat) (l : List Hld) (id m : Int) (W : World) (hg : g = W.heap.size) (hg1 : g1 = W.heap.size + 1) (h : Sl lay_Hold W (· < W.heap.size) A n k l) (hj : j ≤ n) (hn : n ≤ 64) (hi : (Lit.int .u64 id).wf = true) (hm : (Lit.int .u64 m).wf = true) :
    Calls Try.prog 83 #[.slice (some ⟨g1, 0, none⟩) 3 3] (addRowH W A n k j g id m) fun e w' => ∃ v', e = .returned v' ∧ OwnL lay_Hold w' W.heap.size (some W.heap.size) 41 v' (l.take j ++ [⟨id, m⟩] ++ l.drop j) ∧ Below W.heap.size W w' := by
  subst hg hg1
  have hb1 : Below W.heap.size W (W.alloc (Obj.cells #[.int .u64 id, .int .u64 m] 41)) := bel_alloc (Below.refl _ _) _
  have hb0 : Below W.heap.size W (addRowH W A n k j W.heap.size id m) := bel_alloc hb1 _
  have hz : (addRowH W A n k j W.heap.size id m).heap.size = W.heap.size + 2 := by simp [addRowH]
  have hg1 : (addRowH W A n k j W.heap.size id m).heap[W.heap.size]? = some (Obj.cells #[.int .u64 id, .int .u64 m] 41) := heap_alloc2_old _ _ _
  have hg2 : (addRowH W A n k j W.heap.size id m).heap[W.heap.size + 1]? = some (Obj.cells #[.slice A j k, .slice (some ⟨W.heap.size, 0, none⟩) 1 1, .slice (cutS lay_Hold.size A k j) (n - j) (k - j)] 24) := heap_alloc2_new _ _ _
  have s1 := (Sl.call h hb0).upto (i := j) hj
  have s3 := (Sl.call h hb0).cut (i := j) hj
  have B2 : BoxH (addRowH W A n k j W.heap.size id m) W.heap.size ⟨id, m⟩ := hg1
  have s2 : Sl lay_Hold (addRowH W A n k j W.heap.size id m) (· < (addRowH W A n k j W.heap.size id m).heap.size) (some ⟨W.heap.size, 0, none⟩) 1 1 [⟨id, m⟩] :=
    Sl.lit1 (cs := [.int .u64 id, .int .u64 m]) (by rw [hz]; omega) (rep_Hold.2 ⟨rfl, ⟨hi, hm⟩⟩) fun i v hv => by
      match i, hv with
      | 0, hv => simp at hv; subst hv; exact B2.c0
      | 1, hv => simp at hv; subst hv; exact B2.c1
  have s : Sl (Lay.slice lay_Hold) (addRowH W A n k j W.heap.size id m) (· < (addRowH W A n k j W.heap.size id m).heap.size) (some ⟨W.heap.size + 1, 0, none⟩) 3 3 [l.take j, [⟨id, m⟩], l.drop j] := by
    refine ⟨rfl, Nat.le_refl _, by unfold maxLen; omega, by simp, fun _ => ⟨W.heap.size + 1, 0, _, rfl, by rw [hz]; omega, ⟨[.slice A j k], [.slice (some ⟨W.heap.size, 0, none⟩) 1 1, .slice (cutS lay_Hold.size A k j) (n - j) (k - j)], rfl, ⟨_, _, _, rfl, s1⟩, ⟨[_], [_], rfl, ⟨_, _, _, rfl, s2⟩, ⟨[_], [], rfl, ⟨_, _, _, rfl, s3⟩, rfl⟩⟩⟩, fun i v hv => ?_⟩⟩
    match i, hv with
    | 0, hv => simp at hv; subst hv; exact Var3.c0 hg2
    | 1, hv => simp at hv; subst hv; exact Var3.c1 hg2
    | 2, hv => simp at hv; subst hv; exact Var3.c2 hg2
  have hl := h.len
  refine (concatH_any _ _ _ _ _ s (by simp; omega)).mono ?_
  rintro e w' ⟨v', rfl, ho, hb⟩
  refine ⟨v', rfl, ?_, bel_call hb0 hb⟩
  have := ho.lows (base' := W.heap.size) (lo' := W.heap.size) hb0.size hb0.size
  simpa using this

set_option maxRecDepth 100000 in
set_option maxHeartbeats 8000000 in
theorem cHold_any (s : Array Value) (c : Chn) (id m : Int) (w : World) (r : lay_Channel.rep w (· < w.heap.size) c s.toList) (hi : (Lit.int .u64 id).wf = true) (hm : (Lit.int .u64 m).wf = true) :
    Calls Try.prog 54 #[.agg s, .int .u64 id, .int .u64 m] w fun e w' => ∃ v, e = .returned (.tuple #[v, .int .i64 (hoE c id m)]) ∧ OwnC w' w.heap.size v (hoC c id m) ∧ Below w.heap.size w w' := by
  obtain ⟨A, n, k, rfl, hw, hs⟩ := agg_Channel r
  clear r
  have HL := hid hs.len
  have hcap := hs.cap
  unfold maxLen at hcap
  have hb0 : Below w.heap.size w ((w.alloc (Obj.cells #[.int .u64 c.Id, .int .u64 c.Local, .int .u64 c.Remote, .int .u64 c.Reserve, .int .u64 c.Most, .slice A n k, .bool c.Open] 26)).alloc (Obj.cells #[.int .u64 0, .int .u64 0, .int .u64 0, .int .u64 0, .int .u64 0, .slice none 0 0, .bool false] 26)) := bel_alloc (bel_alloc (Below.refl _ _) _) _
  have BC : BoxC ((w.alloc (Obj.cells #[.int .u64 c.Id, .int .u64 c.Local, .int .u64 c.Remote, .int .u64 c.Reserve, .int .u64 c.Most, .slice A n k, .bool c.Open] 26)).alloc (Obj.cells #[.int .u64 0, .int .u64 0, .int .u64 0, .int .u64 0, .int .u64 0, .slice none 0 0, .bool false] 26)) w.heap.size c A n k := heap_alloc2_old _ _ _
  have BR : BoxC ((w.alloc (Obj.cells #[.int .u64 c.Id, .int .u64 c.Local, .int .u64 c.Remote, .int .u64 c.Reserve, .int .u64 c.Most, .slice A n k, .bool c.Open] 26)).alloc (Obj.cells #[.int .u64 0, .int .u64 0, .int .u64 0, .int .u64 0, .int .u64 0, .slice none 0 0, .bool false] 26)) (w.heap.size + 1) zeroCh none 0 0 := alloc2_new _ _ _
  have HZ := hid (show ((w.alloc (Obj.cells #[.int .u64 c.Id, .int .u64 c.Local, .int .u64 c.Remote, .int .u64 c.Reserve, .int .u64 c.Most, .slice A n k, .bool c.Open] 26)).alloc (Obj.cells #[.int .u64 0, .int .u64 0, .int .u64 0, .int .u64 0, .int .u64 0, .slice none 0 0, .bool false] 26)).heap.size = w.heap.size + 2 from by simp)
  have S0 := Sl.call hs hb0
  go_enter Try.func54, Try.ntmps54
  go_upto_region 1 with (fail)
  generalize ((w.alloc (Obj.cells #[.int .u64 c.Id, .int .u64 c.Local, .int .u64 c.Remote, .int .u64 c.Reserve, .int .u64 c.Most, .slice A n k, .bool c.Open] 26)).alloc (Obj.cells #[.int .u64 0, .int .u64 0, .int .u64 0, .int .u64 0, .int .u64 0, .slice none 0 0, .bool false] 26)) = W0 at *
  have bm := bounds_u64 hm
  obtain ⟨p0, p1, p2, p3, p4, p5, p6⟩ := BC.all
  go_wp2_with fail
  refine (cHeld_any _ c _ (chan_in hw S0 (Below.refl _ _))).mono ?_
  rintro e w1 ⟨rfl, hb1⟩
  replace BC := BC.call hb1
  replace BR := BR.call hb1
  have HB := bel_call hb0 hb1
  have HX := hb1
  clear p0 p1 p2 p3 p4 p5 p6 hb1
  rcases ch_is (c := c) with ⟨ok, hE⟩ | ⟨ok, hE⟩
  rotate_left
  · rw [hE]
    have HE := hid (show hoE c id m = 1 ∧ hoC c id m = zeroCh from by
      have e : hoE c id m = 1 := if_neg fun h => ok h.1
      exact ⟨e, ho_no (by rw [e]; decide)⟩)
    clear hE ok
    have B9 := hid (BR.set zeroCh none 0 0)
    have HB9 := hid (Below.setBox HB (g := w.heap.size + 1) (Nat.le_succ _) zeroCh none 0 0)
    obtain ⟨z0, z1, z2, z3, z4, z5, z6⟩ := BR.all
    have f0 := BR.f 0
    have f1 := BR.f 1
    have f2 := BR.f 2
    have f3 := BR.f 3
    have f4 := BR.f 4
    have f5 := BR.f 5
    have f6 := BR.f 6
    go_wp2
    refine bodyPost_ret_by (results_ct rfl _ _ (w.heap.size + 1) 0 rfl [.int .u64 0, .int .u64 0, .int .u64 0, .int .u64 0, .int .u64 0, .slice none 0 0, .bool false] _ (range7 B9.out) Try.underlying26 rfl (by kernel_rfl)) rfl ?_
    exact ⟨_, by rw [HE.out.1]; rfl, by rw [HE.out.2]; exact ⟨_, rfl, OwnL.nil _ _ _ _ _⟩, HB9.out⟩
  rw [hE, show heV c = heldN c from if_pos ok]
  clear hE
  by_cases g0 : m = 0
  · have d0 : (m == 0) = true := by simpa using g0
    have HE := hid (show hoE c id m = 1 ∧ hoC c id m = zeroCh from by
      have e : hoE c id m = 1 := if_neg fun h => h.2.1 g0
      exact ⟨e, ho_no (by rw [e]; decide)⟩)
    clear g0 ok
    have B9 := hid (BR.set zeroCh none 0 0)
    have HB9 := hid (Below.setBox HB (g := w.heap.size + 1) (Nat.le_succ _) zeroCh none 0 0)
    obtain ⟨z0, z1, z2, z3, z4, z5, z6⟩ := BR.all
    have f0 := BR.f 0
    have f1 := BR.f 1
    have f2 := BR.f 2
    have f3 := BR.f 3
    have f4 := BR.f 4
    have f5 := BR.f 5
    have f6 := BR.f 6
    go_wp2
    refine bodyPost_ret_by (results_ct rfl _ _ (w.heap.size + 1) 0 rfl [.int .u64 0, .int .u64 0, .int .u64 0, .int .u64 0, .int .u64 0, .slice none 0 0, .bool false] _ (range7 B9.out) Try.underlying26 rfl (by kernel_rfl)) rfl ?_
    exact ⟨_, by rw [HE.out.1]; rfl, by rw [HE.out.2]; exact ⟨_, rfl, OwnL.nil _ _ _ _ _⟩, HB9.out⟩
  have d0 : (m == 0) = false := by simpa using g0
  have HC1 := hid (fun (W : World) => mCheck1_any m W hm)
  rw [chkM_one] at HC1
  go_wp2_with fail
  with_reducible refine (HC1.out _).mono ?_
  rintro e w2 ⟨rfl, hb2⟩
  replace BC := BC.call hb2
  replace BR := BR.call hb2
  replace HB := bel_call HB hb2
  replace HX := bel_call HX hb2
  clear hb2
  by_cases g1 : m ≤ mMax
  rotate_left
  · rw [if_neg g1]
    have HE := hid (show hoE c id m = 1 ∧ hoC c id m = zeroCh from by
      have e : hoE c id m = 1 := if_neg fun h => g1 h.2.2
      exact ⟨e, ho_no (by rw [e]; decide)⟩)
    clear g1
    have B9 := hid (BR.set zeroCh none 0 0)
    have HB9 := hid (Below.setBox HB (g := w.heap.size + 1) (Nat.le_succ _) zeroCh none 0 0)
    obtain ⟨z0, z1, z2, z3, z4, z5, z6⟩ := BR.all
    have f0 := BR.f 0
    have f1 := BR.f 1
    have f2 := BR.f 2
    have f3 := BR.f 3
    have f4 := BR.f 4
    have f5 := BR.f 5
    have f6 := BR.f 6
    go_wp2
    refine bodyPost_ret_by (results_ct rfl _ _ (w.heap.size + 1) 0 rfl [.int .u64 0, .int .u64 0, .int .u64 0, .int .u64 0, .int .u64 0, .slice none 0 0, .bool false] _ (range7 B9.out) Try.underlying26 rfl (by kernel_rfl)) rfl ?_
    exact ⟨_, by rw [HE.out.1]; rfl, by rw [HE.out.2]; exact ⟨_, rfl, OwnL.nil _ _ _ _ _⟩, HB9.out⟩
  rw [if_pos g1]
  have hn64 : n ≤ 64 := by rw [← HL.out]; exact ok.2.2.1
  have hup : UpF Hld.Id c.Holds := ok.2.2.2.2.2.1
  obtain ⟨p0, p1, p2, p3, p4, p5, p6⟩ := BC.all
  go_upto_region 4 with (fail)
  go_wp2_with fail
  with_reducible refine (placeH_any A n k c.Holds id _ (Sl.call S0 HX) hn64 hup).mono ?_
  rintro e w3 ⟨j, rfl, hj, hb3⟩
  replace BC := BC.call hb3
  replace BR := BR.call hb3
  replace HB := bel_call HB hb3
  replace HX := bel_call HX hb3
  clear p0 p1 p2 p3 p4 p5 p6 hb3
  have hjn : j ≤ n := by rw [← HL.out]; exact hj.1
  have HJ := hid hj
  clear hj
  obtain ⟨p0, p1, p2, p3, p4, p5, p6⟩ := BC.all
  obtain ⟨o, ho⟩ : ∃ z, c.Open = z := ⟨_, rfl⟩
  rw [ho] at p6
  have HO := hid ho
  clear ho
  cases o
  · skip
    have HE := hid (show hoE c id m = 14 ∧ hoC c id m = zeroCh from by
      have e : hoE c id m = 14 := by unfold hoE; rw [if_pos ⟨ok, g0, g1⟩, if_pos HO.out]
      exact ⟨e, ho_no (by rw [e]; decide)⟩)
    clear g1
    have B9 := hid (BR.set zeroCh none 0 0)
    have HB9 := hid (Below.setBox HB (g := w.heap.size + 1) (Nat.le_succ _) zeroCh none 0 0)
    obtain ⟨z0, z1, z2, z3, z4, z5, z6⟩ := BR.all
    have f0 := BR.f 0
    have f1 := BR.f 1
    have f2 := BR.f 2
    have f3 := BR.f 3
    have f4 := BR.f 4
    have f5 := BR.f 5
    have f6 := BR.f 6
    go_wp2
    refine bodyPost_ret_by (results_ct rfl _ _ (w.heap.size + 1) 0 rfl [.int .u64 0, .int .u64 0, .int .u64 0, .int .u64 0, .int .u64 0, .slice none 0 0, .bool false] _ (range7 B9.out) Try.underlying26 rfl (by kernel_rfl)) rfl ?_
    exact ⟨_, by rw [HE.out.1]; rfl, by rw [HE.out.2]; exact ⟨_, rfl, OwnL.nil _ _ _ _ _⟩, HB9.out⟩
  have hno : ¬ c.Open = false := by rw [HO.out]; decide
  obtain ⟨hit, hhit⟩ : ∃ z, hitF Hld.Id c.Holds id j = z := ⟨_, rfl⟩
  rw [hhit]
  cases hit
  rotate_left
  · have hF := (HJ.out.find hhit).2.2
    have HE := hid (show hoE c id m = 6 ∧ hoC c id m = zeroCh from by
      have e : hoE c id m = 6 := by
        unfold hoE
        rw [if_pos ⟨ok, g0, g1⟩, if_neg hno, if_pos (by unfold holdF; rw [hF]; rfl)]
      exact ⟨e, ho_no (by rw [e]; decide)⟩)
    clear g1 hF ok hno hhit
    have B9 := hid (BR.set zeroCh none 0 0)
    have HB9 := hid (Below.setBox HB (g := w.heap.size + 1) (Nat.le_succ _) zeroCh none 0 0)
    obtain ⟨z0, z1, z2, z3, z4, z5, z6⟩ := BR.all
    have f0 := BR.f 0
    have f1 := BR.f 1
    have f2 := BR.f 2
    have f3 := BR.f 3
    have f4 := BR.f 4
    have f5 := BR.f 5
    have f6 := BR.f 6
    go_wp2
    refine bodyPost_ret_by (results_ct rfl _ _ (w.heap.size + 1) 0 rfl [.int .u64 0, .int .u64 0, .int .u64 0, .int .u64 0, .int .u64 0, .slice none 0 0, .bool false] _ (range7 B9.out) Try.underlying26 rfl (by kernel_rfl)) rfl ?_
    exact ⟨_, by rw [HE.out.1]; rfl, by rw [HE.out.2]; exact ⟨_, rfl, OwnL.nil _ _ _ _ _⟩, HB9.out⟩
  have hF : holdF c.Holds id = none := HJ.out.none hup hhit
  have HW := hid (show withH c.Holds ⟨id, m⟩ = c.Holds.take j ++ [⟨id, m⟩] ++ c.Holds.drop j from HJ.out.with_new hup hhit ⟨id, m⟩)
  have hns : ¬ (holdF c.Holds id).isSome = true := by rw [hF]; decide
  clear hhit
  by_cases g2 : n = 64
  · have d2 : ((n : Int) == 64) = true := by simp; omega
    have HE := hid (show hoE c id m = 7 ∧ hoC c id m = zeroCh from by
      have e : hoE c id m = 7 := by unfold hoE; rw [if_pos ⟨ok, g0, g1⟩, if_neg hno, if_neg hns, if_pos (by rw [HL.out]; exact g2)]
      exact ⟨e, ho_no (by rw [e]; decide)⟩)
    have HG2 := hid g2
    clear g1 g2 hF ok hno hns
    have B9 := hid (BR.set zeroCh none 0 0)
    have HB9 := hid (Below.setBox HB (g := w.heap.size + 1) (Nat.le_succ _) zeroCh none 0 0)
    obtain ⟨z0, z1, z2, z3, z4, z5, z6⟩ := BR.all
    have f0 := BR.f 0
    have f1 := BR.f 1
    have f2 := BR.f 2
    have f3 := BR.f 3
    have f4 := BR.f 4
    have f5 := BR.f 5
    have f6 := BR.f 6
    go_wp2
    refine bodyPost_ret_by (results_ct rfl _ _ (w.heap.size + 1) 0 rfl [.int .u64 0, .int .u64 0, .int .u64 0, .int .u64 0, .int .u64 0, .slice none 0 0, .bool false] _ (range7 B9.out) Try.underlying26 rfl (by kernel_rfl)) rfl ?_
    exact ⟨_, by rw [HE.out.1]; rfl, by rw [HE.out.2]; exact ⟨_, rfl, OwnL.nil _ _ _ _ _⟩, HB9.out⟩
  have d2 : ((n : Int) == 64) = false := by simp; omega
  have g2p : ¬ c.Holds.length = 64 := by rw [HL.out]; exact g2
  have c1 := bounds_u64 hw.loc
  have c2 := bounds_u64 hw.res
  have c3 := bounds_u64 hw.most
  have hh0 := held_nonneg (c := c) (sl_hlds hs)
  have hh1 : heldN c ≤ c.Most := ok.2.2.2.2.2.2.2.1
  by_cases g3 : c.Local < c.Reserve
  · have d3 : decide (c.Local < c.Reserve) = true := decide_eq_true g3
    have HE := hid (show hoE c id m = 9 ∧ hoC c id m = zeroCh from by
      have e : hoE c id m = 9 := by unfold hoE; rw [if_pos ⟨ok, g0, g1⟩, if_neg hno, if_neg hns, if_neg g2p, if_pos (.inl g3)]
      exact ⟨e, ho_no (by rw [e]; decide)⟩)
    clear g1 g2 g3 hF ok hno hns g2p
    have B9 := hid (BR.set zeroCh none 0 0)
    have HB9 := hid (Below.setBox HB (g := w.heap.size + 1) (Nat.le_succ _) zeroCh none 0 0)
    obtain ⟨z0, z1, z2, z3, z4, z5, z6⟩ := BR.all
    have f0 := BR.f 0
    have f1 := BR.f 1
    have f2 := BR.f 2
    have f3 := BR.f 3
    have f4 := BR.f 4
    have f5 := BR.f 5
    have f6 := BR.f 6
    go_wp2
    refine bodyPost_ret_by (results_ct rfl _ _ (w.heap.size + 1) 0 rfl [.int .u64 0, .int .u64 0, .int .u64 0, .int .u64 0, .int .u64 0, .slice none 0 0, .bool false] _ (range7 B9.out) Try.underlying26 rfl (by kernel_rfl)) rfl ?_
    exact ⟨_, by rw [HE.out.1]; rfl, by rw [HE.out.2]; exact ⟨_, rfl, OwnL.nil _ _ _ _ _⟩, HB9.out⟩
  have d3 : decide (c.Local < c.Reserve) = false := decide_eq_false g3
  have w1e : IntKind.u64.wrap (c.Local - c.Reserve) = c.Local - c.Reserve := IntWalk.u64_in _ (by omega)
  by_cases g4 : c.Local - c.Reserve < m
  · have d4 : decide (c.Local - c.Reserve < m) = true := decide_eq_true g4
    have HE := hid (show hoE c id m = 9 ∧ hoC c id m = zeroCh from by
      have e : hoE c id m = 9 := by unfold hoE; rw [if_pos ⟨ok, g0, g1⟩, if_neg hno, if_neg hns, if_neg g2p, if_pos (.inr g4)]
      exact ⟨e, ho_no (by rw [e]; decide)⟩)
    clear g1 g2 g3 g4 hF ok hno hns g2p
    have B9 := hid (BR.set zeroCh none 0 0)
    have HB9 := hid (Below.setBox HB (g := w.heap.size + 1) (Nat.le_succ _) zeroCh none 0 0)
    obtain ⟨z0, z1, z2, z3, z4, z5, z6⟩ := BR.all
    have f0 := BR.f 0
    have f1 := BR.f 1
    have f2 := BR.f 2
    have f3 := BR.f 3
    have f4 := BR.f 4
    have f5 := BR.f 5
    have f6 := BR.f 6
    go_wp2
    refine bodyPost_ret_by (results_ct rfl _ _ (w.heap.size + 1) 0 rfl [.int .u64 0, .int .u64 0, .int .u64 0, .int .u64 0, .int .u64 0, .slice none 0 0, .bool false] _ (range7 B9.out) Try.underlying26 rfl (by kernel_rfl)) rfl ?_
    exact ⟨_, by rw [HE.out.1]; rfl, by rw [HE.out.2]; exact ⟨_, rfl, OwnL.nil _ _ _ _ _⟩, HB9.out⟩
  have d4 : decide (c.Local - c.Reserve < m) = false := decide_eq_false g4
  have w2e : IntKind.u64.wrap (c.Most - heldN c) = c.Most - heldN c := IntWalk.u64_in _ (by omega)
  by_cases g5 : c.Most - heldN c < m
  · have d5 : decide (c.Most - heldN c < m) = true := decide_eq_true g5
    have HE := hid (show hoE c id m = 8 ∧ hoC c id m = zeroCh from by
      have e : hoE c id m = 8 := by unfold hoE; rw [if_pos ⟨ok, g0, g1⟩, if_neg hno, if_neg hns, if_neg g2p, if_neg (fun q => q.elim g3 g4), if_pos g5]
      exact ⟨e, ho_no (by rw [e]; decide)⟩)
    clear g1 g2 g3 g4 g5 hF ok hno hns g2p
    have B9 := hid (BR.set zeroCh none 0 0)
    have HB9 := hid (Below.setBox HB (g := w.heap.size + 1) (Nat.le_succ _) zeroCh none 0 0)
    obtain ⟨z0, z1, z2, z3, z4, z5, z6⟩ := BR.all
    have f0 := BR.f 0
    have f1 := BR.f 1
    have f2 := BR.f 2
    have f3 := BR.f 3
    have f4 := BR.f 4
    have f5 := BR.f 5
    have f6 := BR.f 6
    go_wp2
    refine bodyPost_ret_by (results_ct rfl _ _ (w.heap.size + 1) 0 rfl [.int .u64 0, .int .u64 0, .int .u64 0, .int .u64 0, .int .u64 0, .slice none 0 0, .bool false] _ (range7 B9.out) Try.underlying26 rfl (by kernel_rfl)) rfl ?_
    exact ⟨_, by rw [HE.out.1]; rfl, by rw [HE.out.2]; exact ⟨_, rfl, OwnL.nil _ _ _ _ _⟩, HB9.out⟩
  have d5 : decide (c.Most - heldN c < m) = false := decide_eq_false g5
  have e0 : hoE c id m = 0 := by unfold hoE; rw [if_pos ⟨ok, g0, g1⟩, if_neg hno, if_neg hns, if_neg g2p, if_neg (fun q => q.elim g3 g4), if_neg g5]
  have QT := hid (And.intro e0 (ho_is e0).2.2.2.2.2.2.2.2.2)
  have w3e : IntKind.u64.wrap (c.Local - m) = c.Local - m := IntWalk.u64_in _ (by omega)
  clear e0 g1 g2 g3 g4 g5 hF ok hno hns g2p c1 c2 c3 hh0 hh1
  have f1 := BC.f 1
  go_upto_region 16 with (fail)
  clear p0 p1 p2 p3 p4 p5 p6 f1
  have BC5 := BC.setLoc (c.Local - m)
  have BR5 := BR.setOther (b := w.heap.size) (by omega) 1 (.int .u64 (c.Local - m))
  have HB5 := HB.setCell (p := ⟨w.heap.size, 1, none⟩) (Nat.le_refl _) (.int .u64 (c.Local - m))
  have hz5 : (w3.setCell ⟨w.heap.size, 1, none⟩ (.int .u64 (c.Local - m))).heap.size = w3.heap.size := by simp
  have hs5 : Sl lay_Hold (w3.setCell ⟨w.heap.size, 1, none⟩ (.int .u64 (c.Local - m))) (· < (w3.setCell ⟨w.heap.size, 1, none⟩ (.int .u64 (c.Local - m))).heap.size) A n k c.Holds := (hs.keep fun p hp => HB5.cell hp).wide fun b hb => Nat.lt_of_lt_of_le hb HB5.size
  have hX5 : W0.heap.size ≤ w3.heap.size := HX.size
  clear BC BR HB HX
  generalize w3.setCell ⟨w.heap.size, 1, none⟩ (.int .u64 (c.Local - m)) = W5 at *
  rw [← hz5] at hX5
  have hlt : w.heap.size < W5.heap.size := by have := HZ.out; omega
  have Y5 := hid BC5.all.2.2.2.2.2.1
  have hsu := run_uptoL (P := Try.prog) 24 41 .i64 Try.underlying24 Try.elemHld Try.infoHld A n k j (by omega)
  have hsf := run_fromL (P := Try.prog) 24 41 .i64 Try.underlying24 Try.elemHld Try.infoHld A n k j (by omega)
  have HCC := hid (addCatH_any A n k j W5.heap.size (W5.heap.size + 1) c.Holds id m (W5.drewN 1) rfl rfl (hs5.keep fun _ _ => rfl) hjn hn64 hi hm)
  clear hz5
  refine wp_region_phase 15 (fun w' : World => w'.cell? ⟨w.heap.size, 5, none⟩ = some (.slice A n k)) (by kernel_rfl) (by kernel_rfl) ?_
  simp only [List.take_succ_cons, List.take_zero, List.drop_succ_cons, List.drop_zero]
  have hS0 : (fun w' : World => w'.cell? ⟨w.heap.size, 5, none⟩ = some (.slice A n k)) (W5.drewN 1) := Y5.out
  rw [show Array.replicate 15 false = #[false, false, false, false, false, false, false, false, false, false, false, false, false, false, false] from rfl]
  refine wpAnyH_at 0 (some 80) (.pointer (some ⟨w.heap.size, 5, none⟩)) rfl rfl (by kernel_rfl) (by kernel_rfl) (by kernel_rfl) (fun _ _ _ h => h) rfl (fun w' hS => by go_simp) hS0 ?_
  simp only [Act.put, List.setIfInBounds_toArray, List.set_cons_zero, List.set_cons_succ]
  refine wpAnyH_at 1 (some 81) (.slice A n k) rfl rfl (by kernel_rfl) (by kernel_rfl) (by kernel_rfl) (fun _ _ _ h => h) rfl (fun w' hS => by have s0 : w'.cell? ⟨w.heap.size, 5, none⟩ = some (.slice A n k) := hS; go_simp) hS0 ?_
  simp only [Act.put, List.setIfInBounds_toArray, List.set_cons_zero, List.set_cons_succ]
  refine wpAnyH_at 2 (some 82) (.int .i64 j) rfl rfl (by kernel_rfl) (by kernel_rfl) (by kernel_rfl) (fun _ _ _ h => h) rfl (fun w' hS => by go_simp) hS0 ?_
  simp only [Act.put, List.setIfInBounds_toArray, List.set_cons_zero, List.set_cons_succ]
  refine wpAnyH_at 3 (some 83) (.slice A j k) rfl rfl (by kernel_rfl) (by kernel_rfl) (by kernel_rfl) (fun _ _ _ h => h) rfl (fun w' hS => by go_simp) hS0 ?_
  simp only [Act.put, List.setIfInBounds_toArray, List.set_cons_zero, List.set_cons_succ]
  refine wpAnyH_at 4 (some 84) (.int .u64 id) rfl rfl (by kernel_rfl) (by kernel_rfl) (by kernel_rfl) (fun _ _ _ h => h) rfl (fun w' hS => by go_simp) hS0 ?_
  simp only [Act.put, List.setIfInBounds_toArray, List.set_cons_zero, List.set_cons_succ]
  refine wpAnyH_at 5 (some 85) (.int .u64 m) rfl rfl (by kernel_rfl) (by kernel_rfl) (by kernel_rfl) (fun _ _ _ h => h) rfl (fun w' hS => by go_simp) hS0 ?_
  simp only [Act.put, List.setIfInBounds_toArray, List.set_cons_zero, List.set_cons_succ]
  refine wpAnyH_at 6 (some 86) (.agg #[.int .u64 id, .int .u64 m]) rfl rfl (by kernel_rfl) (by kernel_rfl) (by kernel_rfl) (fun _ _ _ h => h) rfl (fun w' hS => by go_simp) hS0 ?_
  simp only [Act.put, List.setIfInBounds_toArray, List.set_cons_zero, List.set_cons_succ]
  refine wpAnyH_at 8 (some 88) (.pointer (some ⟨w.heap.size, 5, none⟩)) rfl rfl (by kernel_rfl) (by kernel_rfl) (by kernel_rfl) (fun _ _ _ h => h) rfl (fun w' hS => by go_simp) hS0 ?_
  simp only [Act.put, List.setIfInBounds_toArray, List.set_cons_zero, List.set_cons_succ]
  refine wpAnyH_at 9 (some 89) (.slice A n k) rfl rfl (by kernel_rfl) (by kernel_rfl) (by kernel_rfl) (fun _ _ _ h => h) rfl (fun w' hS => by have s0 : w'.cell? ⟨w.heap.size, 5, none⟩ = some (.slice A n k) := hS; go_simp) hS0 ?_
  simp only [Act.put, List.setIfInBounds_toArray, List.set_cons_zero, List.set_cons_succ]
  refine wpAnyH_at 10 (some 90) (.int .i64 j) rfl rfl (by kernel_rfl) (by kernel_rfl) (by kernel_rfl) (fun _ _ _ h => h) rfl (fun w' hS => by go_simp) hS0 ?_
  simp only [Act.put, List.setIfInBounds_toArray, List.set_cons_zero, List.set_cons_succ]
  refine wpAnyH_at 11 (some 91) (.slice (cutS lay_Hold.size A k j) (n - j) (k - j)) rfl rfl (by kernel_rfl) (by kernel_rfl) (by kernel_rfl) (fun _ _ _ h => h) rfl (fun w' hS => by go_simp) hS0 ?_
  simp only [Act.put, List.setIfInBounds_toArray, List.set_cons_zero, List.set_cons_succ]
  refine wpAnyH_one 7 _ (by kernel_rfl) rfl rfl ?_
  have Z1 := hid (show ((W5.drewN 1).alloc (Obj.cells #[.int .u64 id, .int .u64 m] 41)).cell? ⟨w.heap.size, 5, none⟩ = some (.slice A n k) from (World.cell?_alloc_past _ _ _ hlt).trans Y5.out)
  go_simp
  refine ⟨Z1.out, ?_⟩
  try simp only [Act.put, List.setIfInBounds_toArray, List.set_cons_zero, List.set_cons_succ]
  refine wpAnyH_one 12 _ (by kernel_rfl) rfl rfl ?_
  have Z2 := hid (show (((W5.drewN 1).alloc (Obj.cells #[.int .u64 id, .int .u64 m] 41)).alloc (Obj.cells #[.slice A j k, .slice (some ⟨W5.heap.size, 0, none⟩) 1 1, .slice (cutS lay_Hold.size A k j) (n - j) (k - j)] 24)).cell? ⟨w.heap.size, 5, none⟩ = some (.slice A n k) from (World.cell?_alloc_past _ _ _ (by simp; omega)).trans Z1.out)
  go_simp
  first | refine ⟨Z2.out, ?_⟩ | refine ⟨Z1.out, ?_⟩
  try simp only [Act.put, List.setIfInBounds_toArray, List.set_cons_zero, List.set_cons_succ]
  refine wpAnyH_one 13 _ (by kernel_rfl) rfl rfl ?_
  go_simp
  refine HCC.out.mono ?_
  rintro e w6 ⟨v6, rfl, ho6, hb6⟩
  have Z3 := hid ((hb6.cell (p := ⟨w.heap.size, 5, none⟩) hlt).trans Y5.out)
  refine ⟨Z3.out, ?_⟩
  try simp only [Act.put, List.setIfInBounds_toArray, List.set_cons_zero, List.set_cons_succ]
  refine wpAnyH_at 14 (some 94) (.pointer (some ⟨w.heap.size, 5, none⟩)) rfl rfl (by kernel_rfl) (by kernel_rfl) (by kernel_rfl) (fun _ _ _ h => h) rfl (fun w' hS => by go_simp) Z3.out ?_
  simp only [Act.put, List.setIfInBounds_toArray, List.set_cons_zero, List.set_cons_succ]
  refine wpAnyH_done (by kernel_rfl) ?_ _
  change wpList _ _ _ _ _ _
  obtain ⟨A7, n7, c7, rfl, hs7⟩ := ho6.read
  obtain ⟨d, hd⟩ : ∃ z : Chn, z = ⟨c.Id, c.Local - m, c.Remote, c.Reserve, c.Most, withH c.Holds ⟨id, m⟩, c.Open⟩ := ⟨_, rfl⟩
  have HDT := hid (show hoC c id m = d from by rw [hd]; exact QT.out.2)
  have hb6' : Below W5.heap.size W5 w6 := (Below.refl W5.heap.size W5).drew.trans hb6
  have BC6 := BC5.call hb6'
  have BR6 := BR5.call hb6'
  have HB6 := bel_call HB5 hb6'
  have y5 := BC6.all.2.2.2.2.2.1
  have g5 := BC6.f 5
  have HO6 : OwnL lay_Hold w6 W0.heap.size (some W0.heap.size) 41 (.slice A7 n7 c7) d.Holds := by rw [hd]; show OwnL _ _ _ _ _ _ (withH c.Holds ⟨id, m⟩); rw [HW.out]; exact ho6.lows hX5 hX5
  have BC8 : BoxC (w6.setCell ⟨w.heap.size, 5, none⟩ (.slice A7 n7 c7)) w.heap.size d A7 n7 c7 := by rw [hd]; exact BC6.setHol A7 n7 c7
  have BR8 := BR6.setOther (b := w.heap.size) (by omega) 5 (.slice A7 n7 c7)
  have HB8 := HB6.setCell (p := ⟨w.heap.size, 5, none⟩) (Nat.le_refl _) (.slice A7 n7 c7)
  have HO8 := HO6.setLow (b := w.heap.size) (by rw [HZ.out]; omega) (by rw [HZ.out]; omega) 5 (.slice A7 n7 c7)
  clear BC5 BR5 HB5 hs5 HCC ho6 hb6 hb6' hs7 hsu hsf hd HB6 BR6 BC6 HO6 hS0
  go_upto_region 17 with (fail)
  clear y5 g5
  generalize w6.setCell ⟨w.heap.size, 5, none⟩ (.slice A7 n7 c7) = W8 at *
  have B9 := hid (BR8.set d A7 n7 c7)
  have HB9 := hid (Below.setBox HB8 (g := w.heap.size + 1) (Nat.le_succ _) d A7 n7 c7)
  have HO9 := hid ((OwnL.setBox HO8 (g := w.heap.size + 1) (by rw [HZ.out]; omega) d A7 n7 c7).lows (base' := w.heap.size) (lo' := w.heap.size) (by rw [HZ.out]; omega) (by rw [HZ.out]; omega))
  obtain ⟨p0, p1, p2, p3, p4, p5, p6⟩ := BC8.all
  obtain ⟨z0, z1, z2, z3, z4, z5, z6⟩ := BR8.all
  have f0 := BR8.f 0
  have f1 := BR8.f 1
  have f2 := BR8.f 2
  have f3 := BR8.f 3
  have f4 := BR8.f 4
  have f5 := BR8.f 5
  have f6 := BR8.f 6
  clear BC8 BR8 HB8 HO8
  go_wp2
  refine bodyPost_ret_by (results_ct rfl _ _ (w.heap.size + 1) 0 rfl [.int .u64 d.Id, .int .u64 d.Local, .int .u64 d.Remote, .int .u64 d.Reserve, .int .u64 d.Most, .slice A7 n7 c7, .bool d.Open] _ (range7 B9.out) Try.underlying26 rfl (by kernel_rfl)) rfl ?_
  exact ⟨_, by rw [QT.out.1]; rfl, by rw [HDT.out]; exact ⟨_, rfl, HO9.out⟩, HB9.out⟩

end Go.Proofs.Ytanlpcndbfmkiaa
