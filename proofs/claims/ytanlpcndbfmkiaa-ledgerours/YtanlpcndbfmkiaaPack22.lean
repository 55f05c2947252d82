/-
  Package channel: Settle, Fail; all that the package answers.
-/
import Derived.Test.YtanlpcndbfmkiaaPack1
import Derived.Test.YtanlpcndbfmkiaaPack2
import Derived.Test.YtanlpcndbfmkiaaPack3
import Derived.Test.YtanlpcndbfmkiaaPack4
import Derived.Test.YtanlpcndbfmkiaaPack5
import Derived.Test.YtanlpcndbfmkiaaPack6
import Derived.Test.YtanlpcndbfmkiaaPack7
import Derived.Test.YtanlpcndbfmkiaaPack8
import Derived.Test.YtanlpcndbfmkiaaPack9
import Derived.Test.YtanlpcndbfmkiaaPack10
import Derived.Test.YtanlpcndbfmkiaaPack11
import Derived.Test.YtanlpcndbfmkiaaPack12
import Derived.Test.YtanlpcndbfmkiaaPack13
import Derived.Test.YtanlpcndbfmkiaaPack14
import Derived.Test.YtanlpcndbfmkiaaPack15
import Derived.Test.YtanlpcndbfmkiaaPack16
import Derived.Test.YtanlpcndbfmkiaaPack17
import Derived.Test.YtanlpcndbfmkiaaPack18
import Derived.Test.YtanlpcndbfmkiaaPack19
import Derived.Test.YtanlpcndbfmkiaaPack20
import Derived.Test.YtanlpcndbfmkiaaPack21
namespace Go.Proofs.Ytanlpcndbfmkiaa
open Go.RowKit Go.WalkArith

theorem two_rows {w : World} {g : Nat} {x y : Value} {t : TypeId} (h : w.heap[g]? = some (.cells #[x, y] t)) : w.cell? ⟨g, 0, none⟩ = some x ∧ w.cell? ⟨g, 1, none⟩ = some y := by
  constructor <;> simp [World.cell?, h]
theorem cutCatH_any (A : Option Addr) (n k j q g : Nat) (l : List Hld) (W : World) (hg : g = W.heap.size) (h : Sl lay_Hold W (· < W.heap.size) A n k l) (hj : j < n) (hq : q = j + 1) (hn : n ≤ 64) :
    Calls Try.prog 83 #[.slice (some ⟨g, 0, none⟩) 2 2] (W.alloc (Obj.cells #[.slice A j k, .slice (cutS lay_Hold.size A k q) (n - q) (k - q)] 24)) fun e w' => ∃ v', e = .returned v' ∧ OwnL lay_Hold w' W.heap.size (some W.heap.size) 41 v' (l.take j ++ l.drop q) ∧ Below W.heap.size W w' := by
  subst hg
  have hb0 : Below W.heap.size W (W.alloc (Obj.cells #[.slice A j k, .slice (cutS lay_Hold.size A k q) (n - q) (k - q)] 24)) := bel_alloc (Below.refl _ _) _
  have hz : (W.alloc (Obj.cells #[.slice A j k, .slice (cutS lay_Hold.size A k q) (n - q) (k - q)] 24)).heap.size = W.heap.size + 1 := by simp
  obtain ⟨c0, c1⟩ := two_rows (heap_alloc_new W (Obj.cells #[.slice A j k, .slice (cutS lay_Hold.size A k q) (n - q) (k - q)] 24))
  have s1 := (Sl.call h hb0).upto (i := j) (by omega)
  have s3 := (Sl.call h hb0).cut (i := q) (by omega)
  have s : Sl (Lay.slice lay_Hold) (W.alloc (Obj.cells #[.slice A j k, .slice (cutS lay_Hold.size A k q) (n - q) (k - q)] 24)) (· < (W.alloc (Obj.cells #[.slice A j k, .slice (cutS lay_Hold.size A k q) (n - q) (k - q)] 24)).heap.size) (some ⟨W.heap.size, 0, none⟩) 2 2 [l.take j, l.drop q] := by
    refine ⟨rfl, Nat.le_refl _, by unfold maxLen; omega, by simp, fun _ => ⟨W.heap.size, 0, _, rfl, by rw [hz]; omega, ⟨[.slice A j k], [.slice (cutS lay_Hold.size A k q) (n - q) (k - q)], rfl, ⟨_, _, _, rfl, s1⟩, ⟨[_], [], rfl, ⟨_, _, _, rfl, s3⟩, rfl⟩⟩, fun i v hv => ?_⟩⟩
    match i, hv with
    | 0, hv => simp at hv; subst hv; exact c0
    | 1, hv => simp at hv; subst hv; exact c1
  have hl := h.len
  refine (concatH_any _ _ _ _ _ s (by simp; omega)).mono ?_
  rintro e w' ⟨v', rfl, ho, hb⟩
  refine ⟨v', rfl, ?_, bel_call hb0 hb⟩
  have := ho.lows (base' := W.heap.size) (lo' := W.heap.size) hb0.size hb0.size
  simpa using this
theorem less_at {l : List Hld} (hu : HUp l) {id : Int} {j : Nat} (hj : j < l.length) (he : l[j].Id = id) : lessH l id = l.take j ++ l.drop (j + 1) := by
  unfold lessH
  conv => lhs; rw [← List.take_append_drop j l, List.drop_eq_getElem_cons hj]
  rw [List.filter_append, List.filter_cons, if_neg (by simp [he]), List.filter_eq_self.2, List.filter_eq_self.2]
  · intro x hx
    obtain ⟨i, hi, rfl⟩ := List.getElem_of_mem hx
    rw [List.getElem_drop]
    rw [List.length_drop] at hi
    have := List.pairwise_iff_getElem.1 hu j (j + 1 + i) hj (by omega) (by omega)
    have h2 : l[j + 1 + i].Id ≠ id := by omega
    simpa using h2
  · intro x hx
    obtain ⟨i, hi, rfl⟩ := List.getElem_of_mem hx
    rw [List.getElem_take]
    rw [List.length_take] at hi
    have := List.pairwise_iff_getElem.1 hu i j (by omega) hj (by omega)
    have h2 : l[i].Id ≠ id := by omega
    simpa using h2

set_option maxRecDepth 100000 in
set_option maxHeartbeats 4000000 in
theorem giveSettle_any (c : Chn) (A : Option Addr) (n k : Nat) (r : Int) (w : World) (hwr : IntKind.u64.wrap (c.Remote + r) = c.Remote + r) :
    Calls Try.prog 87 #[.agg #[.int .u64 c.Id, .int .u64 c.Local, .int .u64 c.Remote, .int .u64 c.Reserve, .int .u64 c.Most, .slice A n k, .bool c.Open], .int .u64 r] w fun e w' => e = .returned (.agg #[.int .u64 c.Id, .int .u64 c.Local, .int .u64 (c.Remote + r), .int .u64 c.Reserve, .int .u64 c.Most, .slice A n k, .bool c.Open]) ∧ Below w.heap.size w w' := by
  have hb0 : Below w.heap.size w ((w.alloc (Obj.cells #[.int .u64 c.Id, .int .u64 c.Local, .int .u64 c.Remote, .int .u64 c.Reserve, .int .u64 c.Most, .slice A n k, .bool c.Open] 26)).alloc (Obj.cells #[.int .u64 0, .int .u64 0, .int .u64 0, .int .u64 0, .int .u64 0, .slice none 0 0, .bool false] 26)) := bel_alloc (bel_alloc (Below.refl _ _) _) _
  have BC : BoxC ((w.alloc (Obj.cells #[.int .u64 c.Id, .int .u64 c.Local, .int .u64 c.Remote, .int .u64 c.Reserve, .int .u64 c.Most, .slice A n k, .bool c.Open] 26)).alloc (Obj.cells #[.int .u64 0, .int .u64 0, .int .u64 0, .int .u64 0, .int .u64 0, .slice none 0 0, .bool false] 26)) w.heap.size c A n k := heap_alloc2_old _ _ _
  have BR : BoxC ((w.alloc (Obj.cells #[.int .u64 c.Id, .int .u64 c.Local, .int .u64 c.Remote, .int .u64 c.Reserve, .int .u64 c.Most, .slice A n k, .bool c.Open] 26)).alloc (Obj.cells #[.int .u64 0, .int .u64 0, .int .u64 0, .int .u64 0, .int .u64 0, .slice none 0 0, .bool false] 26)) (w.heap.size + 1) zeroCh none 0 0 := alloc2_new _ _ _
  have HZ := hid (show ((w.alloc (Obj.cells #[.int .u64 c.Id, .int .u64 c.Local, .int .u64 c.Remote, .int .u64 c.Reserve, .int .u64 c.Most, .slice A n k, .bool c.Open] 26)).alloc (Obj.cells #[.int .u64 0, .int .u64 0, .int .u64 0, .int .u64 0, .int .u64 0, .slice none 0 0, .bool false] 26)).heap.size = w.heap.size + 2 from by simp)
  go_enter Try.func87, Try.ntmps87
  go_upto_region 1 with (fail)
  generalize ((w.alloc (Obj.cells #[.int .u64 c.Id, .int .u64 c.Local, .int .u64 c.Remote, .int .u64 c.Reserve, .int .u64 c.Most, .slice A n k, .bool c.Open] 26)).alloc (Obj.cells #[.int .u64 0, .int .u64 0, .int .u64 0, .int .u64 0, .int .u64 0, .slice none 0 0, .bool false] 26)) = W0 at *
  obtain ⟨d, hd⟩ : ∃ z : Chn, z = ⟨c.Id, c.Local, c.Remote + r, c.Reserve, c.Most, c.Holds, c.Open⟩ := ⟨_, rfl⟩
  have HDD := hid (show (#[.int .u64 c.Id, .int .u64 c.Local, .int .u64 (c.Remote + r), .int .u64 c.Reserve, .int .u64 c.Most, .slice A n k, .bool c.Open] : Array Value) = #[.int .u64 d.Id, .int .u64 d.Local, .int .u64 d.Remote, .int .u64 d.Reserve, .int .u64 d.Most, .slice A n k, .bool d.Open] from by rw [hd])
  have BC8 : BoxC (W0.setCell ⟨w.heap.size, 2, none⟩ (.int .u64 (c.Remote + r))) w.heap.size d A n k := by rw [hd]; exact BC.setRem (c.Remote + r)
  have BR8 := BR.setOther (b := w.heap.size) (by omega) 2 (.int .u64 (c.Remote + r))
  have HB8 := hb0.setCell (p := ⟨w.heap.size, 2, none⟩) (Nat.le_refl _) (.int .u64 (c.Remote + r))
  obtain ⟨p0, p1, p2, p3, p4, p5, p6⟩ := BC.all
  have g := BC.f 2
  clear hd BC BR
  go_upto_region 2 with (fail)
  clear p0 p1 p2 p3 p4 p5 p6 g
  generalize W0.setCell ⟨w.heap.size, 2, none⟩ (.int .u64 (c.Remote + r)) = W8 at *
  have B9 := hid (BR8.set d A n k)
  have HB9 := hid (Below.setBox HB8 (g := w.heap.size + 1) (Nat.le_succ _) d A n k)
  obtain ⟨p0, p1, p2, p3, p4, p5, p6⟩ := BC8.all
  obtain ⟨z0, z1, z2, z3, z4, z5, z6⟩ := BR8.all
  have f0 := BR8.f 0
  have f1 := BR8.f 1
  have f2 := BR8.f 2
  have f3 := BR8.f 3
  have f4 := BR8.f 4
  have f5 := BR8.f 5
  have f6 := BR8.f 6
  clear BC8 BR8 HB8
  go_wp2
  refine bodyPost_ret_by (results_c rfl _ _ (w.heap.size + 1) 0 rfl [.int .u64 d.Id, .int .u64 d.Local, .int .u64 d.Remote, .int .u64 d.Reserve, .int .u64 d.Most, .slice A n k, .bool d.Open] _ (range7 B9.out) Try.underlying26 rfl (by kernel_rfl)) rfl ?_
  exact ⟨by rw [HDD.out], HB9.out⟩

set_option maxRecDepth 100000 in
set_option maxHeartbeats 8000000 in
theorem endSettle_any (s : Array Value) (c : Chn) (id : Int) (w : World) (r : lay_Channel.rep w (· < w.heap.size) c s.toList) :
    Calls Try.prog 85 #[.agg s, .int .u64 id, .func (.func 87) #[] #[]] w fun e w' => ∃ v, e = .returned (.tuple #[v, .int .u64 (wtN c id), .int .i64 (wtE c id)]) ∧ OwnC w' w.heap.size v (seC c id) ∧ Below w.heap.size w w' := by
  obtain ⟨A, n, k, rfl, hw, hs⟩ := agg_Channel r
  clear r
  have HL := hid hs.len
  have hcap := hs.cap
  unfold maxLen at hcap
  have hb0 : Below w.heap.size w ((w.alloc (Obj.cells #[.int .u64 c.Id, .int .u64 c.Local, .int .u64 c.Remote, .int .u64 c.Reserve, .int .u64 c.Most, .slice A n k, .bool c.Open] 26)).alloc (Obj.cells #[.int .u64 0, .int .u64 0, .int .u64 0, .int .u64 0, .int .u64 0, .slice none 0 0, .bool false] 26)) := bel_alloc (bel_alloc (Below.refl _ _) _) _
  have BC : BoxC ((w.alloc (Obj.cells #[.int .u64 c.Id, .int .u64 c.Local, .int .u64 c.Remote, .int .u64 c.Reserve, .int .u64 c.Most, .slice A n k, .bool c.Open] 26)).alloc (Obj.cells #[.int .u64 0, .int .u64 0, .int .u64 0, .int .u64 0, .int .u64 0, .slice none 0 0, .bool false] 26)) w.heap.size c A n k := heap_alloc2_old _ _ _
  have BR : BoxC ((w.alloc (Obj.cells #[.int .u64 c.Id, .int .u64 c.Local, .int .u64 c.Remote, .int .u64 c.Reserve, .int .u64 c.Most, .slice A n k, .bool c.Open] 26)).alloc (Obj.cells #[.int .u64 0, .int .u64 0, .int .u64 0, .int .u64 0, .int .u64 0, .slice none 0 0, .bool false] 26)) (w.heap.size + 1) zeroCh none 0 0 := alloc2_new _ _ _
  have HZ := hid (show ((w.alloc (Obj.cells #[.int .u64 c.Id, .int .u64 c.Local, .int .u64 c.Remote, .int .u64 c.Reserve, .int .u64 c.Most, .slice A n k, .bool c.Open] 26)).alloc (Obj.cells #[.int .u64 0, .int .u64 0, .int .u64 0, .int .u64 0, .int .u64 0, .slice none 0 0, .bool false] 26)).heap.size = w.heap.size + 2 from by simp)
  have S0 := Sl.call hs hb0
  go_enter Try.func85, Try.ntmps85
  go_upto_region 1 with (fail)
  generalize ((w.alloc (Obj.cells #[.int .u64 c.Id, .int .u64 c.Local, .int .u64 c.Remote, .int .u64 c.Reserve, .int .u64 c.Most, .slice A n k, .bool c.Open] 26)).alloc (Obj.cells #[.int .u64 0, .int .u64 0, .int .u64 0, .int .u64 0, .int .u64 0, .slice none 0 0, .bool false] 26)) = W0 at *
  obtain ⟨p0, p1, p2, p3, p4, p5, p6⟩ := BC.all
  go_wp2_with fail
  refine (cCheck_any _ c _ (chan_in hw S0 (Below.refl _ _))).mono ?_
  rintro e w1 ⟨rfl, hb1⟩
  replace BC := BC.call hb1
  replace BR := BR.call hb1
  have HB := bel_call hb0 hb1
  have HX := hb1
  clear p0 p1 p2 p3 p4 p5 p6 hb1
  rcases ch_is (c := c) with ⟨ok, hE⟩ | ⟨ok, hE⟩
  rotate_left
  · rw [hE]
    have HE := hid (show wtE c id = 1 ∧ wtN c id = 0 ∧ seC c id = zeroCh from by
      have e : wtE c id = 1 := if_neg ok
      have q := wt_no (c := c) (id := id) (by rw [e]; decide)
      exact ⟨e, q.1, q.2.1⟩)
    clear hE ok
    have B9 := hid (BR.set zeroCh none 0 0)
    have HB9 := hid (Below.setBox HB (g := w.heap.size + 1) (Nat.le_succ _) zeroCh none 0 0)
    obtain ⟨z0, z1, z2, z3, z4, z5, z6⟩ := BR.all
    have f0 := BR.f 0
    have f1 := BR.f 1
    have f2 := BR.f 2
    have f3 := BR.f 3
    have f4 := BR.f 4
    have f5 := BR.f 5
    have f6 := BR.f 6
    go_wp2
    refine bodyPost_ret_by (results_ctt rfl _ _ (w.heap.size + 1) 0 rfl [.int .u64 0, .int .u64 0, .int .u64 0, .int .u64 0, .int .u64 0, .slice none 0 0, .bool false] _ (range7 B9.out) Try.underlying26 rfl (by kernel_rfl)) rfl ?_
    exact ⟨_, by rw [HE.out.1, HE.out.2.1]; rfl, by rw [HE.out.2.2]; exact ⟨_, rfl, OwnL.nil _ _ _ _ _⟩, HB9.out⟩
  rw [hE]
  clear hE
  have hn64 : n ≤ 64 := by rw [← HL.out]; exact ok.2.2.1
  have hup : UpF Hld.Id c.Holds := ok.2.2.2.2.2.1
  obtain ⟨p0, p1, p2, p3, p4, p5, p6⟩ := BC.all
  go_upto_region 4 with (fail)
  go_wp2_with fail
  with_reducible refine (placeH_any A n k c.Holds id _ (Sl.call S0 HX) hn64 hup).mono ?_
  rintro e w3 ⟨j, rfl, hj, hb3⟩
  replace BC := BC.call hb3
  replace BR := BR.call hb3
  replace HB := bel_call HB hb3
  replace HX := bel_call HX hb3
  clear p0 p1 p2 p3 p4 p5 p6 hb3
  have HJ := hid hj
  clear hj
  obtain ⟨hit, hhit⟩ : ∃ z, hitF Hld.Id c.Holds id j = z := ⟨_, rfl⟩
  rw [hhit]
  cases hit
  · have hF : holdF c.Holds id = none := HJ.out.none hup hhit
    have HE := hid (show wtE c id = 5 ∧ wtN c id = 0 ∧ seC c id = zeroCh from by
      have e : wtE c id = 5 := (wt_none ok hF).1
      have q := wt_no (c := c) (id := id) (by rw [e]; decide)
      exact ⟨e, q.1, q.2.1⟩)
    clear hF ok hhit
    have B9 := hid (BR.set zeroCh none 0 0)
    have HB9 := hid (Below.setBox HB (g := w.heap.size + 1) (Nat.le_succ _) zeroCh none 0 0)
    obtain ⟨z0, z1, z2, z3, z4, z5, z6⟩ := BR.all
    have f0 := BR.f 0
    have f1 := BR.f 1
    have f2 := BR.f 2
    have f3 := BR.f 3
    have f4 := BR.f 4
    have f5 := BR.f 5
    have f6 := BR.f 6
    go_wp2
    refine bodyPost_ret_by (results_ctt rfl _ _ (w.heap.size + 1) 0 rfl [.int .u64 0, .int .u64 0, .int .u64 0, .int .u64 0, .int .u64 0, .slice none 0 0, .bool false] _ (range7 B9.out) Try.underlying26 rfl (by kernel_rfl)) rfl ?_
    exact ⟨_, by rw [HE.out.1, HE.out.2.1]; rfl, by rw [HE.out.2.2]; exact ⟨_, rfl, OwnL.nil _ _ _ _ _⟩, HB9.out⟩
  obtain ⟨hj1, hj2, hF⟩ := HJ.out.find hhit
  obtain ⟨q1, q2⟩ := wt_of ok (show holdF c.Holds id = some c.Holds[j] from hF)
  have HW := hid (show lessH c.Holds id = c.Holds.take j ++ c.Holds.drop (j + 1) from less_at hup hj1 hj2)
  have hjn : j < n := by rw [← HL.out]; exact hj1
  have hsi := se_is hw (sl_hlds hs) q1
  have QT := hid (show wtE c id = 0 ∧ wtN c id = c.Holds[j].N ∧ seC c id = ⟨c.Id, c.Local, c.Remote + c.Holds[j].N, c.Reserve, c.Most, lessH c.Holds id, c.Open⟩ from ⟨q1, q2, by rw [hsi.1, q2]⟩)
  have hN := (bounds_u64 ((sl_hlds hs) _ (List.getElem_mem hj1)).num)
  have c1 := bounds_u64 hw.loc
  have c2 := bounds_u64 hw.rem
  have hwr : IntKind.u64.wrap (c.Remote + c.Holds[j].N) = c.Remote + c.Holds[j].N := by
    have e := hsi.2.2.2.rem
    rw [hsi.1, q2] at e
    exact IntWalk.u64_in _ (bounds_u64 e)
  clear q1 q2 hsi hN c1 c2 hhit hF hj2 ok
  obtain ⟨b1, o1, hx1, hA1, hb1, t1, t2, hwh⟩ := hld_at (Sl.call S0 HX) hjn
  subst hA1
  obtain ⟨p0, p1, p2, p3, p4, p5, p6⟩ := BC.all
  go_upto_region 8 with (fail)
  clear p0 p1 p2 p3 p4 p5 p6 t1 t2 hwh
  obtain ⟨r, hr⟩ : ∃ z, c.Holds[j].N = z := ⟨_, rfl⟩
  rw [hr] at QT hwr ⊢
  have HRR := hid hr
  clear hr
  have HS5 := hid (Sl.call S0 HX)
  have hX5 : W0.heap.size ≤ w3.heap.size := HX.size
  have BC5 := BC
  have BR5 := BR
  have HB5 := HB
  clear BC BR HB HX
  generalize w3 = W5 at *
  have hlt : w.heap.size < W5.heap.size := by have := HZ.out; omega
  have Y5 := hid BC5.all.2.2.2.2.2.1
  obtain ⟨q, hq⟩ : ∃ q : Nat, q = j + 1 := ⟨_, rfl⟩
  have hqn : q ≤ n := by omega
  have hqn2 : (0 : Int) ≤ (q : Int) ∧ (q : Int) ≤ (n : Int) := by omega
  have hsu := run_uptoL (P := Try.prog) 24 41 .i64 Try.underlying24 Try.elemHld Try.infoHld (some ⟨b1, o1, none⟩) n k j (by omega)
  have hsf := run_fromL (P := Try.prog) 24 41 .i64 Try.underlying24 Try.elemHld Try.infoHld (some ⟨b1, o1, none⟩) n k q (by omega)
  have hw1 : IntKind.i64.wrap ((j : Int) + 1) = (q : Int) := by rw [hq]; exact IntWalk.i64_in _ (by omega)
  have HCC := hid (cutCatH_any (some ⟨b1, o1, none⟩) n k j q W5.heap.size c.Holds (W5.drewN 1) rfl (HS5.out.keep fun _ _ => rfl) hjn hq hn64)
  rw [← hq] at HW
  have HQ := hid hq
  clear hq
  refine wp_region_phase 12 (fun w' : World => w'.cell? ⟨w.heap.size, 5, none⟩ = some (.slice (some ⟨b1, o1, none⟩) n k)) (by kernel_rfl) (by kernel_rfl) ?_
  simp only [List.take_succ_cons, List.take_zero, List.drop_succ_cons, List.drop_zero]
  have hS0 : (fun w' : World => w'.cell? ⟨w.heap.size, 5, none⟩ = some (.slice (some ⟨b1, o1, none⟩) n k)) (W5.drewN 1) := Y5.out
  rw [show Array.replicate 12 false = #[false, false, false, false, false, false, false, false, false, false, false, false] from rfl]
  refine wpAnyH_at 0 (some 35) (.pointer (some ⟨w.heap.size, 5, none⟩)) rfl rfl (by kernel_rfl) (by kernel_rfl) (by kernel_rfl) (fun _ _ _ h => h) rfl (fun w' hS => by go_simp) hS0 ?_
  simp only [Act.put, List.setIfInBounds_toArray, List.set_cons_zero, List.set_cons_succ]
  refine wpAnyH_at 1 (some 36) (.slice (some ⟨b1, o1, none⟩) n k) rfl rfl (by kernel_rfl) (by kernel_rfl) (by kernel_rfl) (fun _ _ _ h => h) rfl (fun w' hS => by have s0 : w'.cell? ⟨w.heap.size, 5, none⟩ = some (.slice (some ⟨b1, o1, none⟩) n k) := hS; go_simp) hS0 ?_
  simp only [Act.put, List.setIfInBounds_toArray, List.set_cons_zero, List.set_cons_succ]
  refine wpAnyH_at 2 (some 37) (.int .i64 j) rfl rfl (by kernel_rfl) (by kernel_rfl) (by kernel_rfl) (fun _ _ _ h => h) rfl (fun w' hS => by go_simp) hS0 ?_
  simp only [Act.put, List.setIfInBounds_toArray, List.set_cons_zero, List.set_cons_succ]
  refine wpAnyH_at 3 (some 38) (.slice (some ⟨b1, o1, none⟩) j k) rfl rfl (by kernel_rfl) (by kernel_rfl) (by kernel_rfl) (fun _ _ _ h => h) rfl (fun w' hS => by go_simp) hS0 ?_
  simp only [Act.put, List.setIfInBounds_toArray, List.set_cons_zero, List.set_cons_succ]
  refine wpAnyH_at 4 (some 39) (.pointer (some ⟨w.heap.size, 5, none⟩)) rfl rfl (by kernel_rfl) (by kernel_rfl) (by kernel_rfl) (fun _ _ _ h => h) rfl (fun w' hS => by go_simp) hS0 ?_
  simp only [Act.put, List.setIfInBounds_toArray, List.set_cons_zero, List.set_cons_succ]
  refine wpAnyH_at 5 (some 40) (.slice (some ⟨b1, o1, none⟩) n k) rfl rfl (by kernel_rfl) (by kernel_rfl) (by kernel_rfl) (fun _ _ _ h => h) rfl (fun w' hS => by have s0 : w'.cell? ⟨w.heap.size, 5, none⟩ = some (.slice (some ⟨b1, o1, none⟩) n k) := hS; go_simp) hS0 ?_
  simp only [Act.put, List.setIfInBounds_toArray, List.set_cons_zero, List.set_cons_succ]
  refine wpAnyH_at 6 (some 41) (.int .i64 j) rfl rfl (by kernel_rfl) (by kernel_rfl) (by kernel_rfl) (fun _ _ _ h => h) rfl (fun w' hS => by go_simp) hS0 ?_
  simp only [Act.put, List.setIfInBounds_toArray, List.set_cons_zero, List.set_cons_succ]
  refine wpAnyH_at 7 (some 42) (.int .i64 (q : Int)) rfl rfl (by kernel_rfl) (by kernel_rfl) (by kernel_rfl) (fun _ _ _ h => h) rfl (fun w' hS => by go_simp) hS0 ?_
  simp only [Act.put, List.setIfInBounds_toArray, List.set_cons_zero, List.set_cons_succ]
  refine wpAnyH_at 8 (some 43) (.slice (cutS lay_Hold.size (some ⟨b1, o1, none⟩) k q) (n - q) (k - q)) rfl rfl (by kernel_rfl) (by kernel_rfl) (by kernel_rfl) (fun _ _ _ h => h) rfl (fun w' hS => by go_simp) hS0 ?_
  simp only [Act.put, List.setIfInBounds_toArray, List.set_cons_zero, List.set_cons_succ]
  refine wpAnyH_one 9 _ (by kernel_rfl) rfl rfl ?_
  have Z1 := hid (show ((W5.drewN 1).alloc (Obj.cells #[.slice (some ⟨b1, o1, none⟩) j k, .slice (cutS lay_Hold.size (some ⟨b1, o1, none⟩) k q) (n - q) (k - q)] 24)).cell? ⟨w.heap.size, 5, none⟩ = some (.slice (some ⟨b1, o1, none⟩) n k) from (World.cell?_alloc_past _ _ _ hlt).trans Y5.out)
  go_simp
  first | refine ⟨Z1.out, ?_⟩ | refine ⟨Y5.out, ?_⟩
  try simp only [Act.put, List.setIfInBounds_toArray, List.set_cons_zero, List.set_cons_succ]
  refine wpAnyH_one 10 _ (by kernel_rfl) rfl rfl ?_
  go_simp
  refine HCC.out.mono ?_
  rintro e w6 ⟨v6, rfl, ho6, hb6⟩
  have Z3 := hid ((hb6.cell (p := ⟨w.heap.size, 5, none⟩) hlt).trans Y5.out)
  refine ⟨Z3.out, ?_⟩
  try simp only [Act.put, List.setIfInBounds_toArray, List.set_cons_zero, List.set_cons_succ]
  refine wpAnyH_at 11 (some 46) (.pointer (some ⟨w.heap.size, 5, none⟩)) rfl rfl (by kernel_rfl) (by kernel_rfl) (by kernel_rfl) (fun _ _ _ h => h) rfl (fun w' hS => by go_simp) Z3.out ?_
  simp only [Act.put, List.setIfInBounds_toArray, List.set_cons_zero, List.set_cons_succ]
  refine wpAnyH_done (by kernel_rfl) ?_ _
  change wpList _ _ _ _ _ _
  obtain ⟨A7, n7, c7, rfl, hs7⟩ := ho6.read
  obtain ⟨d, hd⟩ : ∃ z : Chn, z = ⟨c.Id, c.Local, c.Remote, c.Reserve, c.Most, lessH c.Holds id, c.Open⟩ := ⟨_, rfl⟩
  have hb6' : Below W5.heap.size W5 w6 := (Below.refl W5.heap.size W5).drew.trans hb6
  have BC6 := BC5.call hb6'
  have BR6 := BR5.call hb6'
  have HB6 := bel_call HB5 hb6'
  have y5 := BC6.all.2.2.2.2.2.1
  have g5 := BC6.f 5
  have HO6 : OwnL lay_Hold w6 W0.heap.size (some W0.heap.size) 41 (.slice A7 n7 c7) d.Holds := by rw [hd]; show OwnL _ _ _ _ _ _ (lessH c.Holds id); rw [HW.out]; exact ho6.lows hX5 hX5
  have BC8 : BoxC (w6.setCell ⟨w.heap.size, 5, none⟩ (.slice A7 n7 c7)) w.heap.size d A7 n7 c7 := by rw [hd]; exact BC6.setHol A7 n7 c7
  have BR8 := BR6.setOther (b := w.heap.size) (by omega) 5 (.slice A7 n7 c7)
  have HB8 := HB6.setCell (p := ⟨w.heap.size, 5, none⟩) (Nat.le_refl _) (.slice A7 n7 c7)
  have HO8 := HO6.setLow (b := w.heap.size) (by rw [HZ.out]; omega) (by rw [HZ.out]; omega) 5 (.slice A7 n7 c7)
  have HD := hid (show d.Id = c.Id ∧ d.Local = c.Local ∧ d.Remote = c.Remote ∧ d.Reserve = c.Reserve ∧ d.Most = c.Most ∧ d.Holds = lessH c.Holds id ∧ d.Open = c.Open from by rw [hd]; exact ⟨rfl, rfl, rfl, rfl, rfl, rfl, rfl⟩)
  clear BC5 BR5 HB5 HCC ho6 hb6 hb6' hs7 hsu hsf hd HB6 BR6 BC6 HO6 hS0
  go_upto_region 9 with (fail)
  clear y5 g5
  have hz8 : (w6.setCell ⟨w.heap.size, 5, none⟩ (.slice A7 n7 c7)).heap.size = w6.heap.size := by simp
  have hwr2 : IntKind.u64.wrap (d.Remote + r) = d.Remote + r := by rw [HD.out.2.2.1]; exact hwr
  clear hz8 hwr
  generalize w6.setCell ⟨w.heap.size, 5, none⟩ (.slice A7 n7 c7) = W8 at *
  obtain ⟨p0, p1, p2, p3, p4, p5, p6⟩ := BC8.all
  have HG := hid (giveSettle_any d A7 n7 c7 r W8 hwr2)
  clear hwr2
  go_wp2_with fail
  refine HG.out.mono ?_
  rintro e w9 ⟨rfl, hb9⟩
  clear p0 p1 p2 p3 p4 p5 p6
  have BR9 := BR8.call hb9
  have HB9' := bel_call HB8 hb9
  have HO9' := HO8.keep hb9
  obtain ⟨u, hu⟩ : ∃ z : Chn, z = ⟨d.Id, d.Local, d.Remote + r, d.Reserve, d.Most, d.Holds, d.Open⟩ := ⟨_, rfl⟩
  have HU := hid (show seC c id = u from by
    obtain ⟨h0, h1, h2, h3, h4, h5, h6⟩ := HD.out
    rw [hu, h0, h1, h2, h3, h4, h5, h6]
    exact QT.out.2.2)
  have HO9'' : OwnL lay_Hold w9 W0.heap.size (some W0.heap.size) 41 (.slice A7 n7 c7) u.Holds := by rw [hu]; exact HO9'
  have B9 := hid (BR9.set u A7 n7 c7)
  have HB9 := hid (Below.setBox HB9' (g := w.heap.size + 1) (Nat.le_succ _) u A7 n7 c7)
  have HO9 := hid ((OwnL.setBox HO9'' (g := w.heap.size + 1) (by rw [HZ.out]; omega) u A7 n7 c7).lows (base' := w.heap.size) (lo' := w.heap.size) (by rw [HZ.out]; omega) (by rw [HZ.out]; omega))
  obtain ⟨z0, z1, z2, z3, z4, z5, z6⟩ := BR9.all
  have f0 := BR9.f 0
  have f1 := BR9.f 1
  have f2 := BR9.f 2
  have f3 := BR9.f 3
  have f4 := BR9.f 4
  have f5 := BR9.f 5
  have f6 := BR9.f 6
  have HU2 := hid (show (#[Value.int .u64 d.Id, Value.int .u64 d.Local, Value.int .u64 (d.Remote + r), Value.int .u64 d.Reserve, Value.int .u64 d.Most, .slice A7 n7 c7, .bool d.Open] : Array Value) = #[.int .u64 u.Id, .int .u64 u.Local, .int .u64 u.Remote, .int .u64 u.Reserve, .int .u64 u.Most, .slice A7 n7 c7, .bool u.Open] from by rw [hu])
  clear BC8 BR8 HB8 HO8 BR9 HB9' HO9' HO9'' hu
  rw [HU2.out]
  go_wp2
  refine bodyPost_ret_by (results_ctt rfl _ _ (w.heap.size + 1) 0 rfl [.int .u64 u.Id, .int .u64 u.Local, .int .u64 u.Remote, .int .u64 u.Reserve, .int .u64 u.Most, .slice A7 n7 c7, .bool u.Open] _ (range7 B9.out) Try.underlying26 rfl (by kernel_rfl)) rfl ?_
  exact ⟨_, by rw [QT.out.1, QT.out.2.1]; rfl, by rw [HU.out]; exact ⟨_, rfl, HO9.out⟩, HB9.out⟩

set_option maxRecDepth 100000 in
set_option maxHeartbeats 8000000 in
theorem cSettle_any (s : Array Value) (c : Chn) (id : Int) (w : World) (r : lay_Channel.rep w (· < w.heap.size) c s.toList)  :
    Calls Try.prog 58 #[.agg s, .int .u64 id] w fun e w' => ∃ v, e = .returned (.tuple #[v, .int .u64 (wtN c id), .int .i64 (wtE c id)]) ∧ OwnC w' w.heap.size v (seC c id) ∧ Below w.heap.size w w' := by
  obtain ⟨A, n, k, rfl, hw, hs⟩ := agg_Channel r
  clear r
  have HL := hid hs.len
  have hcap := hs.cap
  unfold maxLen at hcap
  have hb0 : Below w.heap.size w ((w.alloc (Obj.cells #[.int .u64 c.Id, .int .u64 c.Local, .int .u64 c.Remote, .int .u64 c.Reserve, .int .u64 c.Most, .slice A n k, .bool c.Open] 26)).alloc (Obj.cells #[.int .u64 0, .int .u64 0, .int .u64 0, .int .u64 0, .int .u64 0, .slice none 0 0, .bool false] 26)) := bel_alloc (bel_alloc (Below.refl _ _) _) _
  have BC : BoxC ((w.alloc (Obj.cells #[.int .u64 c.Id, .int .u64 c.Local, .int .u64 c.Remote, .int .u64 c.Reserve, .int .u64 c.Most, .slice A n k, .bool c.Open] 26)).alloc (Obj.cells #[.int .u64 0, .int .u64 0, .int .u64 0, .int .u64 0, .int .u64 0, .slice none 0 0, .bool false] 26)) w.heap.size c A n k := heap_alloc2_old _ _ _
  have BR : BoxC ((w.alloc (Obj.cells #[.int .u64 c.Id, .int .u64 c.Local, .int .u64 c.Remote, .int .u64 c.Reserve, .int .u64 c.Most, .slice A n k, .bool c.Open] 26)).alloc (Obj.cells #[.int .u64 0, .int .u64 0, .int .u64 0, .int .u64 0, .int .u64 0, .slice none 0 0, .bool false] 26)) (w.heap.size + 1) zeroCh none 0 0 := alloc2_new _ _ _
  have HZ := hid (show ((w.alloc (Obj.cells #[.int .u64 c.Id, .int .u64 c.Local, .int .u64 c.Remote, .int .u64 c.Reserve, .int .u64 c.Most, .slice A n k, .bool c.Open] 26)).alloc (Obj.cells #[.int .u64 0, .int .u64 0, .int .u64 0, .int .u64 0, .int .u64 0, .slice none 0 0, .bool false] 26)).heap.size = w.heap.size + 2 from by simp)
  have S0 := Sl.call hs hb0
  go_enter Try.func58, Try.ntmps58
  go_upto_region 1 with (fail)
  generalize ((w.alloc (Obj.cells #[.int .u64 c.Id, .int .u64 c.Local, .int .u64 c.Remote, .int .u64 c.Reserve, .int .u64 c.Most, .slice A n k, .bool c.Open] 26)).alloc (Obj.cells #[.int .u64 0, .int .u64 0, .int .u64 0, .int .u64 0, .int .u64 0, .slice none 0 0, .bool false] 26)) = W0 at *
  obtain ⟨p0, p1, p2, p3, p4, p5, p6⟩ := BC.all
  go_wp2_with fail
  refine (endSettle_any _ c id _ (chan_in hw S0 (Below.refl _ _))).mono ?_
  rintro e w1 ⟨v, rfl, ⟨u, rfl, ho1⟩, hb1⟩
  obtain ⟨A7, n7, c7, rfl, hs7⟩ := ho1.read
  have HDT : seC c id = seC c id := rfl
  have BR8 := BR.call hb1
  have HB8 := bel_call hb0 hb1
  have HO8 := ho1
  clear p0 p1 p2 p3 p4 p5 p6 hb1 BC BR hs7 ho1 HDT
  obtain ⟨d, hd⟩ : ∃ z : Chn, seC c id = z := ⟨_, rfl⟩
  rw [hd] at HO8 ⊢
  have HDT := hid hd
  clear hd
  have B9 := hid (BR8.set d A7 n7 c7)
  have HB9 := hid (Below.setBox HB8 (g := w.heap.size + 1) (Nat.le_succ _) d A7 n7 c7)
  have HO9 := hid ((OwnL.setBox HO8 (g := w.heap.size + 1) (by rw [HZ.out]; omega) d A7 n7 c7).lows (base' := w.heap.size) (lo' := w.heap.size) (by rw [HZ.out]; omega) (by rw [HZ.out]; omega))
  obtain ⟨z0, z1, z2, z3, z4, z5, z6⟩ := BR8.all
  have f0 := BR8.f 0
  have f1 := BR8.f 1
  have f2 := BR8.f 2
  have f3 := BR8.f 3
  have f4 := BR8.f 4
  have f5 := BR8.f 5
  have f6 := BR8.f 6
  clear BR8 HB8 HO8
  go_wp2
  refine bodyPost_ret_by (results_ctt rfl _ _ (w.heap.size + 1) 0 rfl [.int .u64 d.Id, .int .u64 d.Local, .int .u64 d.Remote, .int .u64 d.Reserve, .int .u64 d.Most, .slice A7 n7 c7, .bool d.Open] _ (range7 B9.out) Try.underlying26 rfl (by kernel_rfl)) rfl ?_
  exact ⟨_, rfl, by rw [HDT.out]; exact ⟨_, rfl, HO9.out⟩, HB9.out⟩

set_option maxRecDepth 100000 in
set_option maxHeartbeats 4000000 in
theorem giveFail_any (c : Chn) (A : Option Addr) (n k : Nat) (r : Int) (w : World) (hwr : IntKind.u64.wrap (c.Local + r) = c.Local + r) :
    Calls Try.prog 86 #[.agg #[.int .u64 c.Id, .int .u64 c.Local, .int .u64 c.Remote, .int .u64 c.Reserve, .int .u64 c.Most, .slice A n k, .bool c.Open], .int .u64 r] w fun e w' => e = .returned (.agg #[.int .u64 c.Id, .int .u64 (c.Local + r), .int .u64 c.Remote, .int .u64 c.Reserve, .int .u64 c.Most, .slice A n k, .bool c.Open]) ∧ Below w.heap.size w w' := by
  have hb0 : Below w.heap.size w ((w.alloc (Obj.cells #[.int .u64 c.Id, .int .u64 c.Local, .int .u64 c.Remote, .int .u64 c.Reserve, .int .u64 c.Most, .slice A n k, .bool c.Open] 26)).alloc (Obj.cells #[.int .u64 0, .int .u64 0, .int .u64 0, .int .u64 0, .int .u64 0, .slice none 0 0, .bool false] 26)) := bel_alloc (bel_alloc (Below.refl _ _) _) _
  have BC : BoxC ((w.alloc (Obj.cells #[.int .u64 c.Id, .int .u64 c.Local, .int .u64 c.Remote, .int .u64 c.Reserve, .int .u64 c.Most, .slice A n k, .bool c.Open] 26)).alloc (Obj.cells #[.int .u64 0, .int .u64 0, .int .u64 0, .int .u64 0, .int .u64 0, .slice none 0 0, .bool false] 26)) w.heap.size c A n k := heap_alloc2_old _ _ _
  have BR : BoxC ((w.alloc (Obj.cells #[.int .u64 c.Id, .int .u64 c.Local, .int .u64 c.Remote, .int .u64 c.Reserve, .int .u64 c.Most, .slice A n k, .bool c.Open] 26)).alloc (Obj.cells #[.int .u64 0, .int .u64 0, .int .u64 0, .int .u64 0, .int .u64 0, .slice none 0 0, .bool false] 26)) (w.heap.size + 1) zeroCh none 0 0 := alloc2_new _ _ _
  have HZ := hid (show ((w.alloc (Obj.cells #[.int .u64 c.Id, .int .u64 c.Local, .int .u64 c.Remote, .int .u64 c.Reserve, .int .u64 c.Most, .slice A n k, .bool c.Open] 26)).alloc (Obj.cells #[.int .u64 0, .int .u64 0, .int .u64 0, .int .u64 0, .int .u64 0, .slice none 0 0, .bool false] 26)).heap.size = w.heap.size + 2 from by simp)
  go_enter Try.func86, Try.ntmps86
  go_upto_region 1 with (fail)
  generalize ((w.alloc (Obj.cells #[.int .u64 c.Id, .int .u64 c.Local, .int .u64 c.Remote, .int .u64 c.Reserve, .int .u64 c.Most, .slice A n k, .bool c.Open] 26)).alloc (Obj.cells #[.int .u64 0, .int .u64 0, .int .u64 0, .int .u64 0, .int .u64 0, .slice none 0 0, .bool false] 26)) = W0 at *
  obtain ⟨d, hd⟩ : ∃ z : Chn, z = ⟨c.Id, c.Local + r, c.Remote, c.Reserve, c.Most, c.Holds, c.Open⟩ := ⟨_, rfl⟩
  have HDD := hid (show (#[.int .u64 c.Id, .int .u64 (c.Local + r), .int .u64 c.Remote, .int .u64 c.Reserve, .int .u64 c.Most, .slice A n k, .bool c.Open] : Array Value) = #[.int .u64 d.Id, .int .u64 d.Local, .int .u64 d.Remote, .int .u64 d.Reserve, .int .u64 d.Most, .slice A n k, .bool d.Open] from by rw [hd])
  have BC8 : BoxC (W0.setCell ⟨w.heap.size, 1, none⟩ (.int .u64 (c.Local + r))) w.heap.size d A n k := by rw [hd]; exact BC.setLoc (c.Local + r)
  have BR8 := BR.setOther (b := w.heap.size) (by omega) 1 (.int .u64 (c.Local + r))
  have HB8 := hb0.setCell (p := ⟨w.heap.size, 1, none⟩) (Nat.le_refl _) (.int .u64 (c.Local + r))
  obtain ⟨p0, p1, p2, p3, p4, p5, p6⟩ := BC.all
  have g := BC.f 1
  clear hd BC BR
  go_upto_region 2 with (fail)
  clear p0 p1 p2 p3 p4 p5 p6 g
  generalize W0.setCell ⟨w.heap.size, 1, none⟩ (.int .u64 (c.Local + r)) = W8 at *
  have B9 := hid (BR8.set d A n k)
  have HB9 := hid (Below.setBox HB8 (g := w.heap.size + 1) (Nat.le_succ _) d A n k)
  obtain ⟨p0, p1, p2, p3, p4, p5, p6⟩ := BC8.all
  obtain ⟨z0, z1, z2, z3, z4, z5, z6⟩ := BR8.all
  have f0 := BR8.f 0
  have f1 := BR8.f 1
  have f2 := BR8.f 2
  have f3 := BR8.f 3
  have f4 := BR8.f 4
  have f5 := BR8.f 5
  have f6 := BR8.f 6
  clear BC8 BR8 HB8
  go_wp2
  refine bodyPost_ret_by (results_c rfl _ _ (w.heap.size + 1) 0 rfl [.int .u64 d.Id, .int .u64 d.Local, .int .u64 d.Remote, .int .u64 d.Reserve, .int .u64 d.Most, .slice A n k, .bool d.Open] _ (range7 B9.out) Try.underlying26 rfl (by kernel_rfl)) rfl ?_
  exact ⟨by rw [HDD.out], HB9.out⟩

set_option maxRecDepth 100000 in
set_option maxHeartbeats 8000000 in
theorem endFail_any (s : Array Value) (c : Chn) (id : Int) (w : World) (r : lay_Channel.rep w (· < w.heap.size) c s.toList) :
    Calls Try.prog 85 #[.agg s, .int .u64 id, .func (.func 86) #[] #[]] w fun e w' => ∃ v, e = .returned (.tuple #[v, .int .u64 (wtN c id), .int .i64 (wtE c id)]) ∧ OwnC w' w.heap.size v (faC c id) ∧ Below w.heap.size w w' := by
  obtain ⟨A, n, k, rfl, hw, hs⟩ := agg_Channel r
  clear r
  have HL := hid hs.len
  have hcap := hs.cap
  unfold maxLen at hcap
  have hb0 : Below w.heap.size w ((w.alloc (Obj.cells #[.int .u64 c.Id, .int .u64 c.Local, .int .u64 c.Remote, .int .u64 c.Reserve, .int .u64 c.Most, .slice A n k, .bool c.Open] 26)).alloc (Obj.cells #[.int .u64 0, .int .u64 0, .int .u64 0, .int .u64 0, .int .u64 0, .slice none 0 0, .bool false] 26)) := bel_alloc (bel_alloc (Below.refl _ _) _) _
  have BC : BoxC ((w.alloc (Obj.cells #[.int .u64 c.Id, .int .u64 c.Local, .int .u64 c.Remote, .int .u64 c.Reserve, .int .u64 c.Most, .slice A n k, .bool c.Open] 26)).alloc (Obj.cells #[.int .u64 0, .int .u64 0, .int .u64 0, .int .u64 0, .int .u64 0, .slice none 0 0, .bool false] 26)) w.heap.size c A n k := heap_alloc2_old _ _ _
  have BR : BoxC ((w.alloc (Obj.cells #[.int .u64 c.Id, .int .u64 c.Local, .int .u64 c.Remote, .int .u64 c.Reserve, .int .u64 c.Most, .slice A n k, .bool c.Open] 26)).alloc (Obj.cells #[.int .u64 0, .int .u64 0, .int .u64 0, .int .u64 0, .int .u64 0, .slice none 0 0, .bool false] 26)) (w.heap.size + 1) zeroCh none 0 0 := alloc2_new _ _ _
  have HZ := hid (show ((w.alloc (Obj.cells #[.int .u64 c.Id, .int .u64 c.Local, .int .u64 c.Remote, .int .u64 c.Reserve, .int .u64 c.Most, .slice A n k, .bool c.Open] 26)).alloc (Obj.cells #[.int .u64 0, .int .u64 0, .int .u64 0, .int .u64 0, .int .u64 0, .slice none 0 0, .bool false] 26)).heap.size = w.heap.size + 2 from by simp)
  have S0 := Sl.call hs hb0
  go_enter Try.func85, Try.ntmps85
  go_upto_region 1 with (fail)
  generalize ((w.alloc (Obj.cells #[.int .u64 c.Id, .int .u64 c.Local, .int .u64 c.Remote, .int .u64 c.Reserve, .int .u64 c.Most, .slice A n k, .bool c.Open] 26)).alloc (Obj.cells #[.int .u64 0, .int .u64 0, .int .u64 0, .int .u64 0, .int .u64 0, .slice none 0 0, .bool false] 26)) = W0 at *
  obtain ⟨p0, p1, p2, p3, p4, p5, p6⟩ := BC.all
  go_wp2_with fail
  refine (cCheck_any _ c _ (chan_in hw S0 (Below.refl _ _))).mono ?_
  rintro e w1 ⟨rfl, hb1⟩
  replace BC := BC.call hb1
  replace BR := BR.call hb1
  have HB := bel_call hb0 hb1
  have HX := hb1
  clear p0 p1 p2 p3 p4 p5 p6 hb1
  rcases ch_is (c := c) with ⟨ok, hE⟩ | ⟨ok, hE⟩
  rotate_left
  · rw [hE]
    have HE := hid (show wtE c id = 1 ∧ wtN c id = 0 ∧ faC c id = zeroCh from by
      have e : wtE c id = 1 := if_neg ok
      have q := wt_no (c := c) (id := id) (by rw [e]; decide)
      exact ⟨e, q.1, q.2.2⟩)
    clear hE ok
    have B9 := hid (BR.set zeroCh none 0 0)
    have HB9 := hid (Below.setBox HB (g := w.heap.size + 1) (Nat.le_succ _) zeroCh none 0 0)
    obtain ⟨z0, z1, z2, z3, z4, z5, z6⟩ := BR.all
    have f0 := BR.f 0
    have f1 := BR.f 1
    have f2 := BR.f 2
    have f3 := BR.f 3
    have f4 := BR.f 4
    have f5 := BR.f 5
    have f6 := BR.f 6
    go_wp2
    refine bodyPost_ret_by (results_ctt rfl _ _ (w.heap.size + 1) 0 rfl [.int .u64 0, .int .u64 0, .int .u64 0, .int .u64 0, .int .u64 0, .slice none 0 0, .bool false] _ (range7 B9.out) Try.underlying26 rfl (by kernel_rfl)) rfl ?_
    exact ⟨_, by rw [HE.out.1, HE.out.2.1]; rfl, by rw [HE.out.2.2]; exact ⟨_, rfl, OwnL.nil _ _ _ _ _⟩, HB9.out⟩
  rw [hE]
  clear hE
  have hn64 : n ≤ 64 := by rw [← HL.out]; exact ok.2.2.1
  have hup : UpF Hld.Id c.Holds := ok.2.2.2.2.2.1
  obtain ⟨p0, p1, p2, p3, p4, p5, p6⟩ := BC.all
  go_upto_region 4 with (fail)
  go_wp2_with fail
  with_reducible refine (placeH_any A n k c.Holds id _ (Sl.call S0 HX) hn64 hup).mono ?_
  rintro e w3 ⟨j, rfl, hj, hb3⟩
  replace BC := BC.call hb3
  replace BR := BR.call hb3
  replace HB := bel_call HB hb3
  replace HX := bel_call HX hb3
  clear p0 p1 p2 p3 p4 p5 p6 hb3
  have HJ := hid hj
  clear hj
  obtain ⟨hit, hhit⟩ : ∃ z, hitF Hld.Id c.Holds id j = z := ⟨_, rfl⟩
  rw [hhit]
  cases hit
  · have hF : holdF c.Holds id = none := HJ.out.none hup hhit
    have HE := hid (show wtE c id = 5 ∧ wtN c id = 0 ∧ faC c id = zeroCh from by
      have e : wtE c id = 5 := (wt_none ok hF).1
      have q := wt_no (c := c) (id := id) (by rw [e]; decide)
      exact ⟨e, q.1, q.2.2⟩)
    clear hF ok hhit
    have B9 := hid (BR.set zeroCh none 0 0)
    have HB9 := hid (Below.setBox HB (g := w.heap.size + 1) (Nat.le_succ _) zeroCh none 0 0)
    obtain ⟨z0, z1, z2, z3, z4, z5, z6⟩ := BR.all
    have f0 := BR.f 0
    have f1 := BR.f 1
    have f2 := BR.f 2
    have f3 := BR.f 3
    have f4 := BR.f 4
    have f5 := BR.f 5
    have f6 := BR.f 6
    go_wp2
    refine bodyPost_ret_by (results_ctt rfl _ _ (w.heap.size + 1) 0 rfl [.int .u64 0, .int .u64 0, .int .u64 0, .int .u64 0, .int .u64 0, .slice none 0 0, .bool false] _ (range7 B9.out) Try.underlying26 rfl (by kernel_rfl)) rfl ?_
    exact ⟨_, by rw [HE.out.1, HE.out.2.1]; rfl, by rw [HE.out.2.2]; exact ⟨_, rfl, OwnL.nil _ _ _ _ _⟩, HB9.out⟩
  obtain ⟨hj1, hj2, hF⟩ := HJ.out.find hhit
  obtain ⟨q1, q2⟩ := wt_of ok (show holdF c.Holds id = some c.Holds[j] from hF)
  have HW := hid (show lessH c.Holds id = c.Holds.take j ++ c.Holds.drop (j + 1) from less_at hup hj1 hj2)
  have hjn : j < n := by rw [← HL.out]; exact hj1
  have hsi := fa_is hw (sl_hlds hs) q1
  have QT := hid (show wtE c id = 0 ∧ wtN c id = c.Holds[j].N ∧ faC c id = ⟨c.Id, c.Local + c.Holds[j].N, c.Remote, c.Reserve, c.Most, lessH c.Holds id, c.Open⟩ from ⟨q1, q2, by rw [hsi.1, q2]⟩)
  have hN := (bounds_u64 ((sl_hlds hs) _ (List.getElem_mem hj1)).num)
  have c1 := bounds_u64 hw.loc
  have c2 := bounds_u64 hw.rem
  have hwr : IntKind.u64.wrap (c.Local + c.Holds[j].N) = c.Local + c.Holds[j].N := by
    have e := hsi.2.2.2.loc
    rw [hsi.1, q2] at e
    exact IntWalk.u64_in _ (bounds_u64 e)
  clear q1 q2 hsi hN c1 c2 hhit hF hj2 ok
  obtain ⟨b1, o1, hx1, hA1, hb1, t1, t2, hwh⟩ := hld_at (Sl.call S0 HX) hjn
  subst hA1
  obtain ⟨p0, p1, p2, p3, p4, p5, p6⟩ := BC.all
  go_upto_region 8 with (fail)
  clear p0 p1 p2 p3 p4 p5 p6 t1 t2 hwh
  obtain ⟨r, hr⟩ : ∃ z, c.Holds[j].N = z := ⟨_, rfl⟩
  rw [hr] at QT hwr ⊢
  have HRR := hid hr
  clear hr
  have HS5 := hid (Sl.call S0 HX)
  have hX5 : W0.heap.size ≤ w3.heap.size := HX.size
  have BC5 := BC
  have BR5 := BR
  have HB5 := HB
  clear BC BR HB HX
  generalize w3 = W5 at *
  have hlt : w.heap.size < W5.heap.size := by have := HZ.out; omega
  have Y5 := hid BC5.all.2.2.2.2.2.1
  obtain ⟨q, hq⟩ : ∃ q : Nat, q = j + 1 := ⟨_, rfl⟩
  have hqn : q ≤ n := by omega
  have hqn2 : (0 : Int) ≤ (q : Int) ∧ (q : Int) ≤ (n : Int) := by omega
  have hsu := run_uptoL (P := Try.prog) 24 41 .i64 Try.underlying24 Try.elemHld Try.infoHld (some ⟨b1, o1, none⟩) n k j (by omega)
  have hsf := run_fromL (P := Try.prog) 24 41 .i64 Try.underlying24 Try.elemHld Try.infoHld (some ⟨b1, o1, none⟩) n k q (by omega)
  have hw1 : IntKind.i64.wrap ((j : Int) + 1) = (q : Int) := by rw [hq]; exact IntWalk.i64_in _ (by omega)
  have HCC := hid (cutCatH_any (some ⟨b1, o1, none⟩) n k j q W5.heap.size c.Holds (W5.drewN 1) rfl (HS5.out.keep fun _ _ => rfl) hjn hq hn64)
  rw [← hq] at HW
  have HQ := hid hq
  clear hq
  refine wp_region_phase 12 (fun w' : World => w'.cell? ⟨w.heap.size, 5, none⟩ = some (.slice (some ⟨b1, o1, none⟩) n k)) (by kernel_rfl) (by kernel_rfl) ?_
  simp only [List.take_succ_cons, List.take_zero, List.drop_succ_cons, List.drop_zero]
  have hS0 : (fun w' : World => w'.cell? ⟨w.heap.size, 5, none⟩ = some (.slice (some ⟨b1, o1, none⟩) n k)) (W5.drewN 1) := Y5.out
  rw [show Array.replicate 12 false = #[false, false, false, false, false, false, false, false, false, false, false, false] from rfl]
  refine wpAnyH_at 0 (some 35) (.pointer (some ⟨w.heap.size, 5, none⟩)) rfl rfl (by kernel_rfl) (by kernel_rfl) (by kernel_rfl) (fun _ _ _ h => h) rfl (fun w' hS => by go_simp) hS0 ?_
  simp only [Act.put, List.setIfInBounds_toArray, List.set_cons_zero, List.set_cons_succ]
  refine wpAnyH_at 1 (some 36) (.slice (some ⟨b1, o1, none⟩) n k) rfl rfl (by kernel_rfl) (by kernel_rfl) (by kernel_rfl) (fun _ _ _ h => h) rfl (fun w' hS => by have s0 : w'.cell? ⟨w.heap.size, 5, none⟩ = some (.slice (some ⟨b1, o1, none⟩) n k) := hS; go_simp) hS0 ?_
  simp only [Act.put, List.setIfInBounds_toArray, List.set_cons_zero, List.set_cons_succ]
  refine wpAnyH_at 2 (some 37) (.int .i64 j) rfl rfl (by kernel_rfl) (by kernel_rfl) (by kernel_rfl) (fun _ _ _ h => h) rfl (fun w' hS => by go_simp) hS0 ?_
  simp only [Act.put, List.setIfInBounds_toArray, List.set_cons_zero, List.set_cons_succ]
  refine wpAnyH_at 3 (some 38) (.slice (some ⟨b1, o1, none⟩) j k) rfl rfl (by kernel_rfl) (by kernel_rfl) (by kernel_rfl) (fun _ _ _ h => h) rfl (fun w' hS => by go_simp) hS0 ?_
  simp only [Act.put, List.setIfInBounds_toArray, List.set_cons_zero, List.set_cons_succ]
  refine wpAnyH_at 4 (some 39) (.pointer (some ⟨w.heap.size, 5, none⟩)) rfl rfl (by kernel_rfl) (by kernel_rfl) (by kernel_rfl) (fun _ _ _ h => h) rfl (fun w' hS => by go_simp) hS0 ?_
  simp only [Act.put, List.setIfInBounds_toArray, List.set_cons_zero, List.set_cons_succ]
  refine wpAnyH_at 5 (some 40) (.slice (some ⟨b1, o1, none⟩) n k) rfl rfl (by kernel_rfl) (by kernel_rfl) (by kernel_rfl) (fun _ _ _ h => h) rfl (fun w' hS => by have s0 : w'.cell? ⟨w.heap.size, 5, none⟩ = some (.slice (some ⟨b1, o1, none⟩) n k) := hS; go_simp) hS0 ?_
  simp only [Act.put, List.setIfInBounds_toArray, List.set_cons_zero, List.set_cons_succ]
  refine wpAnyH_at 6 (some 41) (.int .i64 j) rfl rfl (by kernel_rfl) (by kernel_rfl) (by kernel_rfl) (fun _ _ _ h => h) rfl (fun w' hS => by go_simp) hS0 ?_
  simp only [Act.put, List.setIfInBounds_toArray, List.set_cons_zero, List.set_cons_succ]
  refine wpAnyH_at 7 (some 42) (.int .i64 (q : Int)) rfl rfl (by kernel_rfl) (by kernel_rfl) (by kernel_rfl) (fun _ _ _ h => h) rfl (fun w' hS => by go_simp) hS0 ?_
  simp only [Act.put, List.setIfInBounds_toArray, List.set_cons_zero, List.set_cons_succ]
  refine wpAnyH_at 8 (some 43) (.slice (cutS lay_Hold.size (some ⟨b1, o1, none⟩) k q) (n - q) (k - q)) rfl rfl (by kernel_rfl) (by kernel_rfl) (by kernel_rfl) (fun _ _ _ h => h) rfl (fun w' hS => by go_simp) hS0 ?_
  simp only [Act.put, List.setIfInBounds_toArray, List.set_cons_zero, List.set_cons_succ]
  refine wpAnyH_one 9 _ (by kernel_rfl) rfl rfl ?_
  have Z1 := hid (show ((W5.drewN 1).alloc (Obj.cells #[.slice (some ⟨b1, o1, none⟩) j k, .slice (cutS lay_Hold.size (some ⟨b1, o1, none⟩) k q) (n - q) (k - q)] 24)).cell? ⟨w.heap.size, 5, none⟩ = some (.slice (some ⟨b1, o1, none⟩) n k) from (World.cell?_alloc_past _ _ _ hlt).trans Y5.out)
  go_simp
  first | refine ⟨Z1.out, ?_⟩ | refine ⟨Y5.out, ?_⟩
  try simp only [Act.put, List.setIfInBounds_toArray, List.set_cons_zero, List.set_cons_succ]
  refine wpAnyH_one 10 _ (by kernel_rfl) rfl rfl ?_
  go_simp
  refine HCC.out.mono ?_
  rintro e w6 ⟨v6, rfl, ho6, hb6⟩
  have Z3 := hid ((hb6.cell (p := ⟨w.heap.size, 5, none⟩) hlt).trans Y5.out)
  refine ⟨Z3.out, ?_⟩
  try simp only [Act.put, List.setIfInBounds_toArray, List.set_cons_zero, List.set_cons_succ]
  refine wpAnyH_at 11 (some 46) (.pointer (some ⟨w.heap.size, 5, none⟩)) rfl rfl (by kernel_rfl) (by kernel_rfl) (by kernel_rfl) (fun _ _ _ h => h) rfl (fun w' hS => by go_simp) Z3.out ?_
  simp only [Act.put, List.setIfInBounds_toArray, List.set_cons_zero, List.set_cons_succ]
  refine wpAnyH_done (by kernel_rfl) ?_ _
  change wpList _ _ _ _ _ _
  obtain ⟨A7, n7, c7, rfl, hs7⟩ := ho6.read
  obtain ⟨d, hd⟩ : ∃ z : Chn, z = ⟨c.Id, c.Local, c.Remote, c.Reserve, c.Most, lessH c.Holds id, c.Open⟩ := ⟨_, rfl⟩
  have hb6' : Below W5.heap.size W5 w6 := (Below.refl W5.heap.size W5).drew.trans hb6
  have BC6 := BC5.call hb6'
  have BR6 := BR5.call hb6'
  have HB6 := bel_call HB5 hb6'
  have y5 := BC6.all.2.2.2.2.2.1
  have g5 := BC6.f 5
  have HO6 : OwnL lay_Hold w6 W0.heap.size (some W0.heap.size) 41 (.slice A7 n7 c7) d.Holds := by rw [hd]; show OwnL _ _ _ _ _ _ (lessH c.Holds id); rw [HW.out]; exact ho6.lows hX5 hX5
  have BC8 : BoxC (w6.setCell ⟨w.heap.size, 5, none⟩ (.slice A7 n7 c7)) w.heap.size d A7 n7 c7 := by rw [hd]; exact BC6.setHol A7 n7 c7
  have BR8 := BR6.setOther (b := w.heap.size) (by omega) 5 (.slice A7 n7 c7)
  have HB8 := HB6.setCell (p := ⟨w.heap.size, 5, none⟩) (Nat.le_refl _) (.slice A7 n7 c7)
  have HO8 := HO6.setLow (b := w.heap.size) (by rw [HZ.out]; omega) (by rw [HZ.out]; omega) 5 (.slice A7 n7 c7)
  have HD := hid (show d.Id = c.Id ∧ d.Local = c.Local ∧ d.Remote = c.Remote ∧ d.Reserve = c.Reserve ∧ d.Most = c.Most ∧ d.Holds = lessH c.Holds id ∧ d.Open = c.Open from by rw [hd]; exact ⟨rfl, rfl, rfl, rfl, rfl, rfl, rfl⟩)
  clear BC5 BR5 HB5 HCC ho6 hb6 hb6' hs7 hsu hsf hd HB6 BR6 BC6 HO6 hS0
  go_upto_region 9 with (fail)
  clear y5 g5
  have hz8 : (w6.setCell ⟨w.heap.size, 5, none⟩ (.slice A7 n7 c7)).heap.size = w6.heap.size := by simp
  have hwr2 : IntKind.u64.wrap (d.Local + r) = d.Local + r := by rw [HD.out.2.1]; exact hwr
  clear hz8 hwr
  generalize w6.setCell ⟨w.heap.size, 5, none⟩ (.slice A7 n7 c7) = W8 at *
  obtain ⟨p0, p1, p2, p3, p4, p5, p6⟩ := BC8.all
  have HG := hid (giveFail_any d A7 n7 c7 r W8 hwr2)
  clear hwr2
  go_wp2_with fail
  refine HG.out.mono ?_
  rintro e w9 ⟨rfl, hb9⟩
  clear p0 p1 p2 p3 p4 p5 p6
  have BR9 := BR8.call hb9
  have HB9' := bel_call HB8 hb9
  have HO9' := HO8.keep hb9
  obtain ⟨u, hu⟩ : ∃ z : Chn, z = ⟨d.Id, d.Local + r, d.Remote, d.Reserve, d.Most, d.Holds, d.Open⟩ := ⟨_, rfl⟩
  have HU := hid (show faC c id = u from by
    obtain ⟨h0, h1, h2, h3, h4, h5, h6⟩ := HD.out
    rw [hu, h0, h1, h2, h3, h4, h5, h6]
    exact QT.out.2.2)
  have HO9'' : OwnL lay_Hold w9 W0.heap.size (some W0.heap.size) 41 (.slice A7 n7 c7) u.Holds := by rw [hu]; exact HO9'
  have B9 := hid (BR9.set u A7 n7 c7)
  have HB9 := hid (Below.setBox HB9' (g := w.heap.size + 1) (Nat.le_succ _) u A7 n7 c7)
  have HO9 := hid ((OwnL.setBox HO9'' (g := w.heap.size + 1) (by rw [HZ.out]; omega) u A7 n7 c7).lows (base' := w.heap.size) (lo' := w.heap.size) (by rw [HZ.out]; omega) (by rw [HZ.out]; omega))
  obtain ⟨z0, z1, z2, z3, z4, z5, z6⟩ := BR9.all
  have f0 := BR9.f 0
  have f1 := BR9.f 1
  have f2 := BR9.f 2
  have f3 := BR9.f 3
  have f4 := BR9.f 4
  have f5 := BR9.f 5
  have f6 := BR9.f 6
  have HU2 := hid (show (#[Value.int .u64 d.Id, Value.int .u64 (d.Local + r), Value.int .u64 d.Remote, Value.int .u64 d.Reserve, Value.int .u64 d.Most, .slice A7 n7 c7, .bool d.Open] : Array Value) = #[.int .u64 u.Id, .int .u64 u.Local, .int .u64 u.Remote, .int .u64 u.Reserve, .int .u64 u.Most, .slice A7 n7 c7, .bool u.Open] from by rw [hu])
  clear BC8 BR8 HB8 HO8 BR9 HB9' HO9' HO9'' hu
  rw [HU2.out]
  go_wp2
  refine bodyPost_ret_by (results_ctt rfl _ _ (w.heap.size + 1) 0 rfl [.int .u64 u.Id, .int .u64 u.Local, .int .u64 u.Remote, .int .u64 u.Reserve, .int .u64 u.Most, .slice A7 n7 c7, .bool u.Open] _ (range7 B9.out) Try.underlying26 rfl (by kernel_rfl)) rfl ?_
  exact ⟨_, by rw [QT.out.1, QT.out.2.1]; rfl, by rw [HU.out]; exact ⟨_, rfl, HO9.out⟩, HB9.out⟩

set_option maxRecDepth 100000 in
set_option maxHeartbeats 8000000 in
theorem cFail_any (s : Array Value) (c : Chn) (id : Int) (w : World) (r : lay_Channel.rep w (· < w.heap.size) c s.toList)  :
    Calls Try.prog 57 #[.agg s, .int .u64 id] w fun e w' => ∃ v, e = .returned (.tuple #[v, .int .u64 (wtN c id), .int .i64 (wtE c id)]) ∧ OwnC w' w.heap.size v (faC c id) ∧ Below w.heap.size w w' := by
  obtain ⟨A, n, k, rfl, hw, hs⟩ := agg_Channel r
  clear r
  have HL := hid hs.len
  have hcap := hs.cap
  unfold maxLen at hcap
  have hb0 : Below w.heap.size w ((w.alloc (Obj.cells #[.int .u64 c.Id, .int .u64 c.Local, .int .u64 c.Remote, .int .u64 c.Reserve, .int .u64 c.Most, .slice A n k, .bool c.Open] 26)).alloc (Obj.cells #[.int .u64 0, .int .u64 0, .int .u64 0, .int .u64 0, .int .u64 0, .slice none 0 0, .bool false] 26)) := bel_alloc (bel_alloc (Below.refl _ _) _) _
  have BC : BoxC ((w.alloc (Obj.cells #[.int .u64 c.Id, .int .u64 c.Local, .int .u64 c.Remote, .int .u64 c.Reserve, .int .u64 c.Most, .slice A n k, .bool c.Open] 26)).alloc (Obj.cells #[.int .u64 0, .int .u64 0, .int .u64 0, .int .u64 0, .int .u64 0, .slice none 0 0, .bool false] 26)) w.heap.size c A n k := heap_alloc2_old _ _ _
  have BR : BoxC ((w.alloc (Obj.cells #[.int .u64 c.Id, .int .u64 c.Local, .int .u64 c.Remote, .int .u64 c.Reserve, .int .u64 c.Most, .slice A n k, .bool c.Open] 26)).alloc (Obj.cells #[.int .u64 0, .int .u64 0, .int .u64 0, .int .u64 0, .int .u64 0, .slice none 0 0, .bool false] 26)) (w.heap.size + 1) zeroCh none 0 0 := alloc2_new _ _ _
  have HZ := hid (show ((w.alloc (Obj.cells #[.int .u64 c.Id, .int .u64 c.Local, .int .u64 c.Remote, .int .u64 c.Reserve, .int .u64 c.Most, .slice A n k, .bool c.Open] 26)).alloc (Obj.cells #[.int .u64 0, .int .u64 0, .int .u64 0, .int .u64 0, .int .u64 0, .slice none 0 0, .bool false] 26)).heap.size = w.heap.size + 2 from by simp)
  have S0 := Sl.call hs hb0
  go_enter Try.func57, Try.ntmps57
  go_upto_region 1 with (fail)
  generalize ((w.alloc (Obj.cells #[.int .u64 c.Id, .int .u64 c.Local, .int .u64 c.Remote, .int .u64 c.Reserve, .int .u64 c.Most, .slice A n k, .bool c.Open] 26)).alloc (Obj.cells #[.int .u64 0, .int .u64 0, .int .u64 0, .int .u64 0, .int .u64 0, .slice none 0 0, .bool false] 26)) = W0 at *
  obtain ⟨p0, p1, p2, p3, p4, p5, p6⟩ := BC.all
  go_wp2_with fail
  refine (endFail_any _ c id _ (chan_in hw S0 (Below.refl _ _))).mono ?_
  rintro e w1 ⟨v, rfl, ⟨u, rfl, ho1⟩, hb1⟩
  obtain ⟨A7, n7, c7, rfl, hs7⟩ := ho1.read
  have HDT : faC c id = faC c id := rfl
  have BR8 := BR.call hb1
  have HB8 := bel_call hb0 hb1
  have HO8 := ho1
  clear p0 p1 p2 p3 p4 p5 p6 hb1 BC BR hs7 ho1 HDT
  obtain ⟨d, hd⟩ : ∃ z : Chn, faC c id = z := ⟨_, rfl⟩
  rw [hd] at HO8 ⊢
  have HDT := hid hd
  clear hd
  have B9 := hid (BR8.set d A7 n7 c7)
  have HB9 := hid (Below.setBox HB8 (g := w.heap.size + 1) (Nat.le_succ _) d A7 n7 c7)
  have HO9 := hid ((OwnL.setBox HO8 (g := w.heap.size + 1) (by rw [HZ.out]; omega) d A7 n7 c7).lows (base' := w.heap.size) (lo' := w.heap.size) (by rw [HZ.out]; omega) (by rw [HZ.out]; omega))
  obtain ⟨z0, z1, z2, z3, z4, z5, z6⟩ := BR8.all
  have f0 := BR8.f 0
  have f1 := BR8.f 1
  have f2 := BR8.f 2
  have f3 := BR8.f 3
  have f4 := BR8.f 4
  have f5 := BR8.f 5
  have f6 := BR8.f 6
  clear BR8 HB8 HO8
  go_wp2
  refine bodyPost_ret_by (results_ctt rfl _ _ (w.heap.size + 1) 0 rfl [.int .u64 d.Id, .int .u64 d.Local, .int .u64 d.Remote, .int .u64 d.Reserve, .int .u64 d.Most, .slice A7 n7 c7, .bool d.Open] _ (range7 B9.out) Try.underlying26 rfl (by kernel_rfl)) rfl ?_
  exact ⟨_, rfl, by rw [HDT.out]; exact ⟨_, rfl, HO9.out⟩, HB9.out⟩
end Go.Proofs.Ytanlpcndbfmkiaa
