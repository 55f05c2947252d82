/-
  The contracts of the document's Held, All, Room, and find, of layer 9.
  The contract of the document's Same of layer 9.
-/
import Derived.DeepKeys4
import Derived.Deep.QuietTactic
import Derived.Test.YtanlpcndbfmkiaaPack1
import Derived.Test.YtanlpcndbfmkiaaPack2
import Derived.Test.YtanlpcndbfmkiaaPack3
import Derived.Test.YtanlpcndbfmkiaaPack4
import Derived.Test.YtanlpcndbfmkiaaPack5
import Derived.Test.YtanlpcndbfmkiaaPack6
import Derived.Test.YtanlpcndbfmkiaaPack7
import Derived.Test.YtanlpcndbfmkiaaPack8
import Derived.Test.YtanlpcndbfmkiaaPack9
import Derived.Test.YtanlpcndbfmkiaaPack10
import Derived.Test.YtanlpcndbfmkiaaPack11
import Derived.Test.YtanlpcndbfmkiaaPack12
import Derived.Test.YtanlpcndbfmkiaaPack13
namespace Go.Proofs.Ytanlpcndbfmkiaa
open Go.RowKit Go.WalkArith

set_option maxRecDepth 100000 in
set_option maxHeartbeats 2000000 in
theorem refHeld9_any (s : Array Value) (c : Chn) (w : World) (r : lay_Channel.rep w (· < w.heap.size) c s.toList) :
    Calls Try.prog 66 #[.agg s] w fun e w' => e = .returned (.tuple #[.int .u64 (heV c), .int .i64 (chE c)]) ∧ Below w.heap.size w w' := by
  obtain ⟨A, n, k, rfl, hw, hs⟩ := agg_Channel r
  clear r
  have HL := hid hs.len
  have hcap := hs.cap
  unfold maxLen at hcap
  have hb0 : Below w.heap.size w (w.alloc (Obj.cells #[.int .u64 c.Id, .int .u64 c.Local, .int .u64 c.Remote, .int .u64 c.Reserve, .int .u64 c.Most, .slice A n k, .bool c.Open] 26)) := bel_alloc (Below.refl _ _) _
  have B0 := BoxC.new w c A n k
  go_enter Try.func66, Try.ntmps66
  go_wp2_with fail
  generalize w.alloc (Obj.cells #[.int .u64 c.Id, .int .u64 c.Local, .int .u64 c.Remote, .int .u64 c.Reserve, .int .u64 c.Most, .slice A n k, .bool c.Open] 26) = W0 at *
  refine (refCheck9_any _ c _ (chan_in hw hs hb0)).mono ?_
  rintro e w1 ⟨rfl, hb1⟩
  have HB := bel_call hb0 hb1
  have B1 := B0.call hb1
  clear B0 hb0 hb1
  rcases ch_is (c := c) with ⟨ok, hE⟩ | ⟨ok, hE⟩
  rotate_left
  · have HE := hid hE
    have HV := hid (show heV c = 0 from if_neg ok)
    rw [hE]
    clear hE ok
    go_wp2
    go_ret2
    exact ⟨by rw [HV.out, HE.out]; rfl, HB⟩
  have HE := hid hE
  have HV := hid (show heV c = heldN c from if_pos ok)
  have hn64 : n ≤ 64 := by rw [← HL.out]; exact ok.2.2.1
  obtain ⟨a1, a2, -, -⟩ := ch_add ok
  have AE := hid a1
  have AN := hid a2
  rw [hE]
  clear hE ok a1 a2
  obtain ⟨p0, p1, p2, p3, p4, p5, p6⟩ := B1.all
  go_wp2_with fail
  refine (refAmounts_any A n k c.Holds _ (Sl.call hs HB) (by omega)).mono ?_
  rintro e w3 ⟨v3, rfl, ho3, hb3⟩
  obtain ⟨A3, n3, c3, rfl, hr3⟩ := ho3.formN
  replace HB := bel_call HB hb3
  clear p0 p1 p2 p3 p4 p5 p6 hb3 ho3
  go_wp2_with fail
  refine (rmAdd_any A3 n3 c3 _ (numsH c.Holds) w3 hr3).mono ?_
  rw [AE.out, AN.out]
  rintro e w4 ⟨rfl, rfl⟩
  clear hr3
  go_wp2
  go_ret2
  exact ⟨by rw [HV.out, HE.out]; rfl, HB⟩

set_option maxRecDepth 100000 in
set_option maxHeartbeats 2000000 in
theorem refAll9_any (s : Array Value) (c : Chn) (w : World) (r : lay_Channel.rep w (· < w.heap.size) c s.toList) :
    Calls Try.prog 80 #[.agg s] w fun e w' => e = .returned (.tuple #[.int .u64 (aaV c), .int .i64 (chE c)]) ∧ Below w.heap.size w w' := by
  obtain ⟨A, n, k, rfl, hw, hs⟩ := agg_Channel r
  clear r
  have HL := hid hs.len
  have hcap := hs.cap
  unfold maxLen at hcap
  have hb0 : Below w.heap.size w (w.alloc (Obj.cells #[.int .u64 c.Id, .int .u64 c.Local, .int .u64 c.Remote, .int .u64 c.Reserve, .int .u64 c.Most, .slice A n k, .bool c.Open] 26)) := bel_alloc (Below.refl _ _) _
  have B0 := BoxC.new w c A n k
  go_enter Try.func80, Try.ntmps80
  go_wp2_with fail
  generalize w.alloc (Obj.cells #[.int .u64 c.Id, .int .u64 c.Local, .int .u64 c.Remote, .int .u64 c.Reserve, .int .u64 c.Most, .slice A n k, .bool c.Open] 26) = W0 at *
  refine (refHeld9_any _ c _ (chan_in hw hs hb0)).mono ?_
  rintro e w1 ⟨rfl, hb1⟩
  have HB := bel_call hb0 hb1
  have B1 := B0.call hb1
  clear B0 hb0 hb1
  rcases ch_is (c := c) with ⟨ok, hE⟩ | ⟨ok, hE⟩
  rotate_left
  · have HE := hid hE
    have HV := hid (show aaV c = 0 from if_neg ok)
    rw [hE]
    clear hE ok
    go_wp2
    go_ret2
    exact ⟨by rw [HV.out, HE.out]; rfl, HB⟩
  rw [hE, show heV c = heldN c from if_pos ok]
  have HE := hid hE
  have HV := hid (show aaV c = c.Local + c.Remote + heldN c from if_pos ok)
  obtain ⟨-, -, a1, a2⟩ := ch_add ok
  have h0 := held_nonneg (c := c) (sl_hlds hs)
  have h1 : heldN c ≤ mMax := Int.le_trans ok.2.2.2.2.2.2.2.1 ok.2.1
  have hm : mMax = 4611686018427387904 := rfl
  have wan : (Lit.int .u64 (heldN c)).wf = true := wf_u64 (by omega)
  have HR := hid (rmAdd_any _ _ _ _ _ _ (rd_three w1 c.Local c.Remote (heldN c) hw.loc hw.rem wan))
  rw [a1, a2] at HR
  have HBY := hid (bel_alloc HB (Obj.cells #[.int .u64 c.Local, .int .u64 c.Remote, .int .u64 (heldN c)] 23))
  clear hE ok a1 a2 h0 h1 hm
  obtain ⟨p0, p1, p2, p3, p4, p5, p6⟩ := B1.all
  go_wp2_with fail
  refine HR.out.mono ?_
  rintro e w4 ⟨rfl, rfl⟩
  clear p0 p1 p2 p3 p4 p5 p6
  go_wp2
  go_ret2
  exact ⟨by rw [HV.out, HE.out]; rfl, HBY.out⟩

/-- A block that holds a hold. -/
def BoxH (w : World) (g : Nat) (h : Hld) : Prop := w.heap[g]? = some (.cells #[.int .u64 h.Id, .int .u64 h.N] 41 (0, 0))
section
variable {w w' : World} {g : Nat} {h : Hld}
theorem BoxH.c0 (b : BoxH w g h) : w.cell? ⟨g, 0, none⟩ = some (.int .u64 h.Id) := by unfold BoxH at b; simp [World.cell?, b]
theorem BoxH.c1 (b : BoxH w g h) : w.cell? ⟨g, 1, none⟩ = some (.int .u64 h.N) := by unfold BoxH at b; simp [World.cell?, b]
theorem BoxH.f (b : BoxH w g h) (i : Nat) : w.frozen? ⟨g, i, none⟩ = false := by unfold BoxH at b; simp [World.frozen?, b]
theorem BoxH.lt (b : BoxH w g h) : g < w.heap.size := (Array.getElem?_eq_some_iff.1 b).1
theorem BoxH.call (b : BoxH w g h) (hb : Below w.heap.size w w') : BoxH w' g h := (hb.block g b.lt).trans b
theorem BoxH.new (w : World) (h : Hld) : BoxH (w.alloc (.cells #[.int .u64 h.Id, .int .u64 h.N] 41)) w.heap.size h := heap_alloc_new w _
theorem BoxH.set (b : BoxH w g h) (u : Hld) : BoxH ((w.setCell ⟨g, 0, none⟩ (.int .u64 u.Id)).setCell ⟨g, 1, none⟩ (.int .u64 u.N)) g u := by
  unfold BoxH at *
  have h0 : (w.setCell ⟨g, 0, none⟩ (.int .u64 u.Id)).heap[g]? = some (.cells #[.int .u64 u.Id, .int .u64 h.N] 41 (0, 0)) := heap_setCell_same w g 0 _ _ _ b
  exact heap_setCell_same _ g 1 _ _ _ h0
end
theorem holdF_first {l : List Hld} {id : Int} {j : Nat} (hj : j < l.length) (h : ∀ i (hi : i < l.length), i < j → l[i].Id ≠ id) (e : l[j].Id = id) : holdF l id = some l[j] := by
  unfold holdF
  rw [List.find?_eq_some_iff_getElem]
  refine ⟨by simpa using e, j, hj, rfl, fun i hi => ?_⟩
  have := h i (by omega) hi
  simpa using this
theorem holdF_never {l : List Hld} {id : Int} (h : ∀ i (hi : i < l.length), l[i].Id ≠ id) : holdF l id = none := by
  refine List.find?_eq_none.2 fun x hx => ?_
  obtain ⟨i, hi, rfl⟩ := List.getElem_of_mem hx
  simpa using h i hi
def zeroH : Hld := ⟨0, 0⟩
def FindR (l : List Hld) (id : Int) (h : Hld) (b : Bool) : Prop := (b = true ∧ holdF l id = some h) ∨ (b = false ∧ holdF l id = none)

set_option maxRecDepth 100000 in
set_option maxHeartbeats 2000000 in
theorem refFind9_any (A : Option Addr) (n k : Nat) (l : List Hld) (id : Int) (w : World) (h : Sl lay_Hold w (· < w.heap.size) A n k l) :
    Calls Try.prog 84 #[.slice A n k, .int .u64 id] w fun e w' => ∃ x b, e = .returned (.tuple #[.agg #[.int .u64 x.Id, .int .u64 x.N], .bool b]) ∧ FindR l id x b ∧ Below w.heap.size w w' := by
  have HL := hid h.len
  have hcap := h.cap
  unfold maxLen at hcap
  have hb0 : Below w.heap.size w (w.alloc (Obj.cells #[.int .u64 0, .int .u64 0] 41)) := bel_alloc (Below.refl _ _) _
  have B0 : BoxH (w.alloc (Obj.cells #[.int .u64 0, .int .u64 0] 41)) w.heap.size zeroH := BoxH.new w zeroH
  go_enter Try.func84, Try.ntmps84
  go_wp2
  generalize w.alloc (Obj.cells #[.int .u64 0, .int .u64 0] 41) = W0 at *
  go_loopw [10] (fun i wr => ∃ j : Nat, j ≤ n ∧ i = .int .i64 j ∧ Hid (∀ i (hi : i < l.length), i < j → l[i].Id ≠ id) ∧ BoxH wr w.heap.size zeroH ∧ Below w.heap.size w wr) (fun i _ => n - (intOf i).toNat)
  case atStart => exact ⟨0, Nat.zero_le _, rfl, hid fun i hi h => absurd h (by omega), B0, hb0⟩
  case round =>
  clear B0 hb0
  obtain ⟨j, hj, rfl, HP, BR, hbel⟩ := hrel
  by_cases hlt : j < n
  · obtain ⟨b1, o1, hx1, rfl, hb1, t1, t2, hw⟩ := hld_at h hlt
    have q1 := (hbel.cell (p := ⟨b1, o1 + j * 2, none⟩) hb1).trans t1
    have q2 := (hbel.cell (p := ⟨b1, o1 + j * 2 + 1, none⟩) hb1).trans t2
    have hba := bel_alloc (Below.refl wr.heap.size wr) (Obj.cells #[.int .u64 l[j].Id, .int .u64 l[j].N] 41)
    have BN := BoxH.new wr l[j]
    have BR2 := BR.call hba
    have HBX := bel_call hbel hba
    clear t1 t2 BR
    go_upto_region 4 with (fail)
    generalize wr.alloc (Obj.cells #[.int .u64 l[j].Id, .int .u64 l[j].N] 41) = W5 at *
    have y0 := BN.c0
    have y1 := BN.c1
    by_cases he : l[j].Id = id
    · have de : (l[j].Id == id) = true := by simpa using he
      have HF := hid (show FindR l id l[j] true from .inl ⟨rfl, holdF_first hx1 HP.out he⟩)
      have k0 := BR2.c0
      have k1 := BR2.c1
      have f0 := BR2.f 0
      have f1 := BR2.f 1
      have B9 := hid (BR2.set l[j])
      have HB9 := hid ((HBX.setCell (p := ⟨w.heap.size, 0, none⟩) (Nat.le_refl _) (.int .u64 l[j].Id)).setCell (p := ⟨w.heap.size, 1, none⟩) (Nat.le_refl _) (.int .u64 l[j].N))
      clear he q1 q2
      go_wp2
      refine bodyPost_ret_by (results_ct rfl _ _ w.heap.size 0 rfl [.int .u64 l[j].Id, .int .u64 l[j].N] _ (range2 B9.out.c0 B9.out.c1) Try.underlying41 rfl (by kernel_rfl)) rfl ?_
      exact ⟨_, _, rfl, HF.out, HB9.out⟩
    · have de : (l[j].Id == id) = false := by simpa using he
      have HN := hid (show ∀ i (hi : i < l.length), i < j + 1 → l[i].Id ≠ id from fun i hi h => by
        by_cases hij : i < j
        · exact HP.out i hi hij
        · have e : i = j := by omega
          subst e; exact he)
      clear he q1 q2
      go_wp2
      go_roundw
      case rel => exact ⟨j + 1, by omega, by go_num, HN, BR2, HBX⟩
      case measure => simp [intOf]; omega
  · have HF := hid (show FindR l id zeroH false from .inr ⟨rfl, holdF_never fun i hi => HP.out i hi (by rw [HL.out] at hi; omega)⟩)
    have k0 := BR.c0
    have k1 := BR.c1
    have f0 := BR.f 0
    have f1 := BR.f 1
    have B9 := hid (BR.set zeroH)
    have HB9 := hid ((hbel.setCell (p := ⟨w.heap.size, 0, none⟩) (Nat.le_refl _) (.int .u64 0)).setCell (p := ⟨w.heap.size, 1, none⟩) (Nat.le_refl _) (.int .u64 0))
    go_wp2
    refine bodyPost_ret_by (results_ct rfl _ _ w.heap.size 0 rfl [.int .u64 0, .int .u64 0] _ (range2 B9.out.c0 B9.out.c1) Try.underlying41 rfl (by kernel_rfl)) rfl ?_
    exact ⟨zeroH, _, rfl, HF.out, HB9.out⟩
end Go.Proofs.Ytanlpcndbfmkiaa
namespace Go.Proofs.Ytanlpcndbfmkiaa
open Go.RowKit Go.WalkArith

theorem hlCells : Try.prog.cellsOf 41 = 2 := by kernel_rfl
theorem hlCellsU : Try.prog.cellsOf 23 = 1 := by kernel_rfl
theorem hlKey : Try.prog.keyTypeAt 2 41 = true := by kernel_rfl
abbrev hldV (c : Hld) : Value := .agg #[.int .u64 c.Id, .int .u64 c.N]
theorem hlLits {c : Hld} (h : HldWf c) : Try.prog.keyLits 2 41 [.int .u64 c.Id, .int .u64 c.N] = some [.int .u64 c.Id, .int .u64 c.N] := by
  simp [Program.keyLits, Try.underlying41, hlCells, hlCellsU, Try.underlying23, h.id, h.num]
theorem hlFormed (c : Hld) : (hldV c).formed Try.prog 41 = true := by simp [Value.formed, Try.underlying41, hlCells]
/-- Two holds compared. -/
theorem run_neHld {c d : Hld} (hc : HldWf c) (hd : HldWf d) (w : World) : (binOp .neq 41 (.agg #[.int .u64 c.Id, .int .u64 c.N]) (.agg #[.int .u64 d.Id, .int .u64 d.N])).run Try.prog w = .ok (.bool (!decide (c = d))) w := by
  obtain ⟨r, hr, hi⟩ := run_equalIn_deep 9998 2 _ hlKey w 2 2 (hldV c) (hldV d) _ _ (hlFormed c) (hlFormed d) (hlLits hc) (hlLits hd)
  have h9 : (Op.equal 41 (hldV c) (hldV d)).run Try.prog w = .ok r w := hr
  have : r = decide (c = d) := by
    rw [Bool.eq_iff_iff, hi, decide_eq_true_iff]
    constructor
    · intro e
      simp only [List.cons.injEq, Lit.int.injEq, true_and, and_true] at e
      cases c; cases d; simp_all
    · rintro rfl
      rfl
  rw [← this]
  simp [binOp, h9]
theorem take_sameH {l o : List Hld} {j : Nat} (hx : j < l.length) (hy : j < o.length) (h : l.take j = o.take j) (e : l[j] = o[j]) : l.take (j + 1) = o.take (j + 1) := by
  rw [List.take_succ_eq_append_getElem hx, List.take_succ_eq_append_getElem hy, h, e]
theorem Chn.ext' {a b : Chn} (h1 : a.Id = b.Id) (h2 : a.Local = b.Local) (h3 : a.Remote = b.Remote) (h4 : a.Reserve = b.Reserve) (h5 : a.Most = b.Most) (h6 : a.Holds = b.Holds) (h7 : a.Open = b.Open) : a = b := by cases a; cases b; simp_all

set_option maxRecDepth 100000 in
set_option maxHeartbeats 4000000 in
theorem refSame9_any (s t : Array Value) (x y : Chn) (w : World) (r1 : lay_Channel.rep w (· < w.heap.size) x s.toList) (r2 : lay_Channel.rep w (· < w.heap.size) y t.toList) :
    Calls Try.prog 29 #[.agg s, .agg t] w fun e w' => e = .returned (.bool (decide (x = y))) ∧ Below w.heap.size w w' := by
  obtain ⟨A1, n1, c1, rfl, -, hs1⟩ := agg_Channel r1
  obtain ⟨A2, n2, c2, rfl, -, hs2⟩ := agg_Channel r2
  clear r1 r2
  have K1 := hid hs1.len
  have K2 := hid hs2.len
  have k1 := hs1.cap
  have k2 := hs2.cap
  unfold maxLen at k1 k2
  have hb0 : Below w.heap.size w ((w.alloc (Obj.cells #[.int .u64 x.Id, .int .u64 x.Local, .int .u64 x.Remote, .int .u64 x.Reserve, .int .u64 x.Most, .slice A1 n1 c1, .bool x.Open] 26)).alloc (Obj.cells #[.int .u64 y.Id, .int .u64 y.Local, .int .u64 y.Remote, .int .u64 y.Reserve, .int .u64 y.Most, .slice A2 n2 c2, .bool y.Open] 26)) := bel_alloc (bel_alloc (Below.refl _ _) _) _
  have BX : BoxC ((w.alloc (Obj.cells #[.int .u64 x.Id, .int .u64 x.Local, .int .u64 x.Remote, .int .u64 x.Reserve, .int .u64 x.Most, .slice A1 n1 c1, .bool x.Open] 26)).alloc (Obj.cells #[.int .u64 y.Id, .int .u64 y.Local, .int .u64 y.Remote, .int .u64 y.Reserve, .int .u64 y.Most, .slice A2 n2 c2, .bool y.Open] 26)) w.heap.size x A1 n1 c1 := heap_alloc2_old _ _ _
  have BY : BoxC ((w.alloc (Obj.cells #[.int .u64 x.Id, .int .u64 x.Local, .int .u64 x.Remote, .int .u64 x.Reserve, .int .u64 x.Most, .slice A1 n1 c1, .bool x.Open] 26)).alloc (Obj.cells #[.int .u64 y.Id, .int .u64 y.Local, .int .u64 y.Remote, .int .u64 y.Reserve, .int .u64 y.Most, .slice A2 n2 c2, .bool y.Open] 26)) (w.heap.size + 1) y A2 n2 c2 := alloc2_new _ _ _
  go_enter Try.func29, Try.ntmps29
  go_upto_region 1 with (fail)
  generalize ((w.alloc (Obj.cells #[.int .u64 x.Id, .int .u64 x.Local, .int .u64 x.Remote, .int .u64 x.Reserve, .int .u64 x.Most, .slice A1 n1 c1, .bool x.Open] 26)).alloc (Obj.cells #[.int .u64 y.Id, .int .u64 y.Local, .int .u64 y.Remote, .int .u64 y.Reserve, .int .u64 y.Most, .slice A2 n2 c2, .bool y.Open] 26)) = W0 at *
  obtain ⟨p0, p1, p2, p3, p4, p5, p6⟩ := BX.all
  obtain ⟨q0, q1, q2, q3, q4, q5, q6⟩ := BY.all
  by_cases eId : x.Id = y.Id
  rotate_left
  · have dId : (x.Id != y.Id) = true := by simpa using eId
    have HD := hid (show decide (x = y) = false from decide_eq_false fun e => eId (by rw [e]))
    clear eId
    go_wp2
    go_ret
    exact ⟨ret_bool HD.out.symm, hb0⟩
  have dId : (x.Id != y.Id) = false := by simpa using eId
  have EId := hid eId
  clear eId
  by_cases eLocal : x.Local = y.Local
  rotate_left
  · have dLocal : (x.Local != y.Local) = true := by simpa using eLocal
    have HD := hid (show decide (x = y) = false from decide_eq_false fun e => eLocal (by rw [e]))
    clear eLocal
    go_wp2
    go_ret
    exact ⟨ret_bool HD.out.symm, hb0⟩
  have dLocal : (x.Local != y.Local) = false := by simpa using eLocal
  have ELocal := hid eLocal
  clear eLocal
  by_cases eRemote : x.Remote = y.Remote
  rotate_left
  · have dRemote : (x.Remote != y.Remote) = true := by simpa using eRemote
    have HD := hid (show decide (x = y) = false from decide_eq_false fun e => eRemote (by rw [e]))
    clear eRemote
    go_wp2
    go_ret
    exact ⟨ret_bool HD.out.symm, hb0⟩
  have dRemote : (x.Remote != y.Remote) = false := by simpa using eRemote
  have ERemote := hid eRemote
  clear eRemote
  by_cases eReserve : x.Reserve = y.Reserve
  rotate_left
  · have dReserve : (x.Reserve != y.Reserve) = true := by simpa using eReserve
    have HD := hid (show decide (x = y) = false from decide_eq_false fun e => eReserve (by rw [e]))
    clear eReserve
    go_wp2
    go_ret
    exact ⟨ret_bool HD.out.symm, hb0⟩
  have dReserve : (x.Reserve != y.Reserve) = false := by simpa using eReserve
  have EReserve := hid eReserve
  clear eReserve
  by_cases eMost : x.Most = y.Most
  rotate_left
  · have dMost : (x.Most != y.Most) = true := by simpa using eMost
    have HD := hid (show decide (x = y) = false from decide_eq_false fun e => eMost (by rw [e]))
    clear eMost
    go_wp2
    go_ret
    exact ⟨ret_bool HD.out.symm, hb0⟩
  have dMost : (x.Most != y.Most) = false := by simpa using eMost
  have EMost := hid eMost
  clear eMost
  by_cases eO : x.Open = y.Open
  rotate_left
  · have eN : y.Open = !x.Open := by cases h1 : x.Open <;> cases h2 : y.Open <;> simp_all
    have HD := hid (show decide (x = y) = false from decide_eq_false fun e => eO (by rw [e]))
    rw [eN] at q6
    clear eO eN
    obtain ⟨ox, hox⟩ : ∃ z, x.Open = z := ⟨_, rfl⟩
    rw [hox] at p6 q6
    have HOX := hid hox
    clear hox
    cases ox
    · go_wp2
      go_ret
      exact ⟨ret_bool HD.out.symm, hb0⟩
    · go_wp2
      go_ret
      exact ⟨ret_bool HD.out.symm, hb0⟩
  rw [← eO] at q6
  have dO : (x.Open != x.Open) = false := by simp
  have EO := hid eO
  clear eO
  by_cases hn : n1 = n2
  rotate_left
  · have dn : ((n1 : Int) != (n2 : Int)) = true := by simp; omega
    have HD := hid (show decide (x = y) = false from decide_eq_false fun e => hn (by rw [← K1.out, ← K2.out, e]))
    go_wp2
    go_ret
    exact ⟨ret_bool HD.out.symm, hb0⟩
  subst hn
  have dn : ((n1 : Int) != (n1 : Int)) = false := by simp
  have KX := hid (fun (W : World) (h : Below W0.heap.size W0 W) => And.intro (BX.call h).all.2.2.2.2.2.1 (BY.call h).all.2.2.2.2.2.1)
  go_wp2
  clear p0 p1 p2 p3 p4 p5 p6 q0 q1 q2 q3 q4 q5 q6
  go_loopw [58] (fun i wr => ∃ j : Nat, j ≤ n1 ∧ i = .int .i64 j ∧ Hid (x.Holds.take j = y.Holds.take j) ∧ Below W0.heap.size W0 wr) (fun i _ => n1 - (intOf i).toNat)
  case atStart => exact ⟨0, Nat.zero_le _, rfl, hid rfl, Below.refl _ _⟩
  case round =>
  obtain ⟨j, hj, rfl, HP, hbel⟩ := hrel
  have hbw := bel_call hb0 hbel
  by_cases hlt : j < n1
  · obtain ⟨b1, o1, hx1, rfl, -, t1, t2, w1⟩ := hld_at (Sl.call hs1 hbw) hlt
    obtain ⟨b2, o2, hx2, rfl, -, u1, u2, w2⟩ := hld_at (Sl.call hs2 hbw) hlt
    have hne2 := run_neHld w1 w2
    clear w1 w2
    obtain ⟨p5, q5⟩ := KX.out _ hbel
    by_cases he : x.Holds[j] = y.Holds[j]
    · have HN := hid (take_sameH hx1 hx2 HP.out he)
      rw [decide_eq_true he] at hne2
      clear he
      go_wp2_with fail
      go_quiet (fail)
      go_wp2
      go_roundw
      case rel => exact ⟨j + 1, by omega, by go_num, HN, bel_drewN hbel _⟩
      case measure => simp [intOf]; omega
    · have HD := hid (show decide (x = y) = false from decide_eq_false fun e => he (by simp only [e]))
      rw [decide_eq_false he] at hne2
      clear he
      go_wp2_with fail
      go_quiet (fail)
      go_wp2
      go_ret
      exact ⟨ret_bool HD.out.symm, bel_drewN hbw _⟩
  · have HD := hid (show decide (x = y) = true from by
      have := HP.out
      rw [List.take_of_length_le (by rw [K1.out]; omega), List.take_of_length_le (by rw [K2.out]; omega)] at this
      exact decide_eq_true (Chn.ext' EId.out ELocal.out ERemote.out EReserve.out EMost.out this EO.out))
    go_wp2
    go_ret
    exact ⟨ret_bool HD.out.symm, hbw⟩
end Go.Proofs.Ytanlpcndbfmkiaa
