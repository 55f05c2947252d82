/-
  The contracts of the document's Held, All, Room, and find, of layer 9.
-/
import Derived.Test.YtanlpcndbfmkiaaChannelRef1
namespace Go.Proofs.Ytanlpcndbfmkiaa
open Go.RowKit Go.WalkArith

set_option maxRecDepth 100000 in
set_option maxHeartbeats 2000000 in
theorem refHeld9_any (s : Array Value) (c : Chn) (w : World) (r : lay_Channel.rep w (· < w.heap.size) c s.toList) :
    Calls Try.prog 66 #[.agg s] w fun e w' => e = .returned (.tuple #[.int .u64 (heV c), .int .i64 (chE c)]) ∧ Below w.heap.size w w' := by
  obtain ⟨A, n, k, rfl, hw, hs⟩ := agg_Channel r
  clear r
  have HL := hid hs.len
  have hcap := hs.cap
  unfold maxLen at hcap
  have hb0 : Below w.heap.size w (w.alloc (Obj.cells #[.int .u64 c.Id, .int .u64 c.Local, .int .u64 c.Remote, .int .u64 c.Reserve, .int .u64 c.Most, .slice A n k, .bool c.Open] 26)) := bel_alloc (Below.refl _ _) _
  have B0 := BoxC.new w c A n k
  go_enter Try.func66, Try.ntmps66
  go_wp2_with fail
  generalize w.alloc (Obj.cells #[.int .u64 c.Id, .int .u64 c.Local, .int .u64 c.Remote, .int .u64 c.Reserve, .int .u64 c.Most, .slice A n k, .bool c.Open] 26) = W0 at *
  refine (refCheck9_any _ c _ (chan_in hw hs hb0)).mono ?_
  rintro e w1 ⟨rfl, hb1⟩
  have HB := bel_call hb0 hb1
  have B1 := B0.call hb1
  clear B0 hb0 hb1
  rcases ch_is (c := c) with ⟨ok, hE⟩ | ⟨ok, hE⟩
  rotate_left
  · have HE := hid hE
    have HV := hid (show heV c = 0 from if_neg ok)
    rw [hE]
    clear hE ok
    go_wp2
    go_ret2
    exact ⟨by rw [HV.out, HE.out]; rfl, HB⟩
  have HE := hid hE
  have HV := hid (show heV c = heldN c from if_pos ok)
  have hn64 : n ≤ 64 := by rw [← HL.out]; exact ok.2.2.1
  obtain ⟨a1, a2, -, -⟩ := ch_add ok
  have AE := hid a1
  have AN := hid a2
  rw [hE]
  clear hE ok a1 a2
  obtain ⟨p0, p1, p2, p3, p4, p5, p6⟩ := B1.all
  go_wp2_with fail
  refine (refAmounts_any A n k c.Holds _ (Sl.call hs HB) (by omega)).mono ?_
  rintro e w3 ⟨v3, rfl, ho3, hb3⟩
  obtain ⟨A3, n3, c3, rfl, hr3⟩ := ho3.formN
  replace HB := bel_call HB hb3
  clear p0 p1 p2 p3 p4 p5 p6 hb3 ho3
  go_wp2_with fail
  refine (rmAdd_any A3 n3 c3 _ (numsH c.Holds) w3 hr3).mono ?_
  rw [AE.out, AN.out]
  rintro e w4 ⟨rfl, rfl⟩
  clear hr3
  go_wp2
  go_ret2
  exact ⟨by rw [HV.out, HE.out]; rfl, HB⟩

set_option maxRecDepth 100000 in
set_option maxHeartbeats 2000000 in
theorem refAll9_any (s : Array Value) (c : Chn) (w : World) (r : lay_Channel.rep w (· < w.heap.size) c s.toList) :
    Calls Try.prog 80 #[.agg s] w fun e w' => e = .returned (.tuple #[.int .u64 (aaV c), .int .i64 (chE c)]) ∧ Below w.heap.size w w' := by
  obtain ⟨A, n, k, rfl, hw, hs⟩ := agg_Channel r
  clear r
  have HL := hid hs.len
  have hcap := hs.cap
  unfold maxLen at hcap
  have hb0 : Below w.heap.size w (w.alloc (Obj.cells #[.int .u64 c.Id, .int .u64 c.Local, .int .u64 c.Remote, .int .u64 c.Reserve, .int .u64 c.Most, .slice A n k, .bool c.Open] 26)) := bel_alloc (Below.refl _ _) _
  have B0 := BoxC.new w c A n k
  go_enter Try.func80, Try.ntmps80
  go_wp2_with fail
  generalize w.alloc (Obj.cells #[.int .u64 c.Id, .int .u64 c.Local, .int .u64 c.Remote, .int .u64 c.Reserve, .int .u64 c.Most, .slice A n k, .bool c.Open] 26) = W0 at *
  refine (refHeld9_any _ c _ (chan_in hw hs hb0)).mono ?_
  rintro e w1 ⟨rfl, hb1⟩
  have HB := bel_call hb0 hb1
  have B1 := B0.call hb1
  clear B0 hb0 hb1
  rcases ch_is (c := c) with ⟨ok, hE⟩ | ⟨ok, hE⟩
  rotate_left
  · have HE := hid hE
    have HV := hid (show aaV c = 0 from if_neg ok)
    rw [hE]
    clear hE ok
    go_wp2
    go_ret2
    exact ⟨by rw [HV.out, HE.out]; rfl, HB⟩
  rw [hE, show heV c = heldN c from if_pos ok]
  have HE := hid hE
  have HV := hid (show aaV c = c.Local + c.Remote + heldN c from if_pos ok)
  obtain ⟨-, -, a1, a2⟩ := ch_add ok
  have h0 := held_nonneg (c := c) (sl_hlds hs)
  have h1 : heldN c ≤ mMax := Int.le_trans ok.2.2.2.2.2.2.2.1 ok.2.1
  have hm : mMax = 4611686018427387904 := rfl
  have wan : (Lit.int .u64 (heldN c)).wf = true := wf_u64 (by omega)
  have HR := hid (rmAdd_any _ _ _ _ _ _ (rd_three w1 c.Local c.Remote (heldN c) hw.loc hw.rem wan))
  rw [a1, a2] at HR
  have HBY := hid (bel_alloc HB (Obj.cells #[.int .u64 c.Local, .int .u64 c.Remote, .int .u64 (heldN c)] 23))
  clear hE ok a1 a2 h0 h1 hm
  obtain ⟨p0, p1, p2, p3, p4, p5, p6⟩ := B1.all
  go_wp2_with fail
  refine HR.out.mono ?_
  rintro e w4 ⟨rfl, rfl⟩
  clear p0 p1 p2 p3 p4 p5 p6
  go_wp2
  go_ret2
  exact ⟨by rw [HV.out, HE.out]; rfl, HBY.out⟩

/-- A block that holds a hold. -/
def BoxH (w : World) (g : Nat) (h : Hld) : Prop := w.heap[g]? = some (.cells #[.int .u64 h.Id, .int .u64 h.N] 41 (0, 0))
section
variable {w w' : World} {g : Nat} {h : Hld}
theorem BoxH.c0 (b : BoxH w g h) : w.cell? ⟨g, 0, none⟩ = some (.int .u64 h.Id) := by unfold BoxH at b; simp [World.cell?, b]
theorem BoxH.c1 (b : BoxH w g h) : w.cell? ⟨g, 1, none⟩ = some (.int .u64 h.N) := by unfold BoxH at b; simp [World.cell?, b]
theorem BoxH.f (b : BoxH w g h) (i : Nat) : w.frozen? ⟨g, i, none⟩ = false := by unfold BoxH at b; simp [World.frozen?, b]
theorem BoxH.lt (b : BoxH w g h) : g < w.heap.size := (Array.getElem?_eq_some_iff.1 b).1
theorem BoxH.call (b : BoxH w g h) (hb : Below w.heap.size w w') : BoxH w' g h := (hb.block g b.lt).trans b
theorem BoxH.new (w : World) (h : Hld) : BoxH (w.alloc (.cells #[.int .u64 h.Id, .int .u64 h.N] 41)) w.heap.size h := heap_alloc_new w _
theorem BoxH.set (b : BoxH w g h) (u : Hld) : BoxH ((w.setCell ⟨g, 0, none⟩ (.int .u64 u.Id)).setCell ⟨g, 1, none⟩ (.int .u64 u.N)) g u := by
  unfold BoxH at *
  have h0 : (w.setCell ⟨g, 0, none⟩ (.int .u64 u.Id)).heap[g]? = some (.cells #[.int .u64 u.Id, .int .u64 h.N] 41 (0, 0)) := heap_setCell_same w g 0 _ _ _ b
  exact heap_setCell_same _ g 1 _ _ _ h0
end
theorem holdF_first {l : List Hld} {id : Int} {j : Nat} (hj : j < l.length) (h : ∀ i (hi : i < l.length), i < j → l[i].Id ≠ id) (e : l[j].Id = id) : holdF l id = some l[j] := by
  unfold holdF
  rw [List.find?_eq_some_iff_getElem]
  refine ⟨by simpa using e, j, hj, rfl, fun i hi => ?_⟩
  have := h i (by omega) hi
  simpa using this
theorem holdF_never {l : List Hld} {id : Int} (h : ∀ i (hi : i < l.length), l[i].Id ≠ id) : holdF l id = none := by
  refine List.find?_eq_none.2 fun x hx => ?_
  obtain ⟨i, hi, rfl⟩ := List.getElem_of_mem hx
  simpa using h i hi
def zeroH : Hld := ⟨0, 0⟩
def FindR (l : List Hld) (id : Int) (h : Hld) (b : Bool) : Prop := (b = true ∧ holdF l id = some h) ∨ (b = false ∧ holdF l id = none)

set_option maxRecDepth 100000 in
set_option maxHeartbeats 2000000 in
theorem refFind9_any (A : Option Addr) (n k : Nat) (l : List Hld) (id : Int) (w : World) (h : Sl lay_Hold w (· < w.heap.size) A n k l) :
    Calls Try.prog 84 #[.slice A n k, .int .u64 id] w fun e w' => ∃ x b, e = .returned (.tuple #[.agg #[.int .u64 x.Id, .int .u64 x.N], .bool b]) ∧ FindR l id x b ∧ Below w.heap.size w w' := by
  have HL := hid h.len
  have hcap := h.cap
  unfold maxLen at hcap
  have hb0 : Below w.heap.size w (w.alloc (Obj.cells #[.int .u64 0, .int .u64 0] 41)) := bel_alloc (Below.refl _ _) _
  have B0 : BoxH (w.alloc (Obj.cells #[.int .u64 0, .int .u64 0] 41)) w.heap.size zeroH := BoxH.new w zeroH
  go_enter Try.func84, Try.ntmps84
  go_wp2
  generalize w.alloc (Obj.cells #[.int .u64 0, .int .u64 0] 41) = W0 at *
  go_loopw [10] (fun i wr => ∃ j : Nat, j ≤ n ∧ i = .int .i64 j ∧ Hid (∀ i (hi : i < l.length), i < j → l[i].Id ≠ id) ∧ BoxH wr w.heap.size zeroH ∧ Below w.heap.size w wr) (fun i _ => n - (intOf i).toNat)
  case atStart => exact ⟨0, Nat.zero_le _, rfl, hid fun i hi h => absurd h (by omega), B0, hb0⟩
  case round =>
  clear B0 hb0
  obtain ⟨j, hj, rfl, HP, BR, hbel⟩ := hrel
  by_cases hlt : j < n
  · obtain ⟨b1, o1, hx1, rfl, hb1, t1, t2, hw⟩ := hld_at h hlt
    have q1 := (hbel.cell (p := ⟨b1, o1 + j * 2, none⟩) hb1).trans t1
    have q2 := (hbel.cell (p := ⟨b1, o1 + j * 2 + 1, none⟩) hb1).trans t2
    have hba := bel_alloc (Below.refl wr.heap.size wr) (Obj.cells #[.int .u64 l[j].Id, .int .u64 l[j].N] 41)
    have BN := BoxH.new wr l[j]
    have BR2 := BR.call hba
    have HBX := bel_call hbel hba
    clear t1 t2 BR
    go_upto_region 4 with (fail)
    generalize wr.alloc (Obj.cells #[.int .u64 l[j].Id, .int .u64 l[j].N] 41) = W5 at *
    have y0 := BN.c0
    have y1 := BN.c1
    by_cases he : l[j].Id = id
    · have de : (l[j].Id == id) = true := by simpa using he
      have HF := hid (show FindR l id l[j] true from .inl ⟨rfl, holdF_first hx1 HP.out he⟩)
      have k0 := BR2.c0
      have k1 := BR2.c1
      have f0 := BR2.f 0
      have f1 := BR2.f 1
      have B9 := hid (BR2.set l[j])
      have HB9 := hid ((HBX.setCell (p := ⟨w.heap.size, 0, none⟩) (Nat.le_refl _) (.int .u64 l[j].Id)).setCell (p := ⟨w.heap.size, 1, none⟩) (Nat.le_refl _) (.int .u64 l[j].N))
      clear he q1 q2
      go_wp2
      refine bodyPost_ret_by (results_ct rfl _ _ w.heap.size 0 rfl [.int .u64 l[j].Id, .int .u64 l[j].N] _ (range2 B9.out.c0 B9.out.c1) Try.underlying41 rfl (by kernel_rfl)) rfl ?_
      exact ⟨_, _, rfl, HF.out, HB9.out⟩
    · have de : (l[j].Id == id) = false := by simpa using he
      have HN := hid (show ∀ i (hi : i < l.length), i < j + 1 → l[i].Id ≠ id from fun i hi h => by
        by_cases hij : i < j
        · exact HP.out i hi hij
        · have e : i = j := by omega
          subst e; exact he)
      clear he q1 q2
      go_wp2
      go_roundw
      case rel => exact ⟨j + 1, by omega, by go_num, HN, BR2, HBX⟩
      case measure => simp [intOf]; omega
  · have HF := hid (show FindR l id zeroH false from .inr ⟨rfl, holdF_never fun i hi => HP.out i hi (by rw [HL.out] at hi; omega)⟩)
    have k0 := BR.c0
    have k1 := BR.c1
    have f0 := BR.f 0
    have f1 := BR.f 1
    have B9 := hid (BR.set zeroH)
    have HB9 := hid ((hbel.setCell (p := ⟨w.heap.size, 0, none⟩) (Nat.le_refl _) (.int .u64 0)).setCell (p := ⟨w.heap.size, 1, none⟩) (Nat.le_refl _) (.int .u64 0))
    go_wp2
    refine bodyPost_ret_by (results_ct rfl _ _ w.heap.size 0 rfl [.int .u64 0, .int .u64 0] _ (range2 B9.out.c0 B9.out.c1) Try.underlying41 rfl (by kernel_rfl)) rfl ?_
    exact ⟨zeroH, _, rfl, HF.out, HB9.out⟩
end Go.Proofs.Ytanlpcndbfmkiaa
