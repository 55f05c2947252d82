/-
  The contract of package arena's Find.
-/
import Derived.Test.YthcikbmekjmmlaaArena5
import Derived.Test.YthcikbmekjmmlaaArenaRef6
namespace Go.Proofs.Ythcikbmekjmmlaa
open Go.RowKit Go.WalkArith

/-- A tag as it is found: 0 where there is none. -/
def tagOf (a : Int) : Int := if 0 ≤ a then a else 0
theorem tag_seat (l : List Trm) (x : Trm) : (if x ∈ l then (plc x l : Int) else 0) = tagOf (seat l x) ∧ decide (x ∈ l) = decide (0 ≤ seat l x) := by
  unfold tagOf seat
  by_cases h : x ∈ l
  · simp [h]
  · simp [h]
theorem goTo_stop {l : List Trm} {ts : List (List Int)} {a : Int} {j : Nat} (h : ¬ 0 ≤ goTo l a (ts.take j)) : ¬ 0 ≤ goTo l a ts := by
  have e := goTo_append (l := l) (ts.take j) (ts.drop j) a
  rw [List.take_append_drop] at e
  rw [e, goTo_no _ (by omega)]
  exact h
theorem MapTo.lookS {w : World} {b : Nat} {l : List Trm} (h : MapTo w b l) (hn : l.Nodup) {x : Trm} (hx : OkTrm x) :
    (Instr.lookup 54 (.map (some b)) (keyV x) true).run Try.prog w = .ok (.tuple #[.int .i64 (tagOf (seat l x)), .bool (decide (0 ≤ seat l x))]) w := by
  rw [h.look hn hx, (tag_seat l x).1, (tag_seat l x).2]

set_option maxRecDepth 100000 in
set_option maxHeartbeats 2000000 in
theorem aFind_any (s1 : Array Value) (l : List Trm) (k : Int) (A : Option Addr) (n c : Nat) (t : List Int) (A2 : Option Addr) (n2 c2 : Nat) (ts : List (List Int)) (w : World) (g1 : lay_Arena.rep w (· < w.heap.size) l s1.toList) (hk : (Lit.int .u64 k).wf = true) (hr : Sl (Lay.int .u8) w (· < w.heap.size) A n c t) (hts : Sl lay_Txt w (· < w.heap.size) A2 n2 c2 ts) (hn2 : n2 ≤ 1000) :
    Calls Try.prog 20 #[.agg s1, .int .u64 k, .slice A n c, .slice A2 n2 c2] w fun e w' => e = .returned (.tuple #[.int .i64 (findI l k t ts), .int .i64 (findE l k t ts)]) ∧ Below w.heap.size w w' := by
  obtain ⟨A1, n1, c1, rfl, hA⟩ := agg_Arena g1
  clear g1
  have HL2 := hid hts.len
  have HLT := hid hr.len
  have hc1 := hA.cap
  unfold maxLen at hc1
  have hn1 : l.length = n1 := hA.len
  have hb0 : Below w.heap.size w (w.alloc (Obj.cells #[.slice A1 n1 c1] 24)) := bel_alloc (Below.refl _ _) _
  have PA := hid (fun (W : World) (h : Below w.heap.size w W) => Sl.call hA h)
  have PT := hid (fun (W : World) (h : Below w.heap.size w W) => Sl.call hr h)
  have PS := hid (fun (W : World) (h : Below w.heap.size w W) => Sl.call hts h)
  have HWT := hid hr.wfI
  clear hA hr hts
  have HPL := hid (places_any _ l _ (rep_Arena.2 ⟨_, _, _, rfl, PA.out _ hb0⟩))
  go_enter Try.func20, Try.ntmps20
  go_wp2_with fail
  refine HPL.out.mono ?_
  rintro e w1 ⟨⟨v, rfl, hmap⟩, hb1⟩
  have HB1 := bel_call hb0 hb1
  clear hb1 hb0 HPL
  by_cases hok : ArOk l
  rotate_left
  · have hE : findE l k t ts = 1 := if_neg hok
    have HI := hid (show findI l k t ts = 0 from if_neg (by rw [hE]; decide))
    have HE := hid hE
    rw [show arE l = 1 from if_neg hok]
    clear hE hmap
    go_wp2
    go_ret2
    exact ⟨by rw [HE.out, HI.out]; rfl, HB1⟩
  have har : arE l = 0 := if_pos hok
  obtain ⟨mb, rfl, hmt, -⟩ := hmap har
  rw [har]
  clear har hmap
  have HMT := hid hmt
  have HAL := hid (anyLong_one A n c t w1 (PT.out w1 HB1))
  clear hmt
  by_cases gl : 4096 < n
  · have hE : findE l k t ts = 4 := by
      rw [findE, if_pos hok, if_neg]
      intro hsh
      have := hsh t (by simp)
      rw [HLT.out] at this
      omega
    have HI := hid (show findI l k t ts = 0 from if_neg (by rw [hE]; decide))
    have HE := hid hE
    rw [decide_eq_true gl] at HAL
    clear hE
    go_wp2_with fail
    refine HAL.out.mono ?_
    rintro e w2 ⟨rfl, hb2⟩
    go_wp2
    go_ret2
    exact ⟨by rw [HE.out, HI.out]; rfl, bel_call HB1 hb2⟩
  rw [decide_eq_false gl] at HAL
  go_wp2_with fail
  refine HAL.out.mono ?_
  rintro e w2 ⟨rfl, hb2⟩
  have HB2 := bel_call HB1 hb2
  have HM2 := hid (HMT.out.below hb2)
  have HAN := hid (anyLong_any A2 n2 c2 _ ts w2 (PS.out w2 HB2))
  clear hb2 HAL HMT
  by_cases gs : shortT ts
  rotate_left
  · have hE : findE l k t ts = 4 := by
      rw [findE, if_pos hok, if_neg]
      intro hsh
      exact gs fun x hx => hsh x (by simp [hx])
    have HI := hid (show findI l k t ts = 0 from if_neg (by rw [hE]; decide))
    have HE := hid hE
    rw [longT_yes gs] at HAN
    clear hE
    go_wp2_with fail
    refine HAN.out.mono ?_
    rintro e w3 ⟨rfl, rfl⟩
    go_wp2
    go_ret2
    exact ⟨by rw [HE.out, HI.out]; rfl, HB2⟩
  rw [longT_no gs] at HAN
  have hsh : shortT (t :: ts) := fun x hx => by
    rcases List.mem_cons.1 hx with rfl | hx
    · rw [HLT.out]; omega
    · exact gs x hx
  have HFE := hid (show findE l k t ts = if 0 ≤ goTo l (seat l (rootT k t)) ts then 0 else 5 from by rw [findE, if_pos hok, if_pos hsh])
  have HGS := hid gs
  have HND := hid hok.nodup
  have HOT := hid (show OkTrm (rootT k t) from ⟨hk, (by decide : (Lit.int .i64 (-1)).wf = true), HWT.out, by show t.length ≤ 4096; rw [HLT.out]; omega⟩)
  clear hsh gs
  go_wp2_with fail
  refine HAN.out.mono ?_
  rintro e w3 ⟨rfl, rfl⟩
  clear HAN
  have HFO := hid (formOf_any #[.int .u64 k, .int .i64 (-1), .slice A n c] (rootT k t) w2 (rep_Term.2 ⟨A, n, c, rfl, hk, (by decide : (Lit.int .i64 (-1)).wf = true), PT.out _ HB2⟩))
  go_wp2_with fail
  refine HFO.out.mono ?_
  rintro e w3 ⟨rfl, hb3⟩
  have HB3 := bel_call HB2 hb3
  have HM3 := hid (HM2.out.below hb3)
  have hlook := HM3.out.lookS HND.out HOT.out
  have hbd0 := seat_bd (l := l) (rootT k t)
  clear hb3 HM2 HFO
  have HFI := hid (show findI l k t ts = if findE l k t ts = 0 then goTo l (seat l (rootT k t)) ts else 0 from rfl)
  have HSEED := hid (show seat l (rootT k t) = goTo l (seat l (rootT k t)) (ts.take 0) from by rw [List.take_zero]; rfl)
  generalize seat l (rootT k t) = sd at *
  go_wp2
  go_loopw [12, 13, 14] (fun tg th i wr => ∃ j : Nat, j ≤ n2 ∧ i = .int .i64 j ∧ tg = .int .i64 (tagOf (goTo l sd (ts.take j))) ∧ th = .bool (decide (0 ≤ goTo l sd (ts.take j))) ∧ MapTo wr mb l ∧ Below w.heap.size w wr) (fun _ _ i _ => n2 - (intOf i).toNat)
  case atStart => exact ⟨0, Nat.zero_le _, rfl, by rw [← HSEED.out], by rw [← HSEED.out], HM3.out, HB3⟩
  case round =>
    obtain ⟨j, hj, rfl, rfl, rfl, hmj, hbel⟩ := hrel
    have HMJ := hid hmj
    clear hmj hlook HSEED HM3 HB3
    have hgb := goTo_bd (l := l) (ts.take j) hbd0.1 hbd0.2
    rw [hn1] at hgb
    have HST := hid (fun h => goTo_stop (l := l) (ts := ts) (a := sd) (j := j) h)
    by_cases hlt : j < n2
    · obtain ⟨b1, o1, A', n', c', hx1, rfl, hb1, t1, hV1⟩ := txt_atA (PS.out wr hbel) hlt
      have HG := hid (goTo_take (l := l) (a := sd) hx1)
      generalize goTo l sd (ts.take j) = a at *
      by_cases ha : 0 ≤ a
      · have HG2 := hid (HG.out.trans (if_pos ha))
        have hwa : (Lit.int .i64 a).wf = true := wf_i64 (by omega)
        have hta : tagOf a = a := if_pos ha
        have hda : decide (0 ≤ a) = true := by simpa using ha
        have HOX := hid (show OkTrm (nextT a ts[j]) from ⟨(by decide : (Lit.int .u64 0).wf = true), hwa, hV1.wfI, HGS.out _ (List.getElem_mem hx1)⟩)
        have HFO := hid (formOf_any #[.int .u64 0, .int .i64 a, .slice A' n' c'] (nextT a ts[j]) wr (rep_Term.2 ⟨A', n', c', rfl, (by decide : (Lit.int .u64 0).wf = true), hwa, hV1⟩))
        clear HG hV1 HST
        rw [hta, hda]
        go_wp2_with fail
        refine HFO.out.mono ?_
        rintro e w5 ⟨rfl, hb5⟩
        have HM5 := hid (HMJ.out.below hb5)
        have hlook := HM5.out.lookS HND.out HOX.out
        go_wp2
        go_roundw
        case rel => exact ⟨j + 1, by omega, by go_num, by rw [HG2.out], by rw [HG2.out], HM5.out, bel_call hbel hb5⟩
        case measure => simp [intOf]; omega
      · have hda : decide (0 ≤ a) = false := by simpa using ha
        have hE := HFE.out.trans (if_neg (HST.out ha))
        have HI := hid (show findI l k t ts = 0 from if_neg (by rw [hE]; decide))
        have HE := hid hE
        rw [hda]
        clear hE HST HG hV1 ha
        go_wp2
        go_ret2
        exact ⟨by rw [HE.out, HI.out]; rfl, hbel⟩
    · have hti : ts.take j = ts := List.take_of_length_le (by rw [HL2.out]; omega)
      rw [hti] at hgb ⊢
      clear hti HST
      have hdj : decide ((j : Int) < (n2 : Int)) = false := by simp; omega
      by_cases ha : 0 ≤ goTo l sd ts
      · have hE := HFE.out.trans (if_pos ha)
        have HI := hid (show findI l k t ts = tagOf (goTo l sd ts) from by rw [HFI.out, if_pos hE, tagOf, if_pos ha])
        have HE := hid hE
        have hda : decide (0 ≤ goTo l sd ts) = true := by simpa using ha
        rw [hda]
        clear hE HFE ha hda
        generalize goTo l sd ts = a at *
        go_wp2
        go_ret2
        exact ⟨by rw [HE.out, HI.out]; rfl, hbel⟩
      · have hE := HFE.out.trans (if_neg ha)
        have HI := hid (show findI l k t ts = 0 from if_neg (by rw [hE]; decide))
        have HE := hid hE
        have hda : decide (0 ≤ goTo l sd ts) = false := by simpa using ha
        rw [hda]
        clear hE HFE ha hda
        generalize goTo l sd ts = a at *
        go_wp2
        go_ret2
        exact ⟨by rw [HE.out, HI.out]; rfl, hbel⟩
end Go.Proofs.Ythcikbmekjmmlaa
