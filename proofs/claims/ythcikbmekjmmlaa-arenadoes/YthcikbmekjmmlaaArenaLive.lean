/-
  The statements' example of layer 5, and their 'made'.
-/
import Derived.Test.YthcikbmekjmmlaaArenaAll
import Derived.Test.YthcikbmekjmmlaaFrameRef
namespace Go.Proofs.Ythcikbmekjmmlaa
open Go.RowKit Go.WalkArith

def egT : Trm := rootT 7 []
theorem arOk_nil : ArOk [] := ⟨by simp, fun i hi => by simp at hi⟩
theorem eg_new : withE [] egT = 0 ∧ withI [] egT = 0 ∧ withL [] egT = [egT] := by
  rcases with_cases (l := []) egT with ⟨_, _, _, _, _, h, _⟩ | ⟨h1, _, _, _, _, _, _, h2, h3⟩ | ⟨_, _, _, _, _, _, h, _⟩ | ⟨_, _, _, _, h, _⟩ | ⟨_, h, _⟩
  · simp at h
  · exact ⟨h1, h3, h2⟩
  · simp at h
  · simp [egT, rootT] at h
  · exact absurd ⟨arOk_nil, by simp [egT, rootT], by simp [egT, rootT]⟩ h
theorem eg_ok : ArOk [egT] := ArOk.push (l := []) arOk_nil (by simp) ⟨by simp [egT, rootT], by simp [egT, rootT], by simp [egT, rootT], by simp [egT, rootT]⟩ (by simp)
theorem eg_again : withE [egT] egT = 0 ∧ withI [egT] egT = 0 ∧ withL [egT] egT = [egT] := by
  have h := with_there eg_ok (i := 0) (by simp)
  exact ⟨h.1, h.2.2, h.2.1⟩

set_option maxRecDepth 100000 in
set_option maxHeartbeats 2000000 in
theorem live5_any (w : World) : Calls Try.prog 8 #[] w fun e w' => e = .returned (.bool true) ∧ Below w.heap.size w w' := by
  have H1 := hid eg_new
  have H2 := hid eg_again
  have N := hid (fun W : World => Rd.nil W W.heap.size .u8)
  go_enter Try.func8, Try.ntmps8
  go_wp2_with fail
  refine (aRoot_any #[.slice none 0 0] [] 7 none 0 0 [] w (rep_Arena.2 ⟨none, 0, 0, rfl, Sl.nil _ _ _⟩) (by decide) (N.out w)).mono ?_
  rw [show rootT 7 [] = egT from rfl, H1.out.1, H1.out.2.1, H1.out.2.2]
  rintro e w1 ⟨v1, rfl, ho1, hb1⟩
  obtain ⟨A1, n1, c1, rfl, hs1⟩ := ho1.read
  go_wp2_with fail
  have hba : Below w1.heap.size w1 (w1.alloc (Obj.cells #[.slice A1 n1 c1] 24)) := bel_alloc (Below.refl _ _) _
  refine (aRoot_any #[.slice A1 n1 c1] [egT] 7 none 0 0 [] _ (rep_Arena.2 ⟨A1, n1, c1, rfl, Sl.call hs1 hba⟩) (by decide) (N.out _)).mono ?_
  rw [show rootT 7 [] = egT from rfl, H2.out.1, H2.out.2.1, H2.out.2.2]
  rintro e w2 ⟨v2, rfl, ho2, hb2⟩
  obtain ⟨A2, n2, c2, rfl, hs2⟩ := ho2.read
  have hn2 : n2 = 1 := hs2.len.symm
  subst hn2
  go_wp2
  go_ret
  exact ⟨rfl, by (repeat (first | exact Below.refl _ _ | refine Below.drew ?_ | refine bel_drewN ?_ _ | refine bel_alloc ?_ _ | refine bel_call ?_ (by assumption)))⟩

theorem mkS_take {l : List Trm} {k : Int} {t : List Int} {ts : List (List Int)} {j : Nat} (hj : j < ts.length) : mkS l k t (ts.take (j + 1)) = stepM (mkS l k t (ts.take j)) ts[j] := by
  rw [mkS, List.take_succ_eq_append_getElem hj, List.foldl_append]
  rfl
theorem mkS_bd {l : List Trm} {k : Int} {t : List Int} {ts : List (List Int)} (h : (mkS l k t ts).e = 0) : 0 ≤ (mkS l k t ts).i ∧ (mkS l k t ts).i < 1048576 := by
  obtain ⟨o, i, hi, _, e2, e3, _⟩ := mk_good l k t ts h
  have := e3.1
  rw [e2]
  omega

set_option maxRecDepth 100000 in
set_option maxHeartbeats 2000000 in
theorem made_any (s1 : Array Value) (l : List Trm) (k : Int) (A : Option Addr) (n c : Nat) (t : List Int) (A2 : Option Addr) (n2 c2 : Nat) (ts : List (List Int)) (w : World) (g1 : lay_Arena.rep w (· < w.heap.size) l s1.toList) (hk : (Lit.int .u64 k).wf = true) (hr : Sl (Lay.int .u8) w (· < w.heap.size) A n c t) (hts : Sl lay_Txt w (· < w.heap.size) A2 n2 c2 ts) :
    Calls Try.prog 25 #[.agg s1, .int .u64 k, .slice A n c, .slice A2 n2 c2] w fun e w' => ∃ v', e = .returned (.tuple #[.agg #[v'], .int .i64 (mkS l k t ts).i, .bool (decide ((mkS l k t ts).e = 0))]) ∧ OwnL lay_Term w' w.heap.size (some w.heap.size) 39 v' (mkS l k t ts).l ∧ Below w.heap.size w w' := by
  obtain ⟨A1, n1, c1, rfl, hA⟩ := agg_Arena g1
  clear g1
  have HL2 := hid hts.len
  have hc2 := hts.cap
  unfold maxLen at hc2
  have hz : ((w.alloc (Obj.cells #[.slice A1 n1 c1] 24)).alloc (Obj.cells #[.slice none 0 0] 24)).heap.size = w.heap.size + 2 := by simp
  have hb0 : Below w.heap.size w ((w.alloc (Obj.cells #[.slice A1 n1 c1] 24)).alloc (Obj.cells #[.slice none 0 0] 24)) := bel_alloc (bel_alloc (Below.refl _ _) _) _
  have hB2 := fun (W : World) (h : Below (w.heap.size + 2) ((w.alloc (Obj.cells #[.slice A1 n1 c1] 24)).alloc (Obj.cells #[.slice none 0 0] 24)) W) => two_blocks2 h
  have PA := hid (Sl.call hA hb0)
  have PT := hid ((hr.rd (B := w.heap.size) fun _ h => h).below hb0 |>.more hb0.size)
  have PS := hid (fun (W : World) (h : Below w.heap.size w W) => hts.keep (w' := W) fun _ hp => h.cell hp)
  clear hA hr hts
  go_enter Try.func25, Try.ntmps25
  go_wp2_with fail
  generalize ((w.alloc (Obj.cells #[.slice A1 n1 c1] 24)).alloc (Obj.cells #[.slice none 0 0] 24)) = W0 at *
  refine (aRoot_any #[.slice A1 n1 c1] l k A n c t W0 (rep_Arena.2 ⟨_, _, _, rfl, PA.out⟩) hk PT.out).mono ?_
  rintro e w1 ⟨v1, rfl, ho1, hb1⟩
  obtain ⟨A3, n3, c3, rfl, hs3⟩ := ho1.read
  obtain ⟨q2, q3⟩ := hB2 w1 (by rw [← hz]; exact hb1)
  have HB1 : Below w.heap.size w w1 := bel_call hb0 hb1
  have x2 := cell_of_one q2
  have f2 := free_of_one q2
  rw [hz] at ho1
  have ho2 := ho1.setLow (b := w.heap.size) (by omega) (by omega) 0 (.slice A3 n3 c3)
  have hq2 := one_setCell (u := .slice A3 n3 c3) q2
  have hq3 : (w1.setCell ⟨w.heap.size, 0, none⟩ (.slice A3 n3 c3)).heap[w.heap.size + 1]? = _ := (heap_setCell_other _ _ _ _ (by simp)).trans q3
  have HB2 : Below w.heap.size w (w1.setCell ⟨w.heap.size, 0, none⟩ (.slice A3 n3 c3)) := HB1.setCell (Nat.le_refl _) _
  have hz2 : w.heap.size + 2 ≤ (w1.setCell ⟨w.heap.size, 0, none⟩ (.slice A3 n3 c3)).heap.size := by have := hb1.size; simp; omega
  clear hB2 hb1 hb0 hs3 ho1
  go_wp2
  generalize w1.setCell ⟨w.heap.size, 0, none⟩ (.slice A3 n3 c3) = W2 at *
  clear x2 f2 q2 q3 HB1
  go_loopw [11, 12, 25] (fun tg er i wr => ∃ (j : Nat) (u : Value), j ≤ n2 ∧ i = .int .i64 j ∧ tg = .int .i64 (mkS l k t (ts.take j)).i ∧ er = .int .i64 (mkS l k t (ts.take j)).e ∧ OwnL lay_Term wr (w.heap.size + 2) (some (w.heap.size + 2)) 39 u (mkS l k t (ts.take j)).l ∧ wr.heap[w.heap.size]? = some (Obj.cells #[u] 24 (0, 0)) ∧ wr.heap[w.heap.size + 1]? = some (Obj.cells #[.slice none 0 0] 24 (0, 0)) ∧ w.heap.size + 2 ≤ wr.heap.size ∧ Below w.heap.size w wr) (fun _ _ i _ => n2 - (intOf i).toNat)
  case atStart => exact ⟨0, _, Nat.zero_le _, rfl, rfl, rfl, ho2, hq2, hq3, hz2, HB2⟩
  case round =>
    obtain ⟨j, u, hj, rfl, rfl, rfl, hown, hr1, hr2, hsz, hbel⟩ := hrel
    clear ho2 hq2 hq3 HB2 hz2
    obtain ⟨A3, n3, c3, rfl, hs3⟩ := hown.read
    have x1 := cell_of_one hr1
    have x1f := free_of_one hr1
    by_cases hlt : j < n2
    · obtain ⟨b1, o1, A', n', c', hx1, rfl, hb1, t1, hV1⟩ := txt_atA (PS.out wr hbel) hlt
      have HM := hid (mkS_take (l := l) (k := k) (t := t) hx1)
      have PV := hid ((hV1.wide (S' := (· < wr.heap.size)) fun b hb => Nat.lt_of_lt_of_le hb hbel.size).rd (B := wr.heap.size) fun _ h => h)
      clear hV1
      by_cases he : (mkS l k t (ts.take j)).e = 0
      · have hbd := mkS_bd he
        have HM2 := hid (HM.out.trans (if_pos he))
        rw [he]
        generalize mkS l k t (ts.take j) = s at *
        have hwi : (Lit.int .i64 s.i).wf = true := wf_i64 (by omega)
        clear he HM
        go_wp2_with fail
        refine (aNext_any #[.slice A3 n3 c3] s.l s.i _ _ _ ts[j] wr (rep_Arena.2 ⟨_, _, _, rfl, hs3⟩) hwi PV.out).mono ?_
        rintro e w3 ⟨v3, rfl, ho3, hb3⟩
        obtain ⟨A4, n4, c4, rfl, hs4⟩ := ho3.read
        have R1 := (hb3.block _ (lt_of_block hr1)).trans hr1
        have R2 := (hb3.block _ (lt_of_block hr2)).trans hr2
        have y1 := cell_of_one R1
        have y1f := free_of_one R1
        have ho4 := (ho3.setLow (b := w.heap.size) (by omega) (by omega) 0 (.slice A4 n4 c4)).lows (base' := w.heap.size + 2) (lo' := w.heap.size + 2) hsz hsz
        have hz3 := hb3.size
        go_wp2
        go_roundw
        case rel =>
          refine ⟨j + 1, .slice A4 n4 c4, by omega, by go_num, by rw [HM2.out], by rw [HM2.out], by rw [HM2.out]; exact ho4, one_setCell R1, ?_, by simp; omega, (bel_call hbel hb3).setCell (Nat.le_refl _) _⟩
          rw [heap_setCell_other _ _ _ _ (by simp)]
          exact R2
        case measure => simp [intOf]; omega
      · have HM2 := hid (HM.out.trans (if_neg he))
        have hne : ((mkS l k t (ts.take j)).e == 0) = false := by simpa using he
        generalize mkS l k t (ts.take j) = s at *
        clear he HM
        generalize hse : s.e = se at *
        have HSE := hid hse
        clear hse
        go_wp2
        go_roundw
        case rel => exact ⟨j + 1, .slice A3 n3 c3, by omega, by go_num, by rw [HM2.out], by rw [HM2.out, HSE.out], by rw [HM2.out]; exact hown, hr1, hr2, hsz, hbel⟩
        case measure => simp [intOf]; omega
    · have hti : ts.take j = ts := List.take_of_length_le (by rw [HL2.out]; omega)
      rw [hti] at hown ⊢
      clear hti
      have x2 := cell_of_one hr2
      have x2f := free_of_one hr2
      have HO := (hown.setLow (b := w.heap.size + 1) (by omega) (by omega) 0 (.slice A3 n3 c3)).lows (base' := w.heap.size) (lo' := w.heap.size) (by omega) (by omega)
      go_wp2
      refine bodyPost_ret_by (results_ctt rfl _ _ (w.heap.size + 1) 0 rfl [.slice A3 n3 c3] _ (range1 (cell_of_one (one_setCell hr2))) Try.underlying24 rfl (by kernel_rfl)) rfl ?_
      refine ⟨_, ?_, HO, hbel.setCell (by show w.heap.size ≤ w.heap.size + 1; omega) _⟩
      rfl
end Go.Proofs.Ythcikbmekjmmlaa
