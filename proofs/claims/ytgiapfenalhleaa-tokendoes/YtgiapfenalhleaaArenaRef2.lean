/-
  The contracts of the document's answers of layer 5: whether an arena may be, whether one, or texts, are few.
-/
import Derived.Test.YtgiapfenalhleaaArenaRef1
namespace Go.Proofs.Ytgiapfenalhleaa
open Go.RowKit Go.WalkArith

def fewA (l : List Trm) : Bool := l.all (fun x => decide (x.Text.length ≤ 200)) && decide (l.length ≤ 80)
def fewT1 (t : List Int) : Bool := decide (¬ ((200 < t.length ∧ t.length ≤ 4096) ∨ 4100 < t.length))
def fewT (ts : List (List Int)) : Bool := ts.all fewT1 && decide (ts.length ≤ 12)
theorem all_takeT {α : Type} {l : List α} {p : α → Bool} {j : Nat} (hj : j < l.length) (h : (l.take j).all p = true) (e : p l[j] = true) : (l.take (j + 1)).all p = true := by
  rw [List.take_succ_eq_append_getElem hj, List.all_append, h]
  simpa using e
theorem all_badT {α : Type} {l : List α} {p : α → Bool} {j : Nat} (hj : j < l.length) (e : p l[j] = false) : l.all p = false := by
  rw [List.all_eq_false]
  exact ⟨l[j], List.getElem_mem hj, by simp [e]⟩

set_option maxHeartbeats 1000000 in
theorem refFewA_any (s : Array Value) (l : List Trm) (w : World) (g : lay_Arena.rep w (· < w.heap.size) l s.toList) :
    Calls Try.prog 10 #[.agg s] w fun e w' => e = .returned (.bool (fewA l)) ∧ Below w.heap.size w w' := by
  obtain ⟨A, n, c, rfl, h⟩ := agg_Arena g
  clear g
  have HL := hid h.len
  have hcap := h.cap
  unfold maxLen at hcap
  have hb0 : Below w.heap.size w (w.alloc (Obj.cells #[.slice A n c] 24)) := bel_alloc (Below.refl _ _) _
  have hx0 := heap_alloc_new w (Obj.cells #[.slice A n c] 24)
  go_enter Try.func10, Try.ntmps10
  go_wp2
  go_loopw [8] (fun i wr => ∃ j : Nat, j ≤ n ∧ i = .int .i64 j ∧ (l.take j).all (fun x => decide (x.Text.length ≤ 200)) = true ∧ wr.heap[w.heap.size]? = some (Obj.cells #[.slice A n c] 24 (0, 0)) ∧ Below w.heap.size w wr) (fun i _ => n - (intOf i).toNat)
  case atStart => exact ⟨0, Nat.zero_le _, rfl, by simp, hx0, hb0⟩
  case round =>
    obtain ⟨j, hj, rfl, hpre, hv, hbel⟩ := hrel
    have HP := hid hpre
    clear hpre hx0 hb0
    have z := cell_of_one hv
    by_cases hlt : j < n
    · obtain ⟨b1, o1, A', n', c', hx1, rfl, hb1, t1, u1, v1, e1, e2, hV1⟩ := trm_at h hlt
      have q1 := (hbel.cell (p := ⟨b1, o1 + j * 3, none⟩) hb1).trans t1
      have q2 := (hbel.cell (p := ⟨b1, o1 + j * 3 + 1, none⟩) hb1).trans u1
      have q3 := (hbel.cell (p := ⟨b1, o1 + j * 3 + 2, none⟩) hb1).trans v1
      have hlb := lt_of_block hv
      have HX := hid hV1.len
      have hc2 := hV1.cap
      unfold maxLen at hc2
      clear t1 u1 v1 e1 e2 hV1
      by_cases he : n' ≤ 200
      · have hd : decide ((200 : Int) < (n' : Int)) = false := by simp; omega
        have HN := hid (all_takeT (p := fun x : Trm => decide (x.Text.length ≤ 200)) hx1 HP.out (by rw [HX.out]; simpa using he))
        go_wp2
        go_roundw
        case rel => exact ⟨j + 1, by omega, by go_num, HN.out, (heap_alloc_old _ _ hlb).trans hv, by (repeat (first | exact Below.refl _ _ | refine Below.drew ?_ | refine bel_drewN ?_ _ | refine bel_alloc ?_ _ | refine bel_call ?_ (by assumption)))⟩
        case measure => simp [intOf]; omega
      · have hd : (200 : Int) < (n' : Int) := by omega
        have HN := hid (show fewA l = false from by unfold fewA; rw [all_badT hx1 (by rw [HX.out]; simpa using he)]; rfl)
        go_wp2
        go_ret
        exact ⟨ret_bool HN.out.symm, by (repeat (first | exact Below.refl _ _ | refine Below.drew ?_ | refine bel_drewN ?_ _ | refine bel_alloc ?_ _ | refine bel_call ?_ (by assumption)))⟩
    · have HN := hid (show decide ((n : Int) ≤ 80) = fewA l from by
        unfold fewA
        have := HP.out
        rw [List.take_of_length_le (by rw [HL.out]; omega)] at this
        rw [this, HL.out, Bool.true_and]
        simp
        omega)
      go_wp2
      go_ret
      exact ⟨ret_bool HN.out, hbel⟩

theorem txt_atA {w : World} {S : Nat → Prop} {A : Option Addr} {n c : Nat} {l : List (List Int)} (h : Sl (Lay.slice (Lay.int .u8)) w S A n c l) {j : Nat} (hj : j < n) :
    ∃ b off A' n' c', ∃ hx : j < l.length, A = some ⟨b, off, none⟩ ∧ S b ∧ w.cell? ⟨b, off + j, none⟩ = some (.slice A' n' c') ∧ Sl (Lay.int .u8) w S A' n' c' l[j] := by
  obtain ⟨b, off, cs, hx, rfl, hb, ⟨A', n', c', rfl, hs⟩, hc⟩ := h.at_ hj
  exact ⟨b, off, A', n', c', hx, rfl, hb, by have := hc 0 _ rfl; simpa [Lay.slice] using this, hs⟩

theorem arE_bad {l : List Trm} {j : Nat} (hj : j < l.length) (h : ¬ (Fit j l[j] ∧ plc l[j] l = j)) : arE l = 1 := if_neg fun k => h (k.2 j hj hj)
theorem seat_self {l : List Trm} {j : Nat} (hj : j < l.length) : seat l l[j] = plc l[j] l ∧ plc l[j] l ≤ j := by
  refine ⟨if_pos (List.getElem_mem hj), ?_⟩
  rcases Nat.lt_or_ge j (plc l[j] l) with h | h
  · exact absurd rfl (plc_first hj h)
  · exact h

set_option maxRecDepth 100000 in
set_option maxHeartbeats 2000000 in
theorem refCheckA_any (s : Array Value) (l : List Trm) (w : World) (g : lay_Arena.rep w (· < w.heap.size) l s.toList) :
    Calls Try.prog 42 #[.agg s] w fun e w' => e = .returned (.int .i64 (arE l)) ∧ Below w.heap.size w w' := by
  obtain ⟨A, n, c, rfl, h⟩ := agg_Arena g
  clear g
  have HL := hid h.len
  have hcap := h.cap
  unfold maxLen at hcap
  have hb0 : Below w.heap.size w (w.alloc (Obj.cells #[.slice A n c] 24)) := bel_alloc (Below.refl _ _) _
  have hx0 := heap_alloc_new w (Obj.cells #[.slice A n c] 24)
  by_cases hbig : 1048576 < n
  · have HE := hid (show arE l = 1 from if_neg fun k => by have := k.1; rw [HL.out] at this; omega)
    have hd : (1048576 : Int) < (n : Int) := by omega
    go_enter Try.func42, Try.ntmps42
    go_wp2
    go_ret
    exact ⟨ret_num HE.out.symm, hb0⟩
  have hd : decide ((1048576 : Int) < (n : Int)) = false := by simp; omega
  have hn : n ≤ 1048576 := by omega
  clear hbig
  go_enter Try.func42, Try.ntmps42
  go_wp2
  go_loopw [12] (fun i wr => ∃ j : Nat, j ≤ n ∧ i = .int .i64 j ∧ ArTo l j ∧ wr.heap[w.heap.size]? = some (Obj.cells #[.slice A n c] 24 (0, 0)) ∧ Below w.heap.size w wr) (fun i _ => n - (intOf i).toNat)
  case atStart => exact ⟨0, Nat.zero_le _, rfl, fun _ _ h => absurd h (by omega), hx0, hb0⟩
  case round =>
    obtain ⟨j, hj, rfl, hpre, hv, hbel⟩ := hrel
    have HP := hid hpre
    clear hpre hx0 hb0
    have z := cell_of_one hv
    by_cases hlt : j < n
    · obtain ⟨b1, o1, A', n', c', hx1, rfl, hb1, t1, u1, v1, e1, e2, hV1⟩ := trm_at h hlt
      have q1 := (hbel.cell (p := ⟨b1, o1 + j * 3, none⟩) hb1).trans t1
      have q2 := (hbel.cell (p := ⟨b1, o1 + j * 3 + 1, none⟩) hb1).trans u1
      have q3 := (hbel.cell (p := ⟨b1, o1 + j * 3 + 2, none⟩) hb1).trans v1
      have hlb := lt_of_block hv
      have HX := hid hV1.len
      have hc2 := hV1.cap
      unfold maxLen at hc2
      have hba := hbel.alloc hbel.size (Obj.cells #[.int .u64 l[j].Key, .int .i64 l[j].Up, .slice A' n' c'] 62)
      have hvb : ∀ o, (wr.alloc o).cell? ⟨w.heap.size, 0, none⟩ = some (.slice (some ⟨b1, o1, none⟩) n c) := fun o => (World.cell?_alloc_past _ _ _ hlb).trans z
      have PX := hid ((h.keep fun _ hp => hba.cell hp).wide fun b hb => Nat.lt_of_lt_of_le hb hba.size)
      have P1 := hid (show lay_Term.rep (wr.alloc (Obj.cells #[.int .u64 l[j].Key, .int .i64 l[j].Up, .slice A' n' c'] 62)) (· < (wr.alloc (Obj.cells #[.int .u64 l[j].Key, .int .i64 l[j].Up, .slice A' n' c'] 62)).heap.size) l[j] #[.int .u64 l[j].Key, .int .i64 l[j].Up, .slice A' n' c'].toList from rep_Term.2 ⟨A', n', c', rfl, e1, e2, (hV1.keep fun _ hp => hba.cell hp).wide fun b hb => Nat.lt_of_lt_of_le hb hba.size⟩)
      have bU := bounds_i64 e2
      have bK := bounds_u64 e1
      have hse := seat_self hx1
      have HSE := hid hse.1
      clear t1 u1 v1 e1 e2 hV1
      by_cases g1 : l[j].Up < -1
      · have HE := hid (arE_bad hx1 fun k => by have := k.1.1; omega)
        clear hse
        generalize l[j].Up = up at *
        go_wp2
        go_ret
        exact ⟨ret_num HE.out.symm, by (repeat (first | exact Below.refl _ _ | refine Below.drew ?_ | refine bel_drewN ?_ _ | refine bel_alloc ?_ _ | refine bel_call ?_ (by assumption)))⟩
      have d1 : decide (l[j].Up < -1) = false := by simp; omega
      by_cases g2 : (j : Int) ≤ l[j].Up
      · have HE := hid (arE_bad hx1 fun k => by have := k.1.2.1; omega)
        clear hse
        generalize l[j].Up = up at *
        go_wp2
        go_ret
        exact ⟨ret_num HE.out.symm, by (repeat (first | exact Below.refl _ _ | refine Below.drew ?_ | refine bel_drewN ?_ _ | refine bel_alloc ?_ _ | refine bel_call ?_ (by assumption)))⟩
      have d2 : decide ((j : Int) ≤ l[j].Up) = false := by simp; omega
      by_cases g3 : 0 ≤ l[j].Up ∧ l[j].Key ≠ 0
      · have HE := hid (arE_bad hx1 fun k => g3.2 (k.1.2.2.1 g3.1))
        have d3 : decide (0 ≤ l[j].Up) = true := by simpa using g3.1
        have d4 : (l[j].Key != 0) = true := by simpa using g3.2
        clear hse g3
        generalize l[j].Up = up at *
        generalize l[j].Key = key at *
        go_wp2
        go_ret
        exact ⟨ret_num HE.out.symm, by (repeat (first | exact Below.refl _ _ | refine Below.drew ?_ | refine bel_drewN ?_ _ | refine bel_alloc ?_ _ | refine bel_call ?_ (by assumption)))⟩
      by_cases g4 : 4096 < n'
      · have HE := hid (arE_bad hx1 fun k => by have := k.1.2.2.2; rw [HX.out] at this; omega)
        have d5 : decide ((4096 : Int) < (n' : Int)) = true := by simp; omega
        clear hse
        by_cases g5 : 0 ≤ l[j].Up
        · have d3 : decide (0 ≤ l[j].Up) = true := by simpa using g5
          have d4 : (l[j].Key != 0) = false := by
            by_cases hk : l[j].Key = 0
            · simpa using hk
            · exact absurd ⟨g5, hk⟩ g3
          clear g3
          generalize l[j].Up = up at *
          generalize l[j].Key = key at *
          go_wp2
          go_ret
          exact ⟨ret_num HE.out.symm, by (repeat (first | exact Below.refl _ _ | refine Below.drew ?_ | refine bel_drewN ?_ _ | refine bel_alloc ?_ _ | refine bel_call ?_ (by assumption)))⟩
        · have d3 : decide (0 ≤ l[j].Up) = false := by simpa using g5
          clear g3
          generalize l[j].Up = up at *
          generalize l[j].Key = key at *
          go_wp2
          go_ret
          exact ⟨ret_num HE.out.symm, by (repeat (first | exact Below.refl _ _ | refine Below.drew ?_ | refine bel_drewN ?_ _ | refine bel_alloc ?_ _ | refine bel_call ?_ (by assumption)))⟩
      have d5 : decide ((4096 : Int) < (n' : Int)) = false := by simp; omega
      have hfit : Fit j l[j] := ⟨by omega, by omega, fun h0 => by
        by_cases hk : l[j].Key = 0
        · exact hk
        · exact absurd ⟨h0, hk⟩ g3, by rw [HX.out]; omega⟩
      have HPL := hid (refPlace_any _ _ _ _ l l[j] _ PX.out P1.out)
      rw [hse.1] at HPL
      by_cases g6 : plc l[j] l = j
      · have HN := hid (arTo_succ HP.out hx1 hfit g6)
        rw [g6] at HPL
        have d6 : decide ((j : Int) < (j : Int)) = false := by simp
        by_cases g5 : 0 ≤ l[j].Up
        · have d3 : decide (0 ≤ l[j].Up) = true := by simpa using g5
          have d4 : (l[j].Key != 0) = false := by simpa using hfit.2.2.1 g5
          clear g3 hse hfit g6
          generalize l[j].Up = up at *
          generalize l[j].Key = key at *
          go_wp2_with (go_at_call 75; go_must (with_reducible refine HPL.out.mono ?_; rintro e w2 ⟨rfl, hb2⟩))
          go_roundw
          case rel => exact ⟨j + 1, by omega, by go_num, HN.out, (hb2.block _ (by simp; omega)).trans ((heap_alloc_old _ _ hlb).trans hv), hba.trans (hb2.mono hba.size)⟩
          case measure => simp [intOf]; omega
        · have d3 : decide (0 ≤ l[j].Up) = false := by simpa using g5
          clear g3 hse hfit g6
          generalize l[j].Up = up at *
          generalize l[j].Key = key at *
          go_wp2_with (go_at_call 75; go_must (with_reducible refine HPL.out.mono ?_; rintro e w2 ⟨rfl, hb2⟩))
          go_roundw
          case rel => exact ⟨j + 1, by omega, by go_num, HN.out, (hb2.block _ (by simp; omega)).trans ((heap_alloc_old _ _ hlb).trans hv), hba.trans (hb2.mono hba.size)⟩
          case measure => simp [intOf]; omega
      · have HE := hid (arE_bad hx1 fun k => g6 k.2)
        have hlt2 : plc l[j] l < j := by omega
        generalize plc l[j] l = pp at *
        have d6 : decide ((pp : Int) < (j : Int)) = true := by simp; omega
        by_cases g5 : 0 ≤ l[j].Up
        · have d3 : decide (0 ≤ l[j].Up) = true := by simpa using g5
          have d4 : (l[j].Key != 0) = false := by simpa using hfit.2.2.1 g5
          clear g3 hse hfit g6
          generalize l[j].Up = up at *
          generalize l[j].Key = key at *
          go_wp2_with (go_at_call 75; go_must (with_reducible refine HPL.out.mono ?_; rintro e w2 ⟨rfl, hb2⟩))
          go_ret
          exact ⟨ret_num HE.out.symm, hba.trans (hb2.mono hba.size)⟩
        · have d3 : decide (0 ≤ l[j].Up) = false := by simpa using g5
          clear g3 hse hfit g6
          generalize l[j].Up = up at *
          generalize l[j].Key = key at *
          go_wp2_with (go_at_call 75; go_must (with_reducible refine HPL.out.mono ?_; rintro e w2 ⟨rfl, hb2⟩))
          go_ret
          exact ⟨ret_num HE.out.symm, hba.trans (hb2.mono hba.size)⟩
    · have HE := hid (show arE l = 0 from if_pos ⟨by rw [HL.out]; exact hn, fun i hi _ => HP.out i hi (by rw [HL.out] at hi; omega)⟩)
      go_wp2
      go_ret
      exact ⟨ret_num HE.out.symm, hbel⟩
end Go.Proofs.Ytgiapfenalhleaa
