/-
  The contracts of the document's own answers of layer 2.
-/
import Derived.Test.YtgiapfenalhleaaTlvMath
import Derived.Test.YtgiapfenalhleaaBigsizeRefAll
import Derived.Test.YtgiapfenalhleaaBigsizeSame
namespace Go.Proofs.Ytgiapfenalhleaa
open Go.RowKit Go.WalkArith

def fewOk (r : Rec) : Bool := !(decide (100 < r.V.length) && decide (r.V.length < 4096)) && !decide (4100 < r.V.length)
def fewB (l : List Rec) : Bool := l.all fewOk && decide (l.length ≤ 70)

theorem all_take_succ {l : List Rec} {p : Rec → Bool} {j : Nat} (hj : j < l.length) : (l.take (j + 1)).all p = ((l.take j).all p && p l[j]) := by
  rw [List.take_succ_eq_append_getElem hj, List.all_append]
  simp
theorem all_false {l : List Rec} {p : Rec → Bool} {j : Nat} (hj : j < l.length) (h : p l[j] = false) : l.all p = false := by
  rw [List.all_eq_false]
  exact ⟨l[j], List.getElem_mem hj, by simp [h]⟩

set_option maxRecDepth 100000 in
set_option maxHeartbeats 1000000 in
theorem check_any (A : Option Addr) (n c : Nat) (l : List Rec) (w : World) (hr : Sl lay_Record w (· < w.heap.size) A n c l) :
    Calls Try.prog 80 #[.slice A n c] w fun e w' => e = .returned (.int .i64 (chk l)) ∧ Below w.heap.size w w' := by
  have hcap := hr.cap
  unfold maxLen at hcap
  have HL := hid hr.len
  by_cases g0 : 64 < n
  · have HC := hid (chk_no (l := l) fun h => by have := h.1; rw [HL.out] at this; omega)
    have g0' : (64 : Int) < n := by omega
    go_enter Try.func80, Try.ntmps80
    go_wp2
    go_ret
    exact ⟨ret_num HC.out.symm, Below.refl _ _⟩
  have d0 : decide ((64 : Int) < (n : Int)) = false := by simp; omega
  go_enter Try.func80, Try.ntmps80
  go_wp2
  go_loopw [10] (fun i wr => ∃ j : Nat, j ≤ n ∧ i = .int .i64 j ∧ ChkTo l j ∧ Below w.heap.size w wr) (fun i _ => n - (intOf i).toNat)
  case atStart => exact ⟨0, Nat.zero_le _, rfl, fun _ _ h => absurd h (by omega), Below.refl _ _⟩
  case round =>
    obtain ⟨j, hj, rfl, hto, hbel⟩ := hrel
    have HT := hid hto
    clear hto
    by_cases hlt : j < n
    · obtain ⟨b, off, A', n', c', hx, rfl, hb, h1, h2, hTb, hV⟩ := rec_at hr hlt
      have q1 := (hbel.cell (p := ⟨b, off + j * 2, none⟩) hb).trans h1
      have q2 := (hbel.cell (p := ⟨b, off + j * 2 + 1, none⟩) hb).trans h2
      have hbb : b < wr.heap.size := Nat.lt_of_lt_of_le hb hbel.size
      have HX := hid hV.len
      have hcv := hV.cap
      unfold maxLen at hcv
      clear h1 h2
      by_cases g1 : 4096 < n'
      · have HC := hid (chk_no (l := l) fun h => by have := (h.2 j hx hx).1; rw [HX.out] at this; omega)
        have g1' : (4096 : Int) < n' := by omega
        have d1 : decide ((4096 : Int) < (n' : Int)) = true := by simp; omega
        go_wp2_with fail
        go_quiet (fail)
        go_wp2
        go_ret
        exact ⟨ret_num HC.out.symm, by (repeat (first | exact Below.refl _ _ | refine Below.drew ?_ | refine bel_drewN ?_ _ | refine bel_alloc ?_ _ | refine bel_call ?_ (by assumption)))⟩
      have d1 : decide ((4096 : Int) < (n' : Int)) = false := by simp; omega
      by_cases g2 : j = 0
      · subst g2
        simp only [Nat.zero_mul, Nat.add_zero] at q1 q2
        have HN := hid (show ChkTo l 1 from fun i hi hi1 => by
          obtain rfl : i = 0 := by omega
          exact ⟨by rw [HX.out]; omega, fun h => absurd h (by omega)⟩)
        go_wp2_with fail
        go_quiet (fail)
        go_wp2
        go_roundw
        case rel => exact ⟨1, by omega, by go_num, HN.out, by (repeat (first | exact Below.refl _ _ | refine Below.drew ?_ | refine bel_drewN ?_ _ | refine bel_alloc ?_ _ | refine bel_call ?_ (by assumption)))⟩
        case measure => simp [intOf]; omega
      · obtain ⟨b', off', A'', n'', c'', hx', e', hb', h1', _, hTb', _⟩ := rec_at hr (j := j - 1) (by omega)
        injection e' with e'
        injection e' with e1 e2
        subst e1 e2
        have q3 := (hbel.cell (p := ⟨b, off + (j - 1) * 2, none⟩) hb).trans h1'
        have hjp : (0 : Int) < (j : Int) := by omega
        have dj : decide (0 < j) = true := by simp; omega
        have wj : IntKind.i64.wrap ((j : Int) - 1) = (j : Int) - 1 := IntWalk.i64_in _ (by omega)
        have tj : ((j : Int) - 1).toNat = j - 1 := by omega
        have pj : (0 : Int) ≤ (j : Int) - 1 := by omega
        have lj : (j : Int) - 1 < (n : Int) := by omega
        clear h1'
        by_cases g3 : l[j].T ≤ l[j - 1].T
        · have HC := hid (chk_no (l := l) fun h => by have := (h.2 j hx hx).2 (by omega); omega)
          have d3 : decide (l[j].T ≤ l[j - 1].T) = true := by simpa using g3
          generalize l[j].T = x at *
          generalize l[j - 1].T = y at *
          go_wp2_with fail
          go_quiet (fail)
          go_wp2
          go_ret
          exact ⟨ret_num HC.out.symm, by (repeat (first | exact Below.refl _ _ | refine Below.drew ?_ | refine bel_drewN ?_ _ | refine bel_alloc ?_ _ | refine bel_call ?_ (by assumption)))⟩
        · have HN := hid (show ChkTo l (j + 1) from fun i hi hi1 => by
            by_cases hij : i < j
            · exact HT.out i hi hij
            · obtain rfl : i = j := by omega
              exact ⟨by rw [HX.out]; omega, fun _ => by omega⟩)
          have d3 : decide (l[j].T ≤ l[j - 1].T) = false := by simpa using g3
          generalize l[j].T = x at *
          generalize l[j - 1].T = y at *
          go_wp2_with fail
          go_quiet (fail)
          go_wp2
          go_roundw
          case rel => exact ⟨j + 1, by omega, by go_num, HN.out, by (repeat (first | exact Below.refl _ _ | refine Below.drew ?_ | refine bel_drewN ?_ _ | refine bel_alloc ?_ _ | refine bel_call ?_ (by assumption)))⟩
          case measure => simp [intOf]; omega
    · have HC := hid (chk_ok (l := l) ⟨by rw [HL.out]; omega, fun i hi _ => HT.out i hi (by rw [HL.out] at hi; omega)⟩)
      go_wp2
      go_ret
      exact ⟨ret_num HC.out.symm, hbel⟩

theorem take_sameR {l o : List Rec} {j : Nat} (hx : j < l.length) (hy : j < o.length) (h : l.take j = o.take j) (e : l[j] = o[j]) : l.take (j + 1) = o.take (j + 1) := by
  rw [List.take_succ_eq_append_getElem hx, List.take_succ_eq_append_getElem hy, h, e]
theorem Rec.ext' {a b : Rec} (h1 : a.T = b.T) (h2 : a.V = b.V) : a = b := by cases a; cases b; simp_all

end Go.Proofs.Ytgiapfenalhleaa
