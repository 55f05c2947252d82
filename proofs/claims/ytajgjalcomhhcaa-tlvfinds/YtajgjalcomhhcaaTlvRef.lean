/-
  The contracts of the document's own answers of layer 2.
-/
import Derived.Test.YtajgjalcomhhcaaTlvMath
import Derived.Test.YtajgjalcomhhcaaBigsizeRefAll
import Derived.Test.YtajgjalcomhhcaaBigsizeSame
namespace Go.Proofs.Ytajgjalcomhhcaa
open Go.RowKit Go.WalkArith

def fewOk (r : Rec) : Bool := !(decide (100 < r.V.length) && decide (r.V.length < 4096)) && !decide (4100 < r.V.length)
def fewB (l : List Rec) : Bool := l.all fewOk && decide (l.length ≤ 70)

theorem all_take_succ {l : List Rec} {p : Rec → Bool} {j : Nat} (hj : j < l.length) : (l.take (j + 1)).all p = ((l.take j).all p && p l[j]) := by
  rw [List.take_succ_eq_append_getElem hj, List.all_append]
  simp
theorem all_false {l : List Rec} {p : Rec → Bool} {j : Nat} (hj : j < l.length) (h : p l[j] = false) : l.all p = false := by
  rw [List.all_eq_false]
  exact ⟨l[j], List.getElem_mem hj, by simp [h]⟩

set_option maxRecDepth 100000 in
set_option maxHeartbeats 1000000 in
theorem few_any (A : Option Addr) (n c : Nat) (l : List Rec) (w : World) (hr : Sl lay_Record w (· < w.heap.size) A n c l) :
    Calls Try.prog 10 #[.slice A n c] w fun e w' => e = .returned (.bool (fewB l)) ∧ Below w.heap.size w w' := by
  have hcap := hr.cap
  unfold maxLen at hcap
  have HL := hid hr.len
  go_enter Try.func10, Try.ntmps10
  go_wp2
  go_loopw [7] (fun i wr => ∃ j : Nat, j ≤ n ∧ i = .int .i64 j ∧ (l.take j).all fewOk = true ∧ Below w.heap.size w wr) (fun i _ => n - (intOf i).toNat)
  case atStart => exact ⟨0, Nat.zero_le _, rfl, rfl, Below.refl _ _⟩
  case round =>
    obtain ⟨j, hj, rfl, hall, hbel⟩ := hrel
    have HA := hid hall
    clear hall
    by_cases hlt : j < n
    · obtain ⟨b, off, A', n', c', hx, rfl, hb, h1, h2, hT, hV⟩ := rec_at hr hlt
      have q1 := (hbel.cell (p := ⟨b, off + j * 2, none⟩) hb).trans h1
      have q2 := (hbel.cell (p := ⟨b, off + j * 2 + 1, none⟩) hb).trans h2
      have hn' := hV.len
      have hcv := hV.cap
      unfold maxLen at hcv
      clear h1 h2
      have HX := hid hn'
      clear hn'
      rcases (show (100 < n' ∧ n' < 4096) ∨ 4100 < n' ∨ n' ≤ 100 ∨ (4096 ≤ n' ∧ n' ≤ 4100) from by omega) with g | g | g | g
      · have HF := hid (all_false (p := fewOk) hx (by simp [fewOk, HX.out]; omega))
        go_wp2
        go_ret
        exact ⟨ret_bool (by unfold fewB; rw [HF.out]; rfl), by (repeat (first | exact Below.refl _ _ | refine Below.drew ?_ | refine bel_drewN ?_ _ | refine bel_alloc ?_ _ | refine bel_call ?_ (by assumption)))⟩
      · have HF := hid (all_false (p := fewOk) hx (by simp [fewOk, HX.out]; omega))
        go_wp2
        go_ret
        exact ⟨ret_bool (by unfold fewB; rw [HF.out]; rfl), by (repeat (first | exact Below.refl _ _ | refine Below.drew ?_ | refine bel_drewN ?_ _ | refine bel_alloc ?_ _ | refine bel_call ?_ (by assumption)))⟩
      · have HF := hid (show (l.take (j + 1)).all fewOk = true from by rw [all_take_succ hx, HA.out]; simp [fewOk, HX.out]; omega)
        go_wp2
        go_roundw
        case rel => exact ⟨j + 1, by omega, by go_num, HF.out, by (repeat (first | exact Below.refl _ _ | refine Below.drew ?_ | refine bel_drewN ?_ _ | refine bel_alloc ?_ _ | refine bel_call ?_ (by assumption)))⟩
        case measure => simp [intOf]; omega
      · have HF := hid (show (l.take (j + 1)).all fewOk = true from by rw [all_take_succ hx, HA.out]; simp [fewOk, HX.out]; omega)
        go_wp2
        go_roundw
        case rel => exact ⟨j + 1, by omega, by go_num, HF.out, by (repeat (first | exact Below.refl _ _ | refine Below.drew ?_ | refine bel_drewN ?_ _ | refine bel_alloc ?_ _ | refine bel_call ?_ (by assumption)))⟩
        case measure => simp [intOf]; omega
    · have HF := hid (show l.all fewOk = true from by have := HA.out; rwa [List.take_of_length_le (by rw [HL.out]; omega)] at this)
      go_wp2
      go_ret
      exact ⟨ret_bool (by unfold fewB; rw [HF.out, HL.out]; simp; omega), hbel⟩

set_option maxRecDepth 100000 in
set_option maxHeartbeats 1000000 in
theorem check_any (A : Option Addr) (n c : Nat) (l : List Rec) (w : World) (hr : Sl lay_Record w (· < w.heap.size) A n c l) :
    Calls Try.prog 18 #[.slice A n c] w fun e w' => e = .returned (.int .i64 (chk l)) ∧ Below w.heap.size w w' := by
  have hcap := hr.cap
  unfold maxLen at hcap
  have HL := hid hr.len
  by_cases g0 : 64 < n
  · have HC := hid (chk_no (l := l) fun h => by have := h.1; rw [HL.out] at this; omega)
    have g0' : (64 : Int) < n := by omega
    go_enter Try.func18, Try.ntmps18
    go_wp2
    go_ret
    exact ⟨ret_num HC.out.symm, Below.refl _ _⟩
  have d0 : decide ((64 : Int) < (n : Int)) = false := by simp; omega
  go_enter Try.func18, Try.ntmps18
  go_wp2
  go_loopw [10] (fun i wr => ∃ j : Nat, j ≤ n ∧ i = .int .i64 j ∧ ChkTo l j ∧ Below w.heap.size w wr) (fun i _ => n - (intOf i).toNat)
  case atStart => exact ⟨0, Nat.zero_le _, rfl, fun _ _ h => absurd h (by omega), Below.refl _ _⟩
  case round =>
    obtain ⟨j, hj, rfl, hto, hbel⟩ := hrel
    have HT := hid hto
    clear hto
    by_cases hlt : j < n
    · obtain ⟨b, off, A', n', c', hx, rfl, hb, h1, h2, hTb, hV⟩ := rec_at hr hlt
      have q1 := (hbel.cell (p := ⟨b, off + j * 2, none⟩) hb).trans h1
      have q2 := (hbel.cell (p := ⟨b, off + j * 2 + 1, none⟩) hb).trans h2
      have hbb : b < wr.heap.size := Nat.lt_of_lt_of_le hb hbel.size
      have HX := hid hV.len
      have hcv := hV.cap
      unfold maxLen at hcv
      clear h1 h2
      by_cases g1 : 4096 < n'
      · have HC := hid (chk_no (l := l) fun h => by have := (h.2 j hx hx).1; rw [HX.out] at this; omega)
        have g1' : (4096 : Int) < n' := by omega
        have d1 : decide ((4096 : Int) < (n' : Int)) = true := by simp; omega
        go_wp2_with fail
        go_quiet (fail)
        go_wp2
        go_ret
        exact ⟨ret_num HC.out.symm, by (repeat (first | exact Below.refl _ _ | refine Below.drew ?_ | refine bel_drewN ?_ _ | refine bel_alloc ?_ _ | refine bel_call ?_ (by assumption)))⟩
      have d1 : decide ((4096 : Int) < (n' : Int)) = false := by simp; omega
      by_cases g2 : j = 0
      · subst g2
        simp only [Nat.zero_mul, Nat.add_zero] at q1 q2
        have HN := hid (show ChkTo l 1 from fun i hi hi1 => by
          obtain rfl : i = 0 := by omega
          exact ⟨by rw [HX.out]; omega, fun h => absurd h (by omega)⟩)
        go_wp2_with fail
        go_quiet (fail)
        go_wp2
        go_roundw
        case rel => exact ⟨1, by omega, by go_num, HN.out, by (repeat (first | exact Below.refl _ _ | refine Below.drew ?_ | refine bel_drewN ?_ _ | refine bel_alloc ?_ _ | refine bel_call ?_ (by assumption)))⟩
        case measure => simp [intOf]; omega
      · obtain ⟨b', off', A'', n'', c'', hx', e', hb', h1', _, hTb', _⟩ := rec_at hr (j := j - 1) (by omega)
        injection e' with e'
        injection e' with e1 e2
        subst e1 e2
        have q3 := (hbel.cell (p := ⟨b, off + (j - 1) * 2, none⟩) hb).trans h1'
        have hjp : (0 : Int) < (j : Int) := by omega
        have dj : decide (0 < j) = true := by simp; omega
        have wj : IntKind.i64.wrap ((j : Int) - 1) = (j : Int) - 1 := IntWalk.i64_in _ (by omega)
        have tj : ((j : Int) - 1).toNat = j - 1 := by omega
        have pj : (0 : Int) ≤ (j : Int) - 1 := by omega
        have lj : (j : Int) - 1 < (n : Int) := by omega
        clear h1'
        by_cases g3 : l[j].T ≤ l[j - 1].T
        · have HC := hid (chk_no (l := l) fun h => by have := (h.2 j hx hx).2 (by omega); omega)
          have d3 : decide (l[j].T ≤ l[j - 1].T) = true := by simpa using g3
          generalize l[j].T = x at *
          generalize l[j - 1].T = y at *
          go_wp2_with fail
          go_quiet (fail)
          go_wp2
          go_ret
          exact ⟨ret_num HC.out.symm, by (repeat (first | exact Below.refl _ _ | refine Below.drew ?_ | refine bel_drewN ?_ _ | refine bel_alloc ?_ _ | refine bel_call ?_ (by assumption)))⟩
        · have HN := hid (show ChkTo l (j + 1) from fun i hi hi1 => by
            by_cases hij : i < j
            · exact HT.out i hi hij
            · obtain rfl : i = j := by omega
              exact ⟨by rw [HX.out]; omega, fun _ => by omega⟩)
          have d3 : decide (l[j].T ≤ l[j - 1].T) = false := by simpa using g3
          generalize l[j].T = x at *
          generalize l[j - 1].T = y at *
          go_wp2_with fail
          go_quiet (fail)
          go_wp2
          go_roundw
          case rel => exact ⟨j + 1, by omega, by go_num, HN.out, by (repeat (first | exact Below.refl _ _ | refine Below.drew ?_ | refine bel_drewN ?_ _ | refine bel_alloc ?_ _ | refine bel_call ?_ (by assumption)))⟩
          case measure => simp [intOf]; omega
    · have HC := hid (chk_ok (l := l) ⟨by rw [HL.out]; omega, fun i hi _ => HT.out i hi (by rw [HL.out] at hi; omega)⟩)
      go_wp2
      go_ret
      exact ⟨ret_num HC.out.symm, hbel⟩

theorem take_sameR {l o : List Rec} {j : Nat} (hx : j < l.length) (hy : j < o.length) (h : l.take j = o.take j) (e : l[j] = o[j]) : l.take (j + 1) = o.take (j + 1) := by
  rw [List.take_succ_eq_append_getElem hx, List.take_succ_eq_append_getElem hy, h, e]
theorem Rec.ext' {a b : Rec} (h1 : a.T = b.T) (h2 : a.V = b.V) : a = b := by cases a; cases b; simp_all

set_option maxRecDepth 100000 in
set_option maxHeartbeats 1000000 in
theorem refSame_any (A1 A2 : Option Addr) (n1 c1 n2 c2 : Nat) (l o : List Rec) (w : World) (h1 : Sl lay_Record w (· < w.heap.size) A1 n1 c1 l) (h2 : Sl lay_Record w (· < w.heap.size) A2 n2 c2 o) :
    Calls Try.prog 16 #[.slice A1 n1 c1, .slice A2 n2 c2] w fun e w' => e = .returned (.bool (decide (l = o))) ∧ Below w.heap.size w w' := by
  have K1 := hid h1.len
  have K2 := hid h2.len
  have k1 := h1.cap
  have k2 := h2.cap
  unfold maxLen at k1 k2
  by_cases hl : n1 = n2
  · subst hl
    have hne : ((n1 : Int) != (n1 : Int)) = false := by simp
    go_enter Try.func16, Try.ntmps16
    go_wp2
    go_loopw [13] (fun i wr => ∃ j : Nat, j ≤ n1 ∧ i = .int .i64 j ∧ l.take j = o.take j ∧ Below w.heap.size w wr) (fun i _ => n1 - (intOf i).toNat)
    case atStart => exact ⟨0, Nat.zero_le _, rfl, rfl, Below.refl _ _⟩
    case round =>
      obtain ⟨j, hj, rfl, hpre, hbel⟩ := hrel
      have HP := hid hpre
      clear hpre
      by_cases hlt : j < n1
      · obtain ⟨b1, o1, A', n', c', hx1, rfl, hb1, t1, v1, _, hV1⟩ := rec_at h1 hlt
        obtain ⟨b2, o2, A'', n'', c'', hx2, rfl, hb2, t2, v2, _, hV2⟩ := rec_at h2 hlt
        have q1 := (hbel.cell (p := ⟨b1, o1 + j * 2, none⟩) hb1).trans t1
        have q2 := (hbel.cell (p := ⟨b1, o1 + j * 2 + 1, none⟩) hb1).trans v1
        have q3 := (hbel.cell (p := ⟨b2, o2 + j * 2, none⟩) hb2).trans t2
        have q4 := (hbel.cell (p := ⟨b2, o2 + j * 2 + 1, none⟩) hb2).trans v2
        have R1 := (hV1.rd (B := w.heap.size) fun _ h => h).below hbel
        have R2 := (hV2.rd (B := w.heap.size) fun _ h => h).below hbel
        clear t1 v1 t2 v2 hV1 hV2
        by_cases he : l[j].T = o[j].T
        · have hnn : (l[j].T != o[j].T) = false := by simp [he]
          have HE := hid he
          clear he
          have hX := hid (show (l[j].V = o[j].V) ∨ ¬ (l[j].V = o[j].V) from Classical.em _)
          by_cases hv : l[j].V = o[j].V
          · have dv : decide (l[j].V = o[j].V) = true := decide_eq_true hv
            have HN := hid (take_sameR hx1 hx2 HP.out (Rec.ext' HE.out hv))
            clear hv
            go_wp2_with fail
            go_quiet ((go_at_call 15; exact Calls.quiet_of_same ((sameBytes_any _ _ _ _ _ _ _ _ _ _ _ (R1.drewN _) (R2.drewN _)).mono fun _ _ h => ⟨h.1, h.2.symm⟩)))
            go_wp2
            go_roundw
            case rel => exact ⟨j + 1, by omega, by go_num, HN.out, bel_drewN hbel _⟩
            case measure => simp [intOf]; omega
          · have dv : decide (l[j].V = o[j].V) = false := decide_eq_false hv
            have HN := hid (show decide (l = o) = false from decide_eq_false fun e => hv (by simp only [e]))
            clear hv
            go_wp2_with fail
            go_quiet ((go_at_call 15; exact Calls.quiet_of_same ((sameBytes_any _ _ _ _ _ _ _ _ _ _ _ (R1.drewN _) (R2.drewN _)).mono fun _ _ h => ⟨h.1, h.2.symm⟩)))
            go_wp2
            go_ret
            exact ⟨ret_bool HN.out.symm, bel_drewN hbel _⟩
        · have hnn : (l[j].T != o[j].T) = true := by simpa using he
          have HN := hid (show decide (l = o) = false from decide_eq_false fun e => he (by simp only [e]))
          clear he
          go_wp2_with fail
          go_quiet (fail)
          go_wp2
          go_ret
          exact ⟨ret_bool HN.out.symm, bel_drewN hbel _⟩
      · have HN := hid (show decide (l = o) = true from by
          have := HP.out
          rw [List.take_of_length_le (by rw [K1.out]; omega), List.take_of_length_le (by rw [K2.out]; omega)] at this
          exact decide_eq_true this)
        go_wp2
        go_ret
        exact ⟨ret_bool HN.out.symm, hbel⟩
  · have hne : ((n1 : Int) != (n2 : Int)) = true := by simp; omega
    have HN := hid (show decide (l = o) = false from decide_eq_false fun e => by rw [e] at K1; have a1 := K1.out; have a2 := K2.out; omega)
    go_enter Try.func16, Try.ntmps16
    go_wp2
    go_ret
    exact ⟨ret_bool HN.out.symm, Below.refl _ _⟩
end Go.Proofs.Ytajgjalcomhhcaa
