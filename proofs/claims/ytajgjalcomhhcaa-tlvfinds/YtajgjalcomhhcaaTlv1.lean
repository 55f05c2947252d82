/-
  The contracts of package tlv's Check, Same, and what they call.
-/
import Derived.Test.YtajgjalcomhhcaaStd
import Derived.Test.YtajgjalcomhhcaaTlvRefWith
namespace Go.Proofs.Ytajgjalcomhhcaa
open Go.RowKit Go.WalkArith

set_option maxHeartbeats 1000000 in
theorem rises_any (A : Option Addr) (n c : Nat) (S : Nat → Prop) (l : List Rec) (t : Int) (w : World) (hr : Sl lay_Record w S A n c l) (h0 : 0 ≤ t) :
    Calls Try.prog 30 #[.slice A n c, .int .u64 t] w fun e w' => e = .returned (.bool (decide (lastT l < t))) ∧ w = w' := by
  have hcap := hr.cap
  unfold maxLen at hcap
  have HL := hid hr.len
  rcases Nat.eq_zero_or_pos n with hz | hz
  · subst hz
    have hl : l = [] := List.eq_nil_of_length_eq_zero HL.out
    have HD := hid (show decide (lastT l < t) = true from by subst hl; exact decide_eq_true (show (-1 : Int) < t by omega))
    clear hl
    go_enter Try.func30, Try.ntmps30
    go_wp2
    go_ret
    exact ⟨ret_bool HD.out.symm, rfl⟩
  · obtain ⟨b, off, A', n', c', hx, rfl, hb, h1, h2, hT, hV⟩ := rec_at hr (j := n - 1) (by omega)
    obtain ⟨h', hlt⟩ := lastT_at (acc := l) (by rw [HL.out]; exact hz)
    have hidx : lastT l = l[n - 1].T := by rw [hlt]; simp only [HL.out]
    rw [hidx]
    generalize l[n - 1].T = x at *
    have hnz : ((n : Int) == 0) = false := by simp; omega
    have wj : IntKind.i64.wrap ((n : Int) - 1) = (n : Int) - 1 := IntWalk.i64_in _ (by omega)
    have tj : ((n : Int) - 1).toNat = n - 1 := by omega
    have pj : (0 : Int) ≤ (n : Int) - 1 := by omega
    have lj : (n : Int) - 1 < (n : Int) := by omega
    clear h2 hV
    go_enter Try.func30, Try.ntmps30
    go_wp2
    go_ret
    exact ⟨rfl, rfl⟩

theorem lastT_take {l : List Rec} {j : Nat} (hx : j < l.length) (hj : 0 < j) : lastT (l.take j) = l[j - 1].T := by
  have hl : (l.take j).length = j := by rw [List.length_take]; omega
  obtain ⟨h', e⟩ := lastT_at (acc := l.take j) (by omega)
  rw [e]
  simp only [hl, List.getElem_take]
theorem ris_step {l : List Rec} {j : Nat} (hx : j < l.length) (h : ChkTo l j) (hv : l[j].V.length ≤ 4096) (hr : lastT (l.take j) < l[j].T) : ChkTo l (j + 1) := fun i hi hi1 => by
  by_cases hij : i < j
  · exact h i hi hij
  · obtain rfl : i = j := by omega
    exact ⟨hv, fun h0 => by rw [lastT_take hx h0] at hr; exact hr⟩
theorem ris_no {l : List Rec} {j : Nat} (hx : j < l.length) (h0 : 0 ≤ l[j].T) (hr : ¬ lastT (l.take j) < l[j].T) : ¬ MayBe l := fun h => by
  rcases Nat.eq_zero_or_pos j with hj | hj
  · subst hj
    apply hr
    have : lastT (l.take 0) = -1 := by simp [lastT]
    omega
  · rw [lastT_take hx hj] at hr
    exact hr ((h.2 j hx hx).2 hj)

theorem Try.elemRec : Try.prog.elem 22 = 36 := by kernel_rfl

set_option maxRecDepth 100000 in
set_option maxHeartbeats 1000000 in
theorem tlvCheck_any (A : Option Addr) (n c : Nat) (l : List Rec) (w : World) (hr : Sl lay_Record w (· < w.heap.size) A n c l) :
    Calls Try.prog 17 #[.slice A n c] w fun e w' => e = .returned (.int .i64 (chk l)) ∧ Below w.heap.size w w' := by
  have hcap := hr.cap
  unfold maxLen at hcap
  have HL := hid hr.len
  by_cases g0 : 64 < n
  · have HC := hid (chk_no (l := l) fun h => by have := h.1; rw [HL.out] at this; omega)
    have g0' : (64 : Int) < n := by omega
    go_enter Try.func17, Try.ntmps17
    go_wp2
    go_ret
    exact ⟨ret_num HC.out.symm, Below.refl _ _⟩
  have d0 : decide ((64 : Int) < (n : Int)) = false := by simp; omega
  go_enter Try.func17, Try.ntmps17
  go_wp2
  go_loopw [10] (fun i wr => ∃ j : Nat, j ≤ n ∧ i = .int .i64 j ∧ ChkTo l j ∧ Below w.heap.size w wr) (fun i _ => n - (intOf i).toNat)
  case atStart => exact ⟨0, Nat.zero_le _, rfl, fun _ _ h => absurd h (by omega), Below.refl _ _⟩
  case round =>
    obtain ⟨j, hj, rfl, hto, hbel⟩ := hrel
    have HT := hid hto
    clear hto
    by_cases hlt : j < n
    · obtain ⟨b, off, A', n', c', hx, rfl, hb, h1, h2, hTb, hV⟩ := rec_at hr hlt
      have q1 := (hbel.cell (p := ⟨b, off + j * 2, none⟩) hb).trans h1
      have q2 := (hbel.cell (p := ⟨b, off + j * 2 + 1, none⟩) hb).trans h2
      have hbb : b < wr.heap.size := Nat.lt_of_lt_of_le hb hbel.size
      have HX := hid hV.len
      have hcv := hV.cap
      unfold maxLen at hcv
      clear h1 h2
      by_cases g1 : 4096 < n'
      · have HC := hid (chk_no (l := l) fun h => by have := (h.2 j hx hx).1; rw [HX.out] at this; omega)
        have g1' : (4096 : Int) < n' := by omega
        have d1 : decide ((4096 : Int) < (n' : Int)) = true := by simp; omega
        go_wp2_with fail
        go_quiet (fail)
        go_wp2
        go_ret
        exact ⟨ret_num HC.out.symm, by (repeat (first | exact Below.refl _ _ | refine Below.drew ?_ | refine bel_drewN ?_ _ | refine bel_alloc ?_ _ | refine bel_call ?_ (by assumption)))⟩
      have d1 : decide ((4096 : Int) < (n' : Int)) = false := by simp; omega
      have hV4 : l[j].V.length ≤ 4096 := by rw [HX.out]; omega
      have RT := hid ((hr.upto hj).keep fun _ hp => (hbel.alloc hbel.size (Obj.cells #[.int .u64 l[j].T, .slice A' n' c'] 36)).cell hp)
      have hup := run_uptoL (P := Try.prog) 22 36 .i64 Try.underlying22 Try.elemRec Try.infoRec (some ⟨b, off, none⟩) n c j (by omega)
      by_cases g3 : lastT (l.take j) < l[j].T
      · have HN := hid (ris_step hx HT.out hV4 g3)
        have hd : decide (lastT (l.take j) < l[j].T) = true := decide_eq_true g3
        clear g3 hV4
        generalize l[j].T = x at *
        generalize l.take j = lt at *
        go_wp2_with fail
        go_quiet ((go_at_call 30; exact Calls.quiet_of_same ((rises_any _ _ _ _ lt x _ (RT.out.drewN _) hTb.1).mono fun _ _ h => ⟨h.1, h.2.symm⟩)))
        go_wp2
        go_roundw
        case rel => exact ⟨j + 1, by omega, by go_num, HN.out, by (repeat (first | exact Below.refl _ _ | refine Below.drew ?_ | refine bel_drewN ?_ _ | refine bel_alloc ?_ _ | refine bel_call ?_ (by assumption)))⟩
        case measure => simp [intOf]; omega
      · have HC := hid (chk_no (ris_no hx hTb.1 g3))
        have hd : decide (lastT (l.take j) < l[j].T) = false := decide_eq_false g3
        clear g3 hV4
        generalize l[j].T = x at *
        generalize l.take j = lt at *
        go_wp2_with fail
        go_quiet ((go_at_call 30; exact Calls.quiet_of_same ((rises_any _ _ _ _ lt x _ (RT.out.drewN _) hTb.1).mono fun _ _ h => ⟨h.1, h.2.symm⟩)))
        go_wp2
        go_ret
        exact ⟨ret_num HC.out.symm, by (repeat (first | exact Below.refl _ _ | refine Below.drew ?_ | refine bel_drewN ?_ _ | refine bel_alloc ?_ _ | refine bel_call ?_ (by assumption)))⟩
    · have HC := hid (chk_ok (l := l) ⟨by rw [HL.out]; omega, fun i hi _ => HT.out i hi (by rw [HL.out] at hi; omega)⟩)
      go_wp2
      go_ret
      exact ⟨ret_num HC.out.symm, hbel⟩

set_option maxHeartbeats 1000000 in
theorem same1_any (s1 s2 : Array Value) (S : Nat → Prop) (x y : Rec) (w : World) (h1 : lay_Record.rep w S x s1.toList) (h2 : lay_Record.rep w S y s2.toList) (hS : ∀ b, S b → b < w.heap.size) :
    Calls Try.prog 32 #[.agg s1, .agg s2] w fun e w' => e = .returned (.bool (decide (x = y))) ∧ Below w.heap.size w w' := by
  obtain ⟨A1, n1, c1, hc1, hT1, hV1⟩ := rep_Record.1 h1
  obtain rfl : s1 = #[.int .u64 x.T, .slice A1 n1 c1] := Array.ext' hc1
  obtain ⟨A2, n2, c2, hc2, hT2, hV2⟩ := rep_Record.1 h2
  obtain rfl : s2 = #[.int .u64 y.T, .slice A2 n2 c2] := Array.ext' hc2
  have hb0 : Below w.heap.size w ((w.alloc (Obj.cells #[.int .u64 x.T, .slice A1 n1 c1] 36)).alloc (Obj.cells #[.int .u64 y.T, .slice A2 n2 c2] 36)) := bel_alloc (bel_alloc (Below.refl _ _) _) _
  have R1 := hid ((hV1.rd hS).below hb0)
  have R2 := hid ((hV2.rd hS).below hb0)
  clear hV1 hV2 h1 h2
  by_cases ht : x.T = y.T
  · have hbe : (x.T == y.T) = true := by simpa using ht
    have HD := hid (show decide (x = y) = decide (x.V = y.V) from by
      by_cases hv : x.V = y.V
      · rw [decide_eq_true (Rec.ext' ht hv), decide_eq_true hv]
      · rw [decide_eq_false hv, decide_eq_false fun e => hv (by rw [e])])
    clear ht
    go_enter Try.func32, Try.ntmps32
    go_wp2_with (go_at_call 33; go_must (refine (equal_any _ _ _ _ _ _ _ _ _ _ _ R1.out R2.out).mono ?_; rintro e w' ⟨rfl, rfl⟩))
    go_ret
    exact ⟨ret_bool HD.out.symm, hb0⟩
  · have hbe : (x.T == y.T) = false := by simpa using ht
    have HD := hid (show decide (x = y) = false from decide_eq_false fun e => ht (by rw [e]))
    clear ht
    go_enter Try.func32, Try.ntmps32
    go_wp2
    go_ret
    exact ⟨ret_bool HD.out.symm, hb0⟩

set_option maxRecDepth 100000 in
set_option maxHeartbeats 1000000 in
theorem equalFunc_any (A1 A2 : Option Addr) (n1 c1 n2 c2 : Nat) (l o : List Rec) (w : World) (h1 : Sl lay_Record w (· < w.heap.size) A1 n1 c1 l) (h2 : Sl lay_Record w (· < w.heap.size) A2 n2 c2 o) :
    Calls Try.prog 31 #[.slice A1 n1 c1, .slice A2 n2 c2, .func (.func 32) #[] #[]] w fun e w' => e = .returned (.bool (decide (l = o))) ∧ Below w.heap.size w w' := by
  have K1 := hid h1.len
  have K2 := hid h2.len
  have k1 := h1.cap
  have k2 := h2.cap
  unfold maxLen at k1 k2
  by_cases hl : n1 = n2
  · subst hl
    have hne : ((n1 : Int) != (n1 : Int)) = false := by simp
    go_enter Try.func31, Try.ntmps31
    go_wp2
    go_loopw [17] (fun i wr => ∃ j : Nat, j ≤ n1 ∧ i = .int .i64 j ∧ l.take j = o.take j ∧ Below w.heap.size w wr) (fun i _ => n1 - (intOf i).toNat)
    case atStart => exact ⟨0, Nat.zero_le _, rfl, rfl, Below.refl _ _⟩
    case round =>
      obtain ⟨j, hj, rfl, hpre, hbel⟩ := hrel
      have HP := hid hpre
      clear hpre
      by_cases hlt : j < n1
      · obtain ⟨b1, o1, A', n', c', hx1, rfl, hb1, t1, v1, hTb1, hV1⟩ := rec_at h1 hlt
        obtain ⟨b2, o2, A'', n'', c'', hx2, rfl, hb2, t2, v2, hTb2, hV2⟩ := rec_at h2 hlt
        have q1 := (hbel.cell (p := ⟨b1, o1 + j * 2, none⟩) hb1).trans t1
        have q2 := (hbel.cell (p := ⟨b1, o1 + j * 2 + 1, none⟩) hb1).trans v1
        have q3 := (hbel.cell (p := ⟨b2, o2 + j * 2, none⟩) hb2).trans t2
        have q4 := (hbel.cell (p := ⟨b2, o2 + j * 2 + 1, none⟩) hb2).trans v2
        have hg1 : b1 < wr.heap.size := Nat.lt_of_lt_of_le hb1 hbel.size
        have hg2 : b2 < wr.heap.size := Nat.lt_of_lt_of_le hb2 hbel.size
        have hbb := (hbel.alloc hbel.size (Obj.cells #[.int .u64 l[j].T, .slice A' n' c'] 36)).alloc (by have := hbel.size; simp; omega) (Obj.cells #[.int .u64 o[j].T, .slice A'' n'' c''] 36)
        have P1 := hid (show lay_Record.rep _ (· < w.heap.size) l[j] #[.int .u64 l[j].T, .slice A' n' c'].toList from rep_Record.2 ⟨A', n', c', rfl, wf_u64 hTb1, hV1.keep fun _ hp => hbb.cell hp⟩)
        have P2 := hid (show lay_Record.rep _ (· < w.heap.size) o[j] #[.int .u64 o[j].T, .slice A'' n'' c''].toList from rep_Record.2 ⟨A'', n'', c'', rfl, wf_u64 hTb2, hV2.keep fun _ hp => hbb.cell hp⟩)
        have HS := hid (fun (b : Nat) (h : b < w.heap.size) => Nat.lt_of_lt_of_le h hbb.size)
        clear t1 v1 t2 v2 hV1 hV2
        by_cases he : l[j] = o[j]
        · have HN := hid (take_sameR hx1 hx2 HP.out he)
          have HD := hid (decide_eq_true he)
          clear he
          go_wp2_with (go_at_call 32; go_must (refine (same1_any _ _ _ l[j] o[j] _ P1.out P2.out HS.out).mono ?_; rw [HD.out]; rintro e w2 ⟨rfl, hb2⟩))
          go_roundw
          case rel => exact ⟨j + 1, by omega, by go_num, HN.out, hbb.trans (hb2.mono hbb.size)⟩
          case measure => simp [intOf]; omega
        · have HN := hid (show decide (l = o) = false from decide_eq_false fun e => he (by simp only [e]))
          have HD := hid (decide_eq_false he)
          clear he
          go_wp2_with (go_at_call 32; go_must (refine (same1_any _ _ _ l[j] o[j] _ P1.out P2.out HS.out).mono ?_; rw [HD.out]; rintro e w2 ⟨rfl, hb2⟩))
          go_ret
          exact ⟨ret_bool HN.out.symm, hbb.trans (hb2.mono hbb.size)⟩
      · have HN := hid (show decide (l = o) = true from by
          have := HP.out
          rw [List.take_of_length_le (by rw [K1.out]; omega), List.take_of_length_le (by rw [K2.out]; omega)] at this
          exact decide_eq_true this)
        go_wp2
        go_ret
        exact ⟨ret_bool HN.out.symm, hbel⟩
  · have hne : ((n1 : Int) != (n2 : Int)) = true := by simp; omega
    have HN := hid (show decide (l = o) = false from decide_eq_false fun e => by rw [e] at K1; have a1 := K1.out; have a2 := K2.out; omega)
    go_enter Try.func31, Try.ntmps31
    go_wp2
    go_ret
    exact ⟨ret_bool HN.out.symm, Below.refl _ _⟩

theorem tlvSame_any (A1 A2 : Option Addr) (n1 c1 n2 c2 : Nat) (l o : List Rec) (w : World) (h1 : Sl lay_Record w (· < w.heap.size) A1 n1 c1 l) (h2 : Sl lay_Record w (· < w.heap.size) A2 n2 c2 o) :
    Calls Try.prog 19 #[.slice A1 n1 c1, .slice A2 n2 c2] w fun e w' => e = .returned (.bool (decide (l = o))) ∧ Below w.heap.size w w' := by
  go_enter Try.func19, Try.ntmps19
  go_wp2_with (go_at_call 31; go_must (refine (equalFunc_any _ _ _ _ _ _ _ _ _ h1 h2).mono ?_; rintro e w1 ⟨rfl, h3⟩))
  go_ret
  exact ⟨rfl, h3⟩
end Go.Proofs.Ytajgjalcomhhcaa
