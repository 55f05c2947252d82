/-
  The contracts of the document's small answers of layer 12: whether two rows of invoices are the same, whether one is late, which one has a hash.
-/
import Derived.Test.YtannjlejghmfpaaInvoiceSpec
import Derived.Test.YtannjlejghmfpaaBox
import Derived.Test.YtannjlejghmfpaaStep
import Derived.Test.YtannjlejghmfpaaStd
import Derived.DeepKeys4
import Derived.Deep.Cut
import Derived.BigQuiet
import Derived.Deep.QuietTactic
import Derived.StillTailTactics
namespace Go.Proofs.Ytannjlejghmfpaa
open Go.RowKit Go.WalkArith

theorem ivCells : Try.prog.cellsOf 37 = 4 := by kernel_rfl
theorem ivCellsU : Try.prog.cellsOf 23 = 1 := by kernel_rfl
theorem ivCellsI : Try.prog.cellsOf 3 = 1 := by kernel_rfl
theorem ivKey : Try.prog.keyTypeAt 2 37 = true := by kernel_rfl
abbrev invV (c : Inv) : Value := .agg #[.int .u64 c.Hash, .int .u64 c.N, .int .u64 c.Till, .int .i64 c.State]
theorem ivLits {c : Inv} (h : InvWf c) : Try.prog.keyLits 2 37 [.int .u64 c.Hash, .int .u64 c.N, .int .u64 c.Till, .int .i64 c.State] = some [.int .u64 c.Hash, .int .u64 c.N, .int .u64 c.Till, .int .i64 c.State] := by
  simp [Program.keyLits, Try.underlying37, ivCells, ivCellsU, ivCellsI, Try.underlying23, Try.underlying3, h.w0, h.w1, h.w2, h.w3]
theorem ivFormed (c : Inv) : (invV c).formed Try.prog 37 = true := by simp [Value.formed, Try.underlying37, ivCells]
/-- Two invoices compared. -/
theorem run_neInv {c d : Inv} (hc : InvWf c) (hd : InvWf d) (w : World) : (binOp .neq 37 (.agg #[.int .u64 c.Hash, .int .u64 c.N, .int .u64 c.Till, .int .i64 c.State]) (.agg #[.int .u64 d.Hash, .int .u64 d.N, .int .u64 d.Till, .int .i64 d.State])).run Try.prog w = .ok (.bool (!decide (c = d))) w := by
  obtain ⟨r, hr, hi⟩ := run_equalIn_deep 9998 2 _ ivKey w 2 2 (invV c) (invV d) _ _ (ivFormed c) (ivFormed d) (ivLits hc) (ivLits hd)
  have h9 : (Op.equal 37 (invV c) (invV d)).run Try.prog w = .ok r w := hr
  have : r = decide (c = d) := by
    rw [Bool.eq_iff_iff, hi, decide_eq_true_iff]
    constructor
    · intro e
      simp only [List.cons.injEq, Lit.int.injEq, true_and, and_true] at e
      cases c; cases d; simp_all
    · rintro rfl
      rfl
  rw [← this]
  simp [binOp, h9]
theorem drew_add12 (w : World) (m n : Nat) : (w.drewN m).drewN n = w.drewN (m + n) := by
  simp [World.drewN, Nat.add_assoc]
theorem take_same12 {l o : List Inv} {j : Nat} (hx : j < l.length) (hy : j < o.length) (h : l.take j = o.take j) (e : l[j] = o[j]) : l.take (j + 1) = o.take (j + 1) := by
  rw [List.take_succ_eq_append_getElem hx, List.take_succ_eq_append_getElem hy, h, e]

set_option maxRecDepth 100000 in
set_option maxHeartbeats 1000000 in
theorem refSame12_any (A1 A2 : Option Addr) (n1 c1 n2 c2 : Nat) (S : Nat → Prop) (l o : List Inv) (w : World) (h1 : Sl lay_Invoice w S A1 n1 c1 l) (h2 : Sl lay_Invoice w S A2 n2 c2 o) :
    Calls Try.prog 21 #[.slice A1 n1 c1, .slice A2 n2 c2] w fun e w' => e = .returned (.bool (decide (l = o))) ∧ ∃ m, w' = w.drewN m := by
  have K1 := hid h1.len
  have K2 := hid h2.len
  have k1 := h1.cap
  have k2 := h2.cap
  unfold maxLen at k1 k2
  by_cases hl : n1 = n2
  · subst hl
    have hne : ((n1 : Int) != (n1 : Int)) = false := by simp
    go_enter Try.func21, Try.ntmps21
    go_wp2
    go_loopw [13] (fun i wr => ∃ j : Nat, j ≤ n1 ∧ i = .int .i64 j ∧ l.take j = o.take j ∧ ∃ m, wr = w.drewN m) (fun i _ => n1 - (intOf i).toNat)
    case atStart => exact ⟨0, Nat.zero_le _, rfl, rfl, 0, rfl⟩
    case round =>
      obtain ⟨j, hj, rfl, hpre, m, hwr⟩ := hrel
      have HP := hid hpre
      have HW := hid hwr
      clear hpre hwr
      by_cases hlt : j < n1
      · obtain ⟨b1, o1, hx1, rfl, -, t1, t2, t3, t4, w1⟩ := at_Invoice h1 hlt
        obtain ⟨b2, o2, hx2, rfl, -, u1, u2, u3, u4, w2⟩ := at_Invoice h2 hlt
        have hne2 := run_neInv w1 w2
        clear w1 w2
        have q1 : wr.cell? ⟨b1, o1 + j * 4, none⟩ = some (.int .u64 l[j].Hash) := by rw [HW.out]; exact t1
        have q2 : wr.cell? ⟨b1, o1 + j * 4 + 1, none⟩ = some (.int .u64 l[j].N) := by rw [HW.out]; exact t2
        have q3 : wr.cell? ⟨b1, o1 + j * 4 + 2, none⟩ = some (.int .u64 l[j].Till) := by rw [HW.out]; exact t3
        have q4 : wr.cell? ⟨b1, o1 + j * 4 + 3, none⟩ = some (.int .i64 l[j].State) := by rw [HW.out]; exact t4
        have p1 : wr.cell? ⟨b2, o2 + j * 4, none⟩ = some (.int .u64 o[j].Hash) := by rw [HW.out]; exact u1
        have p2 : wr.cell? ⟨b2, o2 + j * 4 + 1, none⟩ = some (.int .u64 o[j].N) := by rw [HW.out]; exact u2
        have p3 : wr.cell? ⟨b2, o2 + j * 4 + 2, none⟩ = some (.int .u64 o[j].Till) := by rw [HW.out]; exact u3
        have p4 : wr.cell? ⟨b2, o2 + j * 4 + 3, none⟩ = some (.int .i64 o[j].State) := by rw [HW.out]; exact u4
        clear t1 t2 t3 t4 u1 u2 u3 u4
        by_cases he : l[j] = o[j]
        · have HN := hid (take_same12 hx1 hx2 HP.out he)
          rw [decide_eq_true he] at hne2
          clear he
          go_wp2_with fail
          go_quiet (fail)
          go_wp2
          go_roundw
          case rel => exact ⟨j + 1, by omega, by go_num, HN.out, m + _, by rw [HW.out]; exact drew_add12 w m _⟩
          case measure => simp [intOf]; omega
        · have HN := hid (show decide (l = o) = false from decide_eq_false fun e => he (by simp only [e]))
          rw [decide_eq_false he] at hne2
          clear he
          go_wp2_with fail
          go_quiet (fail)
          go_wp2
          go_ret
          exact ⟨ret_bool HN.out.symm, m + _, by rw [HW.out]; exact drew_add12 w m _⟩
      · have HN := hid (show decide (l = o) = true from by
          have := HP.out
          rw [List.take_of_length_le (by rw [K1.out]; omega), List.take_of_length_le (by rw [K2.out]; omega)] at this
          exact decide_eq_true this)
        go_wp2
        go_ret
        exact ⟨ret_bool HN.out.symm, m, HW.out⟩
  · have hne : ((n1 : Int) != (n2 : Int)) = true := by simp; omega
    have HN := hid (show decide (l = o) = false from decide_eq_false fun e => by rw [e] at K1; have a1 := K1.out; have a2 := K2.out; omega)
    go_enter Try.func21, Try.ntmps21
    go_wp2
    go_ret
    exact ⟨ret_bool HN.out.symm, 0, rfl⟩

set_option maxRecDepth 100000 in
theorem refLate12_any (x : Inv) (t : Int) (w : World) :
    Calls Try.prog 39 #[invV x, .int .u64 t] w fun e w' => e = .returned (.bool (lateI x t)) ∧ Below w.heap.size w w' := by
  have hba := bel_alloc (Below.refl w.heap.size w) (Obj.cells #[.int .u64 x.Hash, .int .u64 x.N, .int .u64 x.Till, .int .i64 x.State] 37)
  go_enter Try.func39, Try.ntmps39
  by_cases h1 : x.State = 1
  · have d1 : (x.State == 1) = true := by simpa using h1
    have e : lateI x t = decide (x.Till < t) := by unfold lateI; rw [d1]; rfl
    rw [e]
    clear e h1
    go_wp2
    go_ret
    exact ⟨rfl, hba⟩
  · have d1 : (x.State == 1) = false := by simpa using h1
    have e : lateI x t = false := by unfold lateI; rw [d1]; rfl
    rw [e]
    clear e h1
    go_wp2
    go_ret
    exact ⟨rfl, hba⟩
end Go.Proofs.Ytannjlejghmfpaa
