/-
  Two caveats compared.
-/
import Derived.Test.YtgiapfenalhleaaCaveatRef3
import Derived.DeepKeys4
namespace Go.Proofs.Ytgiapfenalhleaa
open Go.RowKit Go.WalkArith

theorem cvCells : Try.prog.cellsOf 30 = 3 := by kernel_rfl
theorem cvCellsU : Try.prog.cellsOf 25 = 1 := by kernel_rfl
theorem cvCellsI : Try.prog.cellsOf 3 = 1 := by kernel_rfl
theorem cvKey : Try.prog.keyTypeAt 2 30 = true := by kernel_rfl
theorem cvLits {c : Cav} (h : CavWf c) : Try.prog.keyLits 2 30 [.int .i64 c.Kind, .int .u64 c.A, .int .u64 c.B] = some [.int .i64 c.Kind, .int .u64 c.A, .int .u64 c.B] := by
  simp [Program.keyLits, Try.underlying30, cvCells, cvCellsU, cvCellsI, Try.underlying25, Try.underlying3, h.kind, h.a, h.b]
theorem cvFormed (c : Cav) : (cavV c).formed Try.prog 30 = true := by simp [Value.formed, Try.underlying30, cvCells]
/-- Two caveats compared. -/
theorem run_eqCav {c d : Cav} (hc : CavWf c) (hd : CavWf d) (w : World) : (binOp .eql 30 (.agg #[.int .i64 c.Kind, .int .u64 c.A, .int .u64 c.B]) (.agg #[.int .i64 d.Kind, .int .u64 d.A, .int .u64 d.B])).run Try.prog w = .ok (.bool (decide (c = d))) w := by
  obtain ⟨r, hr, hi⟩ := run_equalIn_deep 9998 2 _ cvKey w 2 2 (cavV c) (cavV d) _ _ (cvFormed c) (cvFormed d) (cvLits hc) (cvLits hd)
  have h9 : (Op.equal 30 (cavV c) (cavV d)).run Try.prog w = .ok r w := hr
  have : r = decide (c = d) := by
    rw [Bool.eq_iff_iff, hi, decide_eq_true_iff]
    constructor
    · intro e
      simp only [List.cons.injEq, Lit.int.injEq, true_and, and_true] at e
      cases c; cases d; simp_all
    · rintro rfl
      rfl
  rw [← this]
  simp [binOp, h9]
theorem run_neCav {c d : Cav} (hc : CavWf c) (hd : CavWf d) (w : World) : (binOp .neq 30 (.agg #[.int .i64 c.Kind, .int .u64 c.A, .int .u64 c.B]) (.agg #[.int .i64 d.Kind, .int .u64 d.A, .int .u64 d.B])).run Try.prog w = .ok (.bool (!decide (c = d))) w := by
  obtain ⟨r, hr, hi⟩ := run_equalIn_deep 9998 2 _ cvKey w 2 2 (cavV c) (cavV d) _ _ (cvFormed c) (cvFormed d) (cvLits hc) (cvLits hd)
  have h9 : (Op.equal 30 (cavV c) (cavV d)).run Try.prog w = .ok r w := hr
  have : r = decide (c = d) := by
    rw [Bool.eq_iff_iff, hi, decide_eq_true_iff]
    constructor
    · intro e
      simp only [List.cons.injEq, Lit.int.injEq, true_and, and_true] at e
      cases c; cases d; simp_all
    · rintro rfl
      rfl
  rw [← this]
  simp [binOp, h9]
end Go.Proofs.Ytgiapfenalhleaa
