/-
  The walk of the law: 'rootsFull_walk', on the program as it landed.
-/
import Derived.Test.YtlenoiaepanejaaRootsFullWalk
import Derived.Test.YtlenoiaepanejaaRoots6
namespace Go.Proofs.Ytlenoiaepanejaa
open Go.RowKit Go.WalkArith

theorem rootsFull_walk (a0 a1 : Int) (w : World) (b0 : 0 ≤ a0 ∧ a0 ≤ 18446744073709551615) (b1 : 0 ≤ a1 ∧ a1 ≤ 255) :
    Calls Try.prog 6 #[.int .u64 a0, .int .u8 a1] w fun e w' => e = .returned (.bool true) ∧ Below w.heap.size w w' :=
  rootsFull_walkH roots_spec a0 a1 w b0 b1
end Go.Proofs.Ytlenoiaepanejaa
