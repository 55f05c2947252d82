/-
  The walk of the law: 'rootsOrder_walk', on the program as it landed.
-/
import Derived.Test.YtlenoiaepanejaaRootsOrderWalk
import Derived.Test.YtlenoiaepanejaaRoots6
namespace Go.Proofs.Ytlenoiaepanejaa
open Go.RowKit Go.WalkArith

theorem rootsOrder_walk (A0 : Option Addr) (n0 c0 : Nat) (x0 : List Rtk) (a1 a2 a3 a4 : Int) (w : World) (r0 : Sl lay_RootKey w (· < w.heap.size) A0 n0 c0 x0) (b1 : 0 ≤ a1 ∧ a1 ≤ 18446744073709551615) (b2 : 0 ≤ a2 ∧ a2 ≤ 18446744073709551615) (b3 : 0 ≤ a3 ∧ a3 ≤ 18446744073709551615) (b4 : 0 ≤ a4 ∧ a4 ≤ 18446744073709551615) :
    Calls Try.prog 7 #[.slice A0 n0 c0, .int .u64 a1, .int .u64 a2, .int .u64 a3, .int .u64 a4] w fun e w' => e = .returned (.bool true) ∧ Below w.heap.size w w' :=
  rootsOrder_walkH roots_spec A0 n0 c0 x0 a1 a2 a3 a4 w r0 b1 b2 b3 b4
end Go.Proofs.Ytlenoiaepanejaa
