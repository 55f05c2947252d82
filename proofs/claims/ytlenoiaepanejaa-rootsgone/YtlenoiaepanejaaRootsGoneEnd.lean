/-
  The walk of the law: 'rootsGone_walk', on the program as it landed.
-/
import Derived.Test.YtlenoiaepanejaaRootsGoneWalk
import Derived.Test.YtlenoiaepanejaaRoots6
namespace Go.Proofs.Ytlenoiaepanejaa
open Go.RowKit Go.WalkArith

theorem rootsGone_walk (A0 : Option Addr) (n0 c0 : Nat) (x0 : List Rtk) (a1 : Int) (A2 : Option Addr) (n2 c2 : Nat) (x2 : List Int) (A3 : Option Addr) (n3 c3 : Nat) (x3 : List Int) (A4 : Option Addr) (n4 c4 : Nat) (x4 : List Int) (w : World) (r0 : Sl lay_RootKey w (· < w.heap.size) A0 n0 c0 x0) (b1 : 0 ≤ a1 ∧ a1 ≤ 18446744073709551615) (r2 : Rd w w.heap.size .u8 A2 n2 c2 x2) (r3 : Rd w w.heap.size .u64 A3 n3 c3 x3) (r4 : Rd w w.heap.size .u64 A4 n4 c4 x4) :
    Calls Try.prog 4 #[.slice A0 n0 c0, .int .u64 a1, .slice A2 n2 c2, .slice A3 n3 c3, .slice A4 n4 c4] w fun e w' => e = .returned (.bool true) ∧ Below w.heap.size w w' :=
  rootsGone_walkH roots_spec A0 n0 c0 x0 a1 A2 n2 c2 x2 A3 n3 c3 x3 A4 n4 c4 x4 w r0 b1 r2 r3 r4
end Go.Proofs.Ytlenoiaepanejaa
