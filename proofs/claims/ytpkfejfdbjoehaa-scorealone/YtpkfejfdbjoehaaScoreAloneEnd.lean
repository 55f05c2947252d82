/-
  The walk of the law: 'scoreAlone_walk', on the program as it landed.
-/
import Derived.Test.YtpkfejfdbjoehaaScoreAloneWalk
import Derived.Test.YtpkfejfdbjoehaaScore3
namespace Go.Proofs.Ytpkfejfdbjoehaa
open Go.RowKit Go.WalkArith

theorem scoreAlone_walk (A0 : Option Addr) (n0 c0 : Nat) (x0 : List Chn) (A1 : Option Addr) (n1 c1 : Nat) (x1 : List Wgt) (a2 a3 : Int) (w : World) (r0 : Sl lay_Channel w (· < w.heap.size) A0 n0 c0 x0) (r1 : Sl lay_Weight w (· < w.heap.size) A1 n1 c1 x1) (b2 : 0 ≤ a2 ∧ a2 ≤ 18446744073709551615) (u16 : 0 ≤ a3 ∧ a3 ≤ 18446744073709551615) :
    Calls Try.prog 7 #[.slice A0 n0 c0, .slice A1 n1 c1, .int .u64 a2, .int .u64 a3] w fun e w' => e = .returned (.bool true) ∧ Below w.heap.size w w' :=
  scoreAlone_walkH score_spec chan_room A0 n0 c0 x0 A1 n1 c1 x1 a2 a3 w r0 r1 b2 u16
end Go.Proofs.Ytpkfejfdbjoehaa
