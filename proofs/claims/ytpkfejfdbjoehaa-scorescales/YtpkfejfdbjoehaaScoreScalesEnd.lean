/-
  The walk of the law: 'scoreScales_walk', on the program as it landed.
-/
import Derived.Test.YtpkfejfdbjoehaaScoreScalesWalk
import Derived.Test.YtpkfejfdbjoehaaScore3
namespace Go.Proofs.Ytpkfejfdbjoehaa
open Go.RowKit Go.WalkArith

theorem scoreScales_walk (s0 : Array Value) (x0 : Chn) (a1 a2 : Nat) (w : World) (r0 : lay_Channel.rep w (· < w.heap.size) x0 s0.toList) (u7 : (Lit.float .f64 a1).wf = true) (u8 : (Lit.float .f64 a2).wf = true) :
    Calls Try.prog 8 #[.agg s0, .float .f64 a1, .float .f64 a2] w fun e w' => e = .returned (.bool true) ∧ Below w.heap.size w w' :=
  scoreScales_walkH score_spec s0 x0 a1 a2 w r0 u7 u8
end Go.Proofs.Ytpkfejfdbjoehaa
