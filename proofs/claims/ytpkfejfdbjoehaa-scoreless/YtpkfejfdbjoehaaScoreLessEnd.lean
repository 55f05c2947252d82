/-
  The walk of the law: 'scoreLess_walk', on the program as it landed.
-/
import Derived.Test.YtpkfejfdbjoehaaScoreLessWalk
import Derived.Test.YtpkfejfdbjoehaaScore3
namespace Go.Proofs.Ytpkfejfdbjoehaa
open Go.RowKit Go.WalkArith

theorem scoreLess_walk (a0 a1 a2 : Nat) (w : World) (u5 : (Lit.float .f64 a0).wf = true) (u6 : (Lit.float .f64 a1).wf = true) (u7 : (Lit.float .f64 a2).wf = true) :
    Calls Try.prog 4 #[.float .f64 a0, .float .f64 a1, .float .f64 a2] w fun e w' => e = .returned (.bool true) ∧ Below w.heap.size w w' :=
  scoreLess_walkH score_spec a0 a1 a2 w u5 u6 u7
end Go.Proofs.Ytpkfejfdbjoehaa
