/-
  The walk of the law: 'scoreDoes_walk', on the program as it landed.
-/
import Derived.Test.YtpkfejfdbjoehaaScoreDoesWalk
import Derived.Test.YtpkfejfdbjoehaaScore3
namespace Go.Proofs.Ytpkfejfdbjoehaa
open Go.RowKit Go.WalkArith

theorem scoreDoes_walk (A0 : Option Addr) (n0 c0 : Nat) (x0 : List Chn) (A1 : Option Addr) (n1 c1 : Nat) (x1 : List Wgt) (a2 : Int) (a3 a4 : Nat) (a5 : Int) (s6 : Array Value) (x6 : Chn) (w : World) (r0 : Sl lay_Channel w (· < w.heap.size) A0 n0 c0 x0) (r1 : Sl lay_Weight w (· < w.heap.size) A1 n1 c1 x1) (b2 : 0 ≤ a2 ∧ a2 ≤ 18446744073709551615) (u19 : (Lit.float .f64 a3).wf = true) (u20 : (Lit.float .f64 a4).wf = true) (b5 : 0 ≤ a5 ∧ a5 ≤ 18446744073709551615) (r6 : lay_Channel.rep w (· < w.heap.size) x6 s6.toList) :
    Calls Try.prog 3 #[.slice A0 n0 c0, .slice A1 n1 c1, .int .u64 a2, .float .f64 a3, .float .f64 a4, .int .u64 a5, .agg s6] w fun e w' => e = .returned (.bool true) ∧ Below w.heap.size w w' :=
  scoreDoes_walkH score_spec A0 n0 c0 x0 A1 n1 c1 x1 a2 a3 a4 a5 s6 x6 w r0 r1 b2 u19 u20 b5 r6
end Go.Proofs.Ytpkfejfdbjoehaa
