/-
  The walk of the law: 'ledgerDoes_walk', on the program as it landed.
-/
import Derived.Test.YtanlpcndbfmkiaaLedgerDoesWalk
import Derived.Test.YtanlpcndbfmkiaaPackLg2
namespace Go.Proofs.Ytanlpcndbfmkiaa
open Go.RowKit Go.WalkArith

theorem ledgerDoes_walk (A0 : Option Addr) (n0 c0 : Nat) (x0 : List Chn) (s1 : Array Value) (x1 : Chn) (a2 a3 a4 : Int) (a5 : Bool) (w : World) (r0 : Sl lay_Channel w (· < w.heap.size) A0 n0 c0 x0) (r1 : lay_Channel.rep w (· < w.heap.size) x1 s1.toList) (b2 : 0 ≤ a2 ∧ a2 ≤ 18446744073709551615) (b3 : 0 ≤ a3 ∧ a3 ≤ 18446744073709551615) (b4 : 0 ≤ a4 ∧ a4 ≤ 18446744073709551615) :
    Calls Try.prog 3 #[.slice A0 n0 c0, .agg s1, .int .u64 a2, .int .u64 a3, .int .u64 a4, .bool a5] w fun e w' => e = .returned (.bool true) ∧ Below w.heap.size w w' :=
  ledgerDoes_walkH ledger_spec A0 n0 c0 x0 s1 x1 a2 a3 a4 a5 w r0 r1 b2 b3 b4
end Go.Proofs.Ytanlpcndbfmkiaa
