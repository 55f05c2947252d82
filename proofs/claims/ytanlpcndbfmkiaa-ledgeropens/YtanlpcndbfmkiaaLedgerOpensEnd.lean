/-
  The walk of the law: 'ledgerOpens_walk', on the program as it landed.
-/
import Derived.Test.YtanlpcndbfmkiaaLedgerOpensWalk
import Derived.Test.YtanlpcndbfmkiaaPackLg2
namespace Go.Proofs.Ytanlpcndbfmkiaa
open Go.RowKit Go.WalkArith

theorem ledgerOpens_walk (A0 : Option Addr) (n0 c0 : Nat) (x0 : List Chn) (s1 : Array Value) (x1 : Chn) (s2 : Array Value) (x2 : Chn) (w : World) (r0 : Sl lay_Channel w (· < w.heap.size) A0 n0 c0 x0) (r1 : lay_Channel.rep w (· < w.heap.size) x1 s1.toList) (r2 : lay_Channel.rep w (· < w.heap.size) x2 s2.toList) :
    Calls Try.prog 8 #[.slice A0 n0 c0, .agg s1, .agg s2] w fun e w' => e = .returned (.bool true) ∧ Below w.heap.size w w' :=
  ledgerOpens_walkH ledger_spec chan_two A0 n0 c0 x0 s1 x1 s2 x2 w r0 r1 r2
end Go.Proofs.Ytanlpcndbfmkiaa
