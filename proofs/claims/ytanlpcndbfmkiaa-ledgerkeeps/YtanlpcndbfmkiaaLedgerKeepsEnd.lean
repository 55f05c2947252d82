/-
  The walk of the law: 'ledgerKeeps_walk', on the program as it landed.
-/
import Derived.Test.YtanlpcndbfmkiaaLedgerKeepsWalk
import Derived.Test.YtanlpcndbfmkiaaPackLg2
namespace Go.Proofs.Ytanlpcndbfmkiaa
open Go.RowKit Go.WalkArith

theorem ledgerKeeps_walk (A0 : Option Addr) (n0 c0 : Nat) (x0 : List Chn) (A1 : Option Addr) (n1 c1 : Nat) (x1 : List Int) (A2 : Option Addr) (n2 c2 : Nat) (x2 : List Int) (A3 : Option Addr) (n3 c3 : Nat) (x3 : List Int) (A4 : Option Addr) (n4 c4 : Nat) (x4 : List Int) (w : World) (r0 : Sl lay_Channel w (· < w.heap.size) A0 n0 c0 x0) (r1 : Rd w w.heap.size .u8 A1 n1 c1 x1) (r2 : Rd w w.heap.size .u64 A2 n2 c2 x2) (r3 : Rd w w.heap.size .u64 A3 n3 c3 x3) (r4 : Rd w w.heap.size .u64 A4 n4 c4 x4) :
    Calls Try.prog 5 #[.slice A0 n0 c0, .slice A1 n1 c1, .slice A2 n2 c2, .slice A3 n3 c3, .slice A4 n4 c4] w fun e w' => e = .returned (.bool true) ∧ Below w.heap.size w w' :=
  ledgerKeeps_walkH ledger_spec chan_two A0 n0 c0 x0 A1 n1 c1 x1 A2 n2 c2 x2 A3 n3 c3 x3 A4 n4 c4 x4 w r0 r1 r2 r3 r4
end Go.Proofs.Ytanlpcndbfmkiaa
