/-
  The walk of the law: 'invoiceSweeps_walk', on the program as it landed.
-/
import Derived.Test.YtannjlejghmfpaaInvoiceSweepsWalk
import Derived.Test.YtannjlejghmfpaaInvoice5
namespace Go.Proofs.Ytannjlejghmfpaa
open Go.RowKit Go.WalkArith

theorem invoiceSweeps_walk (A0 : Option Addr) (n0 c0 : Nat) (x0 : List Inv) (a1 a2 : Int) (w : World) (r0 : Sl lay_Invoice w (· < w.heap.size) A0 n0 c0 x0) (b1 : 0 ≤ a1 ∧ a1 ≤ 18446744073709551615) (b2 : 0 ≤ a2 ∧ a2 ≤ 18446744073709551615) :
    Calls Try.prog 5 #[.slice A0 n0 c0, .int .u64 a1, .int .u64 a2] w fun e w' => e = .returned (.bool true) ∧ Below w.heap.size w w' :=
  invoiceSweeps_walkH invoice_spec A0 n0 c0 x0 a1 a2 w r0 b1 b2
end Go.Proofs.Ytannjlejghmfpaa
