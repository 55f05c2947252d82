/-
  The walk of the law: 'invoiceOrder_walk', on the program as it landed.
-/
import Derived.Test.YtannjlejghmfpaaInvoiceOrderWalk
import Derived.Test.YtannjlejghmfpaaInvoice5
namespace Go.Proofs.Ytannjlejghmfpaa
open Go.RowKit Go.WalkArith

theorem invoiceOrder_walk (A0 : Option Addr) (n0 c0 : Nat) (x0 : List Inv) (s1 : Array Value) (x1 : Inv) (s2 : Array Value) (x2 : Inv) (w : World) (r0 : Sl lay_Invoice w (· < w.heap.size) A0 n0 c0 x0) (r1 : lay_Invoice.rep w (· < w.heap.size) x1 s1.toList) (r2 : lay_Invoice.rep w (· < w.heap.size) x2 s2.toList) :
    Calls Try.prog 7 #[.slice A0 n0 c0, .agg s1, .agg s2] w fun e w' => e = .returned (.bool true) ∧ Below w.heap.size w w' :=
  invoiceOrder_walkH invoice_spec A0 n0 c0 x0 s1 x1 s2 x2 w r0 r1 r2
end Go.Proofs.Ytannjlejghmfpaa
