/-
  The walk of the law: 'invoiceOthers_walk', on the program as it landed.
-/
import Derived.Test.YtannjlejghmfpaaInvoiceOthersWalk
import Derived.Test.YtannjlejghmfpaaInvoice5
namespace Go.Proofs.Ytannjlejghmfpaa
open Go.RowKit Go.WalkArith

theorem invoiceOthers_walk (A0 : Option Addr) (n0 c0 : Nat) (x0 : List Inv) (a1 a2 a3 a4 a5 : Int) (w : World) (r0 : Sl lay_Invoice w (· < w.heap.size) A0 n0 c0 x0) (b1 : 0 ≤ a1 ∧ a1 ≤ 18446744073709551615) (b2 : 0 ≤ a2 ∧ a2 ≤ 18446744073709551615) (b3 : 0 ≤ a3 ∧ a3 ≤ 18446744073709551615) (b4 : 0 ≤ a4 ∧ a4 ≤ 18446744073709551615) (b5 : 0 ≤ a5 ∧ a5 ≤ 18446744073709551615) :
    Calls Try.prog 6 #[.slice A0 n0 c0, .int .u64 a1, .int .u64 a2, .int .u64 a3, .int .u64 a4, .int .u64 a5] w fun e w' => e = .returned (.bool true) ∧ Below w.heap.size w w' :=
  invoiceOthers_walkH invoice_spec A0 n0 c0 x0 a1 a2 a3 a4 a5 w r0 b1 b2 b3 b4 b5
end Go.Proofs.Ytannjlejghmfpaa
