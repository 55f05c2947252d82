/-
  The contracts of package bigsize's functions.
-/
import Derived.Test.YtbcahbgdjoahaaaRows
import Derived.Test.YtbcahbgdjoahaaaBigsizeMath
import Derived.Deep.QuietTactic
import Derived.BigQuiet
import Derived.OpenShut
namespace Go.Proofs.Ytbcahbgdjoahaaa
open Go.RowKit Go.WalkArith

theorem Try.infoU8 : (Try.prog.info? 5).map (fun i => (i.zero, i.size, i.bytes)) = some (some (.int .u8 0), 1, 1) := by kernel_rfl
theorem Try.elemU8 : Try.prog.elem 22 = 5 := by kernel_rfl
end Go.Proofs.Ytbcahbgdjoahaaa
