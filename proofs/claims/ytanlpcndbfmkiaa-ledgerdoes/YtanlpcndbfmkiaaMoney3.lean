/-
  The contracts of package money's Fee, of its weigh, and of the closure of its Split.
-/
import Derived.Test.YtanlpcndbfmkiaaMoney2
namespace Go.Proofs.Ytanlpcndbfmkiaa
open Go.RowKit Go.WalkArith

end Go.Proofs.Ytanlpcndbfmkiaa
