/-
  The contract of the document's own With of layer 2 (its records' octets may be those handed in).
-/
import Derived.Test.YtgiapfenalhleaaTlvRefFind
import Derived.Test.YtgiapfenalhleaaTlvRefGet
import Derived.Test.YtgiapfenalhleaaStep
namespace Go.Proofs.Ytgiapfenalhleaa
open Go.RowKit Go.WalkArith

end Go.Proofs.Ytgiapfenalhleaa
