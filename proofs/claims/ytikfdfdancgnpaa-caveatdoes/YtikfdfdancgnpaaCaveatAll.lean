/-
  The contracts of package caveat.
-/
import Derived.Test.YtikfdfdancgnpaaCaveat8
