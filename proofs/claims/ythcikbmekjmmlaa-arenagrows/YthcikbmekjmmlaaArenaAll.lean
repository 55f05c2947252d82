/-
  The contracts of package arena, all.
-/
import Derived.Test.YthcikbmekjmmlaaArena8
