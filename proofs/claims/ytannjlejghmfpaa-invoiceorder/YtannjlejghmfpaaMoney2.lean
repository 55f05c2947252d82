/-
  The contracts of package money's Add, Sub, Share, Fee, and of its weigh.
-/
import Derived.Test.YtannjlejghmfpaaMoney1
namespace Go.Proofs.Ytannjlejghmfpaa
open Go.RowKit Go.WalkArith

theorem rd_two (w : World) (a b : Int) (ha : (Lit.int .u64 a).wf = true) (hb : (Lit.int .u64 b).wf = true) : Rd (w.alloc (.cells #[.int .u64 a, .int .u64 b] 23)) (w.alloc (.cells #[.int .u64 a, .int .u64 b] 23)).heap.size .u64 (some ⟨w.heap.size, 0, none⟩) 2 2 [a, b] :=
  Rd.lit2 (by rw [World.cell?_alloc_at] <;> rfl) (by rw [World.cell?_alloc_at] <;> rfl) ha hb
theorem rd_one (w : World) (a : Int) (ha : (Lit.int .u64 a).wf = true) : Rd (w.alloc (.cells #[.int .u64 a] 23)) (w.alloc (.cells #[.int .u64 a] 23)).heap.size .u64 (some ⟨w.heap.size, 0, none⟩) 1 1 [a] :=
  Rd.lit1 (by rw [World.cell?_alloc_at] <;> rfl) ha

end Go.Proofs.Ytannjlejghmfpaa
