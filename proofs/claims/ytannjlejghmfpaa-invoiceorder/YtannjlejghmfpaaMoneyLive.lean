/-
  The statements' example of layer 4, and the calls as the statements make them.
-/
import Derived.Test.YtannjlejghmfpaaMoney4
import Derived.Test.YtannjlejghmfpaaBigsizeSame
namespace Go.Proofs.Ytannjlejghmfpaa
open Go.RowKit Go.WalkArith

theorem Rd.lit3 {w : World} {b off : Nat} {k : IntKind} {x y z : Int} (h0 : w.cell? ⟨b, off, none⟩ = some (.int k x)) (h1 : w.cell? ⟨b, off + 1, none⟩ = some (.int k y)) (h2 : w.cell? ⟨b, off + 2, none⟩ = some (.int k z)) (hx : (Lit.int k x).wf = true) (hy : (Lit.int k y).wf = true) (hz : (Lit.int k z).wf = true) : Rd w w.heap.size k (some ⟨b, off, none⟩) 3 3 [x, y, z] :=
  ⟨rfl, Nat.le_refl _, by simp [maxLen], by simpa using ⟨hx, hy, hz⟩, by simp, fun _ => ⟨b, off, rfl, World.block_lt_of_cell? w _ h0, fun j hj => by
    match j, hj with
    | 0, _ => simpa [nth] using h0
    | 1, _ => simpa [nth] using h1
    | 2, _ => simpa [nth] using h2⟩⟩
theorem rd_three (w : World) (a b c : Int) (ha : (Lit.int .u64 a).wf = true) (hb : (Lit.int .u64 b).wf = true) (hc : (Lit.int .u64 c).wf = true) : Rd (w.alloc (.cells #[.int .u64 a, .int .u64 b, .int .u64 c] 23)) (w.alloc (.cells #[.int .u64 a, .int .u64 b, .int .u64 c] 23)).heap.size .u64 (some ⟨w.heap.size, 0, none⟩) 3 3 [a, b, c] :=
  Rd.lit3 (by rw [World.cell?_alloc_at] <;> rfl) (by rw [World.cell?_alloc_at] <;> rfl) (by rw [World.cell?_alloc_at] <;> rfl) ha hb hc

theorem mCheck2_any (a b : Int) (w : World) (ha : (Lit.int .u64 a).wf = true) (hb : (Lit.int .u64 b).wf = true) :
    Calls Try.prog 43 #[.slice (some ⟨w.heap.size, 0, none⟩) 2 2] (w.alloc (.cells #[.int .u64 a, .int .u64 b] 23)) fun e w' => e = .returned (.int .i64 (chkM [a, b])) ∧ Below w.heap.size w w' :=
  (mCheck_any _ _ _ _ [a, b] _ (rd_two w a b ha hb) (Nat.le_refl _)).mono fun _ _ h => ⟨h.1, bel_call (bel_alloc (Below.refl _ _) _) h.2⟩
theorem mCheck1_any (a : Int) (w : World) (ha : (Lit.int .u64 a).wf = true) :
    Calls Try.prog 43 #[.slice (some ⟨w.heap.size, 0, none⟩) 1 1] (w.alloc (.cells #[.int .u64 a] 23)) fun e w' => e = .returned (.int .i64 (chkM [a])) ∧ Below w.heap.size w w' :=
  (mCheck_any _ _ _ _ [a] _ (rd_one w a ha) (Nat.le_refl _)).mono fun _ _ h => ⟨h.1, bel_call (bel_alloc (Below.refl _ _) _) h.2⟩
end Go.Proofs.Ytannjlejghmfpaa
