/-
  The contract of package money's Split.
-/
import Derived.Test.YtannjlejghmfpaaMoney3
import Derived.Laws.CopyOwn
import Derived.Deep.OwnRows
namespace Go.Proofs.Ytannjlejghmfpaa
open Go.RowKit Go.WalkArith

theorem rd_oneB (w : World) (a : Int) (b : Nat) (hb : b = w.heap.size) (ha : (Lit.int .u64 a).wf = true) : Rd (w.alloc (.cells #[.int .u64 a] 23)) (w.alloc (.cells #[.int .u64 a] 23)).heap.size .u64 (some ⟨b, 0, none⟩) 1 1 [a] := by
  subst hb
  exact rd_one w a ha
theorem block_kept (w : World) (o : Obj) {w1 : World} (h : Below (w.alloc o).heap.size (w.alloc o) w1) : w1.heap[w.heap.size]? = some o := by
  rw [h.block w.heap.size (by simp), heap_alloc_new]

/-- Split's own memory: what its closure counts in, and the parts. -/
structure SplitSt (a : Int) (xs : List Int) (bA bT bS : Nat) (w : World) (j k : Nat) : Prop where
  a_ : w.heap[bA]? = some (.cells #[.int .u64 a] 23 (0, 0))
  t_ : w.heap[bT]? = some (.cells #[.int .u64 (sumM xs)] 23 (0, 0))
  s_ : w.heap[bS]? = some (.cells #[.int .u64 (upM xs j)] 23 (0, 0))
  g_ : w.heap[bS + 1]? = some (.cells #[.int .u64 (scl a (upM xs j) (sumM xs))] 23 (0, 0))
  p_ : w.heap[bS + 1 + 1]? = some (.cells ((ptsM a xs k ++ List.replicate (xs.length - k) 0).map (Value.int .u64)).toArray 23 (0, 0))

theorem part_store {a : Int} {xs : List Int} {k : Nat} (hk : k < xs.length) : ((ptsM a xs k ++ List.replicate (xs.length - k) 0).map (Value.int .u64)).toArray.setIfInBounds k (.int .u64 (partM a xs k)) = ((ptsM a xs (k + 1) ++ List.replicate (xs.length - (k + 1)) 0).map (Value.int .u64)).toArray := by
  obtain ⟨d, hd⟩ : ∃ d, xs.length - k = d + 1 := ⟨xs.length - k - 1, by omega⟩
  have hd2 : xs.length - (k + 1) = d := by omega
  rw [hd, hd2, ptsM_succ, List.replicate_succ]
  simp [ptsM_len]

theorem SplitSt.store {a : Int} {xs : List Int} {bA bT bS : Nat} {w : World} {j k : Nat} (h : SplitSt a xs bA bT bS w j k) (h1 : bA < bT) (h2 : bT < bS) (hk : k < xs.length) : SplitSt a xs bA bT bS (w.setCell ⟨bS + 1 + 1, k, none⟩ (.int .u64 (partM a xs k))) j (k + 1) :=
  ⟨by rw [heap_setCell_other _ _ _ _ (by simp; omega)]; exact h.a_, by rw [heap_setCell_other _ _ _ _ (by simp; omega)]; exact h.t_, by rw [heap_setCell_other _ _ _ _ (by simp; omega)]; exact h.s_, by rw [heap_setCell_other _ _ _ _ (by simp)]; exact h.g_, by
    have := heap_setCell_same w (bS + 1 + 1) k _ _ (.int .u64 (partM a xs k)) h.p_
    rw [part_store hk] at this
    exact this⟩
theorem SplitSt.cellP {a : Int} {xs : List Int} {bA bT bS : Nat} {w : World} {j k : Nat} (h : SplitSt a xs bA bT bS w j k) (hk : k < xs.length) : ∃ v, w.cell? ⟨bS + 1 + 1, k, none⟩ = some v := by
  have hl : k < ((ptsM a xs k ++ List.replicate (xs.length - k) 0).map (Value.int .u64)).toArray.size := by simp [ptsM_len]; omega
  exact ⟨_, by simp only [World.cell?, h.p_]; exact Array.getElem?_eq_getElem hl⟩
theorem SplitSt.freeP {a : Int} {xs : List Int} {bA bT bS : Nat} {w : World} {j k : Nat} (h : SplitSt a xs bA bT bS w j k) (i : Nat) : w.frozen? ⟨bS + 1 + 1, i, none⟩ = false := by simp [World.frozen?, h.p_]

theorem made_listM (n : Nat) (z : Value) : madeCells #[z] n = (List.replicate n z).toArray := by
  apply Array.ext
  · simp [size_madeCells]
  · intro i h1 h2
    simp [madeCells, Nat.mod_one]
theorem SplitSt.start (a : Int) (xs : List Int) {bA bT n : Nat} {w : World} (hn : xs.length = n) (hA : w.heap[bA]? = some (.cells #[.int .u64 a] 23 (0, 0))) (hT : w.heap[bT]? = some (.cells #[.int .u64 (sumM xs)] 23 (0, 0))) :
    SplitSt a xs bA bT w.heap.size (((w.alloc (.cells #[.int .u64 0] 23)).alloc (.cells #[.int .u64 0] 23)).alloc (.cells (madeCells #[.int .u64 0] n) 23)) 0 0 := by
  have l1 := lt_of_block hA
  have l2 := lt_of_block hT
  have z1 : (w.alloc (.cells #[.int .u64 0] 23)).heap.size = w.heap.size + 1 := by simp
  have z2 : ((w.alloc (.cells #[.int .u64 0] 23)).alloc (.cells #[.int .u64 0] 23)).heap.size = w.heap.size + 1 + 1 := by simp
  refine ⟨?_, ?_, ?_, ?_, ?_⟩
  · rw [heap_alloc_old _ _ (by omega), heap_alloc_old _ _ (by omega), heap_alloc_old _ _ l1]; exact hA
  · rw [heap_alloc_old _ _ (by omega), heap_alloc_old _ _ (by omega), heap_alloc_old _ _ l2]; exact hT
  · rw [heap_alloc_old _ _ (by omega), heap_alloc_old _ _ (by omega), heap_alloc_new, upM_zero]
  · rw [heap_alloc_old _ _ (by omega), upM_zero, scl_zero, ← z1, heap_alloc_new]
  · rw [← z2, heap_alloc_new, made_listM]
    simp [ptsM, hn]

end Go.Proofs.Ytannjlejghmfpaa
