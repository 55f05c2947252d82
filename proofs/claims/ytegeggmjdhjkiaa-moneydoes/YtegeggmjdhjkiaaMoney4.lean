/-
  The contract of package money's Split.
-/
import Derived.Test.YtegeggmjdhjkiaaMoney3
import Derived.Laws.CopyOwn
import Derived.Deep.OwnRows
namespace Go.Proofs.Ytegeggmjdhjkiaa
open Go.RowKit Go.WalkArith

theorem rd_oneB (w : World) (a : Int) (b : Nat) (hb : b = w.heap.size) (ha : (Lit.int .u64 a).wf = true) : Rd (w.alloc (.cells #[.int .u64 a] 23)) (w.alloc (.cells #[.int .u64 a] 23)).heap.size .u64 (some ⟨b, 0, none⟩) 1 1 [a] := by
  subst hb
  exact rd_one w a ha
theorem block_kept (w : World) (o : Obj) {w1 : World} (h : Below (w.alloc o).heap.size (w.alloc o) w1) : w1.heap[w.heap.size]? = some o := by
  rw [h.block w.heap.size (by simp), heap_alloc_new]

/-- Split's own memory: what its closure counts in, and the parts. -/
structure SplitSt (a : Int) (xs : List Int) (bA bT bS : Nat) (w : World) (j k : Nat) : Prop where
  a_ : w.heap[bA]? = some (.cells #[.int .u64 a] 23 (0, 0))
  t_ : w.heap[bT]? = some (.cells #[.int .u64 (sumM xs)] 23 (0, 0))
  s_ : w.heap[bS]? = some (.cells #[.int .u64 (upM xs j)] 23 (0, 0))
  g_ : w.heap[bS + 1]? = some (.cells #[.int .u64 (scl a (upM xs j) (sumM xs))] 23 (0, 0))
  p_ : w.heap[bS + 1 + 1]? = some (.cells ((ptsM a xs k ++ List.replicate (xs.length - k) 0).map (Value.int .u64)).toArray 23 (0, 0))

theorem part_store {a : Int} {xs : List Int} {k : Nat} (hk : k < xs.length) : ((ptsM a xs k ++ List.replicate (xs.length - k) 0).map (Value.int .u64)).toArray.setIfInBounds k (.int .u64 (partM a xs k)) = ((ptsM a xs (k + 1) ++ List.replicate (xs.length - (k + 1)) 0).map (Value.int .u64)).toArray := by
  obtain ⟨d, hd⟩ : ∃ d, xs.length - k = d + 1 := ⟨xs.length - k - 1, by omega⟩
  have hd2 : xs.length - (k + 1) = d := by omega
  rw [hd, hd2, ptsM_succ, List.replicate_succ]
  simp [ptsM_len]

theorem SplitSt.store {a : Int} {xs : List Int} {bA bT bS : Nat} {w : World} {j k : Nat} (h : SplitSt a xs bA bT bS w j k) (h1 : bA < bT) (h2 : bT < bS) (hk : k < xs.length) : SplitSt a xs bA bT bS (w.setCell ⟨bS + 1 + 1, k, none⟩ (.int .u64 (partM a xs k))) j (k + 1) :=
  ⟨by rw [heap_setCell_other _ _ _ _ (by simp; omega)]; exact h.a_, by rw [heap_setCell_other _ _ _ _ (by simp; omega)]; exact h.t_, by rw [heap_setCell_other _ _ _ _ (by simp; omega)]; exact h.s_, by rw [heap_setCell_other _ _ _ _ (by simp)]; exact h.g_, by
    have := heap_setCell_same w (bS + 1 + 1) k _ _ (.int .u64 (partM a xs k)) h.p_
    rw [part_store hk] at this
    exact this⟩
theorem SplitSt.cellP {a : Int} {xs : List Int} {bA bT bS : Nat} {w : World} {j k : Nat} (h : SplitSt a xs bA bT bS w j k) (hk : k < xs.length) : ∃ v, w.cell? ⟨bS + 1 + 1, k, none⟩ = some v := by
  have hl : k < ((ptsM a xs k ++ List.replicate (xs.length - k) 0).map (Value.int .u64)).toArray.size := by simp [ptsM_len]; omega
  exact ⟨_, by simp only [World.cell?, h.p_]; exact Array.getElem?_eq_getElem hl⟩
theorem SplitSt.freeP {a : Int} {xs : List Int} {bA bT bS : Nat} {w : World} {j k : Nat} (h : SplitSt a xs bA bT bS w j k) (i : Nat) : w.frozen? ⟨bS + 1 + 1, i, none⟩ = false := by simp [World.frozen?, h.p_]

theorem SplitSt.next {a : Int} {xs : List Int} {bA bT bS : Nat} {w : World} {j k B : Nat} (h : SplitSt a xs bA bT bS w j k) (h1 : bA < bT) (h2 : bT < bS) (hj : j < xs.length) (ha0 : 0 ≤ a) (ha1 : a ≤ mMax) (hx : ∀ x ∈ xs, 0 ≤ x) (ht : sumM xs ≠ 0) (ht2 : sumM xs ≤ 64000000) (hB : B ≤ bS) :
    Calls Try.prog 26 #[.int .u64 (nth xs j), .pointer (some ⟨bS, 0, none⟩), .pointer (some ⟨bS + 1, 0, none⟩), .pointer (some ⟨bA, 0, none⟩), .pointer (some ⟨bT, 0, none⟩)] w fun e w' =>
      e = .returned (.int .u64 (partM a xs j)) ∧ SplitSt a xs bA bT bS w' (j + 1) k ∧ Below B w w' := by
  have h0 := sumM_nonneg hx
  have hu := upM_succ hj
  have hu0 := upM_nonneg hx (j + 1)
  have hu1 := upM_le hx (j + 1)
  have hg0 := scl_nonneg (w := sumM xs) ha0 (upM_nonneg hx j) (by omega)
  have hg1 := scl_mono (w := sumM xs) ha0 (upM_mono hx j) (by omega)
  rw [hu] at hu0 hu1 hg1
  refine (next_any (upM xs j) _ a (sumM xs) (nth xs j) bS (bS + 1) bA bT w h.s_ h.g_ h.a_ h.t_ (by omega) (by omega) (by omega) ha0 ha1 hu0 hu1 (by omega) ht2 hg0 hg1).mono ?_
  rintro e w' ⟨rfl, m, rfl⟩
  have hs2 := one_setCell (u := .int .u64 (upM xs j + nth xs j)) h.s_
  refine ⟨by rw [partM, hu], ⟨?_, ?_, ?_, ?_, ?_⟩, ?_⟩
  · rw [heap_setCell_other _ _ _ _ (by simp; omega)]; change (w.setCell _ _).heap[bA]? = _; rw [heap_setCell_other _ _ _ _ (by simp; omega)]; exact h.a_
  · rw [heap_setCell_other _ _ _ _ (by simp; omega)]; change (w.setCell _ _).heap[bT]? = _; rw [heap_setCell_other _ _ _ _ (by simp; omega)]; exact h.t_
  · rw [heap_setCell_other _ _ _ _ (by simp), hu]; exact hs2
  · rw [hu]
    refine one_setCell (v := .int .u64 (scl a (upM xs j) (sumM xs))) ?_
    change (w.setCell _ _).heap[bS + 1]? = _
    rw [heap_setCell_other _ _ _ _ (by simp)]; exact h.g_
  · rw [heap_setCell_other _ _ _ _ (by simp)]; change (w.setCell _ _).heap[bS + 1 + 1]? = _; rw [heap_setCell_other _ _ _ _ (by simp; omega)]; exact h.p_
  · exact (bel_drewN ((Below.refl B w).setCell (p := ⟨bS, 0, none⟩) hB _) m).setCell (p := ⟨bS + 1, 0, none⟩) (by simp; omega) _

theorem made_listM (n : Nat) (z : Value) : madeCells #[z] n = (List.replicate n z).toArray := by
  apply Array.ext
  · simp [size_madeCells]
  · intro i h1 h2
    simp [madeCells, Nat.mod_one]
theorem SplitSt.start (a : Int) (xs : List Int) {bA bT n : Nat} {w : World} (hn : xs.length = n) (hA : w.heap[bA]? = some (.cells #[.int .u64 a] 23 (0, 0))) (hT : w.heap[bT]? = some (.cells #[.int .u64 (sumM xs)] 23 (0, 0))) :
    SplitSt a xs bA bT w.heap.size (((w.alloc (.cells #[.int .u64 0] 23)).alloc (.cells #[.int .u64 0] 23)).alloc (.cells (madeCells #[.int .u64 0] n) 23)) 0 0 := by
  have l1 := lt_of_block hA
  have l2 := lt_of_block hT
  have z1 : (w.alloc (.cells #[.int .u64 0] 23)).heap.size = w.heap.size + 1 := by simp
  have z2 : ((w.alloc (.cells #[.int .u64 0] 23)).alloc (.cells #[.int .u64 0] 23)).heap.size = w.heap.size + 1 + 1 := by simp
  refine ⟨?_, ?_, ?_, ?_, ?_⟩
  · rw [heap_alloc_old _ _ (by omega), heap_alloc_old _ _ (by omega), heap_alloc_old _ _ l1]; exact hA
  · rw [heap_alloc_old _ _ (by omega), heap_alloc_old _ _ (by omega), heap_alloc_old _ _ l2]; exact hT
  · rw [heap_alloc_old _ _ (by omega), heap_alloc_old _ _ (by omega), heap_alloc_new, upM_zero]
  · rw [heap_alloc_old _ _ (by omega), upM_zero, scl_zero, ← z1, heap_alloc_new]
  · rw [← z2, heap_alloc_new, made_listM]
    simp [ptsM, hn]

set_option maxHeartbeats 1000000 in
theorem mSplit_any (a : Int) (A : Option Addr) (n c B : Nat) (xs : List Int) (w : World) (ha : (Lit.int .u64 a).wf = true) (hr : Rd w B .u64 A n c xs) (hB : B ≤ w.heap.size) :
    Calls Try.prog 18 #[.int .u64 a, .slice A n c] w fun e w' => ∃ v', e = .returned (.tuple #[v', .int .i64 (splitE a xs)]) ∧ Own w' w.heap.size 23 .u64 v' (splitL a xs) ∧ Below w.heap.size w w' := by
  have hcap := hr.cap
  unfold maxLen at hcap
  have HL := hid hr.len
  have b0 := bounds_u64 ha
  have HR := hid (hr.alloc hB (.cells #[.int .u64 a] 23))
  have HRB : B ≤ (w.alloc (.cells #[.int .u64 a] 23)).heap.size := by simp; omega
  by_cases hm : a ≤ mMax
  · have HC := hid (show chkM [a] = 0 from by rw [chkM_one, if_pos hm])
    rcases weigh_cases xs with ⟨h1, h2, h3, h4, h5⟩ | ⟨h1, h2, -⟩
    · have HS := hid (split_ok hm h1)
      have HE := hid h1
      have HN := hid h5
      clear h1 h5
      go_enter Try.func18, Try.ntmps18
      go_wp2_with (first | (go_at_call 25; go_must (refine (weigh_any _ _ _ _ xs _ HR.out HRB).mono ?_; rw [HE.out, HN.out]; rintro e w1 ⟨rfl, hb1⟩; have hA1 := block_kept w _ hb1; have cA := cell_of_one hA1; have lA := lt_of_block hA1)) | (go_at_call 21; go_must (refine (mCheck_any _ _ _ _ [a] _ (rd_oneB (w1.alloc (.cells #[.int .u64 (sumM xs)] 23)) a (w1.heap.size + 1) (by simp) ha) (Nat.le_refl _)).mono ?_; rw [HC.out]; rintro e w2 ⟨rfl, hb2⟩)))
      have hn64 : n ≤ 64 := by rw [← HL.out]; exact h2
      have hmk := run_make_row' (P := Try.prog) 22 23 (.int .u64 0) 8 Try.underlying22 Try.infoU64 rfl .i64 .i64 n (by omega) (by omega) ((w2.alloc (.cells #[.int .u64 0] 23)).alloc (.cells #[.int .u64 0] 23))
      obtain ⟨W3, hW3⟩ : ∃ W3, W3 = ((w2.alloc (.cells #[.int .u64 0] 23)).alloc (.cells #[.int .u64 0] 23)).alloc (.cells (madeCells #[.int .u64 0] n) 23) := ⟨_, rfl⟩
      rw [← hW3] at hmk
      have hz1 : (w1.alloc (.cells #[.int .u64 (sumM xs)] 23)).heap.size = w1.heap.size + 1 := by simp
      have hz2 : ((w1.alloc (.cells #[.int .u64 (sumM xs)] 23)).alloc (.cells #[.int .u64 a] 23)).heap.size = w1.heap.size + 2 := by simp
      have hs2 := hb2.size
      rw [hz2] at hs2 hb2
      have hT2 : w2.heap[w1.heap.size]? = some (.cells #[.int .u64 (sumM xs)] 23 (0, 0)) := by
        rw [hb2.block w1.heap.size (by omega), heap_alloc_old _ _ (by rw [hz1]; omega), heap_alloc_new]
      have hA2 : w2.heap[w.heap.size]? = some (.cells #[.int .u64 a] 23 (0, 0)) := by
        rw [hb2.block w.heap.size (by omega), heap_alloc_old _ _ (by rw [hz1]; omega), heap_alloc_old _ _ (by omega)]
        exact hA1
      have hbw : Below w.heap.size w W3 := by
        rw [hW3]
        exact bel_alloc (bel_alloc (bel_alloc ((bel_alloc (bel_alloc (bel_call (bel_alloc (Below.refl _ _) _) hb1) _) _).trans (hb2.mono (by have := lA; omega))) _) _) _
      have hst : SplitSt a xs w.heap.size w1.heap.size w2.heap.size W3 0 0 := by
        rw [hW3]
        exact SplitSt.start a xs HL.out hA2 hT2
      have HX := hid (nonneg_u64 hr.wf)
      have HQ := hid (weights_sum h3 h2)
      have HT := hid h4
      have hRw := hr.more hB
      clear hW3 hA2 hT2 hb2 hb1 hA1 cA h3 h4 h2
      rw [hmk]
      clear hmk
      go_wp2
      go_loopw [33] (fun i wr => ∃ j : Nat, j ≤ n ∧ i = .int .i64 j ∧ SplitSt a xs w.heap.size w1.heap.size w2.heap.size wr j j ∧ Below w.heap.size w wr) (fun i _ => n - (intOf i).toNat)
      case atStart => exact ⟨0, Nat.zero_le _, rfl, hst, hbw⟩
      case round =>
        obtain ⟨j, hj, rfl, hst1, hbel⟩ := hrel
        clear hst hbw
        have hT12 : w1.heap.size < w2.heap.size := by omega
        by_cases hlt : j < n
        · obtain ⟨b1, o1, rfl, hlb1, hc1⟩ := hRw.at_ (by omega)
          have q1 := (hbel.cell (p := ⟨b1, o1 + j, none⟩) hlb1).trans (hc1 j hlt)
          have hjx : j < xs.length := by rw [HL.out]; exact hlt
          have HJX := hid hjx
          clear hc1 hjx
          have hNX := hid (hst1.next lA hT12 HJX.out b0.1 hm HX.out HT.out HQ.out (B := w.heap.size) (by omega))
          generalize nth xs j = x at *
          generalize hP : partM a xs j = y at *
          have HP := hid hP
          clear hP
          go_wp2_with (go_at_call 26; go_must (refine hNX.out.mono ?_; rintro e w3 ⟨rfl, hst3, hb3⟩; obtain ⟨v0, cP⟩ := hst3.cellP HJX.out; have fP := hst3.freeP j))
          go_roundw
          case rel => exact ⟨j + 1, by omega, by go_num, by rw [← HP.out]; exact hst3.store lA hT12 HJX.out, (hbel.trans hb3).setCell (by simp; omega) _⟩
          case measure => simp [intOf]; omega
        · have hjn : j = n := by omega
          subst hjn
          go_wp2
          go_ret2
          refine ⟨_, by rw [HS.out.1]; rfl, ?_, hbel⟩
          rw [HS.out.2, HL.out]
          have hp := hst1.p_
          rw [HL.out, Nat.sub_self, List.replicate_zero, List.append_nil] at hp
          refine ⟨⟨by simp [ptsM_len], .inr ⟨w2.heap.size + 1 + 1, j, _, by rw [ptsM_len]; rfl, by omega, hp, by rw [ptsM_len]; omega, by unfold maxLen; omega, by simp [ptsM_len], by rw [Nat.mul_one, List.toList_toArray, List.take_of_length_le (by simp)]⟩⟩, fun x hx => ?_⟩
          obtain ⟨i, _, rfl⟩ := ptsM_mem hx
          have h0 := sumM_nonneg HX.out
          have hz := HT.out
          have k1 := partM_nonneg b0.1 HX.out (by omega) i
          have k2 := partM_le b0.1 HX.out (by omega) i
          exact wf_u64 (by omega)
    · have HS := hid (split_noW (a := a) h1)
      have HE := hid h1
      have HN := hid h2
      clear h1 h2
      go_enter Try.func18, Try.ntmps18
      go_wp2_with (first | (go_at_call 25; go_must (refine (weigh_any _ _ _ _ xs _ HR.out HRB).mono ?_; rw [HE.out, HN.out]; rintro e w1 ⟨rfl, hb1⟩; have hA1 := block_kept w _ hb1; have cA := cell_of_one hA1; have lA := lt_of_block hA1)) | (go_at_call 21; go_must (refine (mCheck_any _ _ _ _ [a] _ (rd_oneB (w1.alloc (.cells #[.int .u64 0] 23)) a (w1.heap.size + 1) (by simp) ha) (Nat.le_refl _)).mono ?_; rw [HC.out]; rintro e w2 ⟨rfl, hb2⟩)))
      go_ret2
      exact ⟨_, by rw [HS.out.1]; rfl, by rw [HS.out.2]; exact Own.nil _ _ _ _, bel_call (bel_alloc (bel_alloc (bel_call (bel_alloc (Below.refl _ _) _) hb1) _) _) hb2⟩
  · have HC := hid (show chkM [a] = 1 from by rw [chkM_one, if_neg hm])
    have HS := hid (split_noA (ws := xs) hm)
    clear hm
    go_enter Try.func18, Try.ntmps18
    go_wp2_with (first | (go_at_call 25; go_must (refine (weigh_any _ _ _ _ xs _ HR.out HRB).mono ?_; rintro e w1 ⟨rfl, hb1⟩; have hA1 := block_kept w _ hb1; have cA := cell_of_one hA1; have lA := lt_of_block hA1)) | (go_at_call 21; go_must (refine (mCheck_any _ _ _ _ [a] _ (rd_oneB (w1.alloc (.cells #[.int .u64 (weighN xs)] 23)) a (w1.heap.size + 1) (by simp) ha) (Nat.le_refl _)).mono ?_; rw [HC.out]; rintro e w2 ⟨rfl, hb2⟩)))
    go_ret2
    exact ⟨_, by rw [HS.out.1]; rfl, by rw [HS.out.2]; exact Own.nil _ _ _ _, bel_call (bel_alloc (bel_alloc (bel_call (bel_alloc (Below.refl _ _) _) hb1) _) _) hb2⟩
end Go.Proofs.Ytegeggmjdhjkiaa
