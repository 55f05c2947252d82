/-
  The contracts of package money's Fee, of its weigh, and of the closure of its Split.
-/
import Derived.Test.YtegeggmjdhjkiaaMoney2
namespace Go.Proofs.Ytegeggmjdhjkiaa
open Go.RowKit Go.WalkArith

set_option maxHeartbeats 1000000 in
theorem mFee_any (b p a : Int) (w : World) (hb : (Lit.int .u64 b).wf = true) (hp : (Lit.int .u64 p).wf = true) (ha : (Lit.int .u64 a).wf = true) :
    Calls Try.prog 16 #[.int .u64 b, .int .u64 p, .int .u64 a] w fun e w' => e = .returned (.tuple #[.int .u64 (feeN b p a), .int .i64 (feeE b p a)]) ∧ Below w.heap.size w w' := by
  have hs := shareN_bd (bounds_u64 ha).1 (bounds_u64 hp).1
  have HS := hid (wf_u64 (n := shareN a p) (by have := hs.1; have := hs.2.2; unfold mMax at this; omega))
  clear hs
  rcases shareE_cases a p with ⟨h, -⟩ | ⟨h, -⟩
  · have HF := hid (feeE_ok (b := b) h)
    have HE := hid h
    clear h
    go_enter Try.func16, Try.ntmps16
    go_wp2_with (first | (go_at_call 14; go_must (refine (mShare_any a p _ ha hp).mono ?_; rw [HE.out]; rintro e w1 ⟨rfl, hb1⟩)) | (go_at_call 10; go_must (refine (mAdd_any _ _ _ _ [b, shareN a p] _ (rd_two w1 b (shareN a p) hb HS.out) (Nat.le_refl _)).mono ?_; rintro e w2 ⟨rfl, hb2⟩)))
    go_ret2
    exact ⟨by rw [HF.out.1, HF.out.2]; rfl, bel_call (bel_alloc hb1 _) hb2⟩
  · have HF := hid (feeE_no (b := b) h)
    have HE := hid h
    clear h
    go_enter Try.func16, Try.ntmps16
    go_wp2_with (go_at_call 14; go_must (refine (mShare_any a p _ ha hp).mono ?_; rw [HE.out]; rintro e w1 ⟨rfl, hb1⟩))
    go_ret2
    exact ⟨by rw [HF.out.1, HF.out.2]; rfl, hb1⟩

set_option maxHeartbeats 1000000 in
theorem weigh_any (A : Option Addr) (n c B : Nat) (xs : List Int) (w : World) (hr : Rd w B .u64 A n c xs) (hB : B ≤ w.heap.size) :
    Calls Try.prog 25 #[.slice A n c] w fun e w' => e = .returned (.tuple #[.int .u64 (weighN xs), .int .i64 (weighE xs)]) ∧ Below w.heap.size w w' := by
  have hcap := hr.cap
  unfold maxLen at hcap
  have HL := hid hr.len
  by_cases hn : n ≤ 64
  · have d0 : decide ((64 : Int) < (n : Int)) = false := by simp; omega
    by_cases ha : allLe 1000000 xs = true
    · have hn' : (!(allLe 1000000 xs)) = false := by rw [ha]; rfl
      have hE := addE_weights ha (by rw [HL.out]; exact hn)
      have HN := hid (show addN xs = sumM xs from if_pos hE)
      have HE := hid hE
      by_cases hz : sumM xs = 0
      · have HR := hid (show weighE xs = 1 ∧ weighN xs = 0 from by
          have h1 : weighE xs = 1 := if_neg fun k => k.2.2 hz
          exact ⟨h1, if_neg (by rw [h1]; decide)⟩)
        have HZ := hid hz
        clear hz ha hE
        go_enter Try.func25, Try.ntmps25
        go_wp2_with (first | (go_at_call 27; go_must (refine (anyAbove_any _ _ _ _ xs _ _ hr hB).mono ?_; rw [hn']; rintro e w1 ⟨rfl, hb1⟩)) | (go_at_call 10; go_must (refine (mAdd_any _ _ _ _ xs _ ((hr.more hB).below hb1) hb1.size).mono ?_; rw [HE.out, HN.out, HZ.out]; rintro e w2 ⟨rfl, hb2⟩)))
        go_ret2
        exact ⟨by rw [HR.out.1, HR.out.2]; rfl, bel_call hb1 hb2⟩
      · have HR := hid (show weighE xs = 0 ∧ weighN xs = sumM xs from by
          have h1 : weighE xs = 0 := if_pos ⟨by rw [HL.out]; exact hn, ha, hz⟩
          exact ⟨h1, if_pos h1⟩)
        have hz' : (sumM xs == 0) = false := by simpa using hz
        clear hz ha hE
        generalize sumM xs = s at *
        go_enter Try.func25, Try.ntmps25
        go_wp2_with (first | (go_at_call 27; go_must (refine (anyAbove_any _ _ _ _ xs _ _ hr hB).mono ?_; rw [hn']; rintro e w1 ⟨rfl, hb1⟩)) | (go_at_call 10; go_must (refine (mAdd_any _ _ _ _ xs _ ((hr.more hB).below hb1) hb1.size).mono ?_; rw [HE.out, HN.out]; rintro e w2 ⟨rfl, hb2⟩)))
        go_ret2
        exact ⟨by rw [HR.out.1, HR.out.2]; rfl, bel_call hb1 hb2⟩
    · have hn' : (!(allLe 1000000 xs)) = true := by simpa using ha
      have HR := hid (show weighE xs = 1 ∧ weighN xs = 0 from by
        have h1 : weighE xs = 1 := if_neg fun k => ha k.2.1
        exact ⟨h1, if_neg (by rw [h1]; decide)⟩)
      clear ha
      go_enter Try.func25, Try.ntmps25
      go_wp2_with (go_at_call 27; go_must (refine (anyAbove_any _ _ _ _ xs _ _ hr hB).mono ?_; rw [hn']; rintro e w1 ⟨rfl, hb1⟩))
      go_ret2
      exact ⟨by rw [HR.out.1, HR.out.2]; rfl, hb1⟩
  · have d0 : (64 : Int) < (n : Int) := by omega
    have HR := hid (show weighE xs = 1 ∧ weighN xs = 0 from by
      have h1 : weighE xs = 1 := if_neg fun k => hn (by rw [← HL.out]; exact k.1)
      exact ⟨h1, if_neg (by rw [h1]; decide)⟩)
    go_enter Try.func25, Try.ntmps25
    go_wp2
    go_ret2
    exact ⟨by rw [HR.out.1, HR.out.2]; rfl, Below.refl _ _⟩

set_option maxHeartbeats 1000000 in
theorem next_any (S G a t x : Int) (bS bG bA bT : Nat) (w : World) (hS : w.heap[bS]? = some (.cells #[.int .u64 S] 23 (0, 0))) (hG : w.heap[bG]? = some (.cells #[.int .u64 G] 23 (0, 0)))
    (hA : w.heap[bA]? = some (.cells #[.int .u64 a] 23 (0, 0))) (hT : w.heap[bT]? = some (.cells #[.int .u64 t] 23 (0, 0))) (hSG : bS ≠ bG) (hSA : bS ≠ bA) (hST : bS ≠ bT)
    (ha0 : 0 ≤ a) (ha1 : a ≤ mMax) (h0 : 0 ≤ S + x) (h1 : S + x ≤ t) (ht : 0 < t) (ht2 : t ≤ 64000000) (hg0 : 0 ≤ G) (hg1 : G ≤ scl a (S + x) t) :
    Calls Try.prog 26 #[.int .u64 x, .pointer (some ⟨bS, 0, none⟩), .pointer (some ⟨bG, 0, none⟩), .pointer (some ⟨bA, 0, none⟩), .pointer (some ⟨bT, 0, none⟩)] w fun e w' =>
      e = .returned (.int .u64 (scl a (S + x) t - G)) ∧ ∃ m, w' = ((w.setCell ⟨bS, 0, none⟩ (.int .u64 (S + x))).drewN m).setCell ⟨bG, 0, none⟩ (.int .u64 (scl a (S + x) t)) := by
  have cS := cell_of_one hS
  have fS := free_of_one hS
  have hG2 : (w.setCell ⟨bS, 0, none⟩ (.int .u64 (S + x))).heap[bG]? = some (.cells #[.int .u64 G] 23 (0, 0)) := by rw [heap_setCell_other _ _ _ _ (by simpa using hSG.symm)]; exact hG
  have hA2 : (w.setCell ⟨bS, 0, none⟩ (.int .u64 (S + x))).heap[bA]? = some (.cells #[.int .u64 a] 23 (0, 0)) := by rw [heap_setCell_other _ _ _ _ (by simpa using hSA.symm)]; exact hA
  have hT2 : (w.setCell ⟨bS, 0, none⟩ (.int .u64 (S + x))).heap[bT]? = some (.cells #[.int .u64 t] 23 (0, 0)) := by rw [heap_setCell_other _ _ _ _ (by simpa using hST.symm)]; exact hT
  have hS2 : (w.setCell ⟨bS, 0, none⟩ (.int .u64 (S + x))).heap[bS]? = some (.cells #[.int .u64 (S + x)] 23 (0, 0)) := one_setCell hS
  have ws : IntKind.u64.wrap (S + x) = S + x := IntWalk.u64_in _ (by omega)
  have hG3 : ∀ m, ((w.setCell ⟨bS, 0, none⟩ (.int .u64 (S + x))).drewN m).heap[bG]? = some (.cells #[.int .u64 G] 23 (0, 0)) := fun _ => hG2
  have hG4 : ∀ m, (((w.setCell ⟨bS, 0, none⟩ (.int .u64 (S + x))).drewN m).setCell ⟨bG, 0, none⟩ (.int .u64 (scl a (S + x) t))).heap[bG]? = some (.cells #[.int .u64 (scl a (S + x) t)] 23 (0, 0)) := fun m => one_setCell (hG3 m)
  generalize hW1 : w.setCell ⟨bS, 0, none⟩ (.int .u64 (S + x)) = W1 at *
  have c1 := cell_of_one hS2
  have c2 := cell_of_one hG2
  have c3 := cell_of_one hA2
  have c4 := cell_of_one hT2
  have f2 := fun m => free_of_one (hG3 m)
  have c5 := fun m => cell_of_one (hG4 m)
  have hs1 := scl_le ha0 h1 ht
  have ha2 : a ≤ 4611686018427387904 := ha1
  have HSC := hid (fun W => scale_any a (S + x) t W ha0 ha1 h0 h1 ht ht2)
  generalize scl a (S + x) t = z at *
  clear hS hG hA hT hS2 hG2 hA2 hT2 hG3 hG4
  go_enter Try.func26, Try.ntmps26
  go_wp2_with (go_at_call 23; go_must (refine (HSC.out _).mono ?_; rintro e w2 ⟨rfl, m, rfl⟩; have c6 := c5 m; have f6 := f2 m))
  go_ret
  exact ⟨rfl, m, rfl⟩
end Go.Proofs.Ytegeggmjdhjkiaa
