/-
  The contracts of package money's small functions.
  The contracts of package money's Add, Sub, Share, Fee, and of its weigh.
  The contracts of package money's Fee, of its weigh, and of the closure of its Split.
  The contract of package money's Split.
-/
import Derived.Test.YtpkfejfdbjoehaaStd
import Derived.Test.YtpkfejfdbjoehaaRet
import Derived.Test.YtpkfejfdbjoehaaMoneyMath
import Derived.Laws.CopyOwn
import Derived.Deep.OwnRows
namespace Go.Proofs.Ytpkfejfdbjoehaa
open Go.RowKit Go.WalkArith

theorem above1_any (x m : Int) (b : Nat) (w : World) (hc : w.cell? ⟨b, 0, none⟩ = some (.int .u64 m)) :
    Calls Try.prog 89 #[.int .u64 x, .pointer (some ⟨b, 0, none⟩)] w fun e w' => e = .returned (.bool (decide (m < x))) ∧ w = w' := by
  go_enter Try.func89, Try.ntmps89
  go_wp2
  go_ret
  exact ⟨rfl, rfl⟩

set_option maxHeartbeats 1000000 in
theorem indexAbove_any (A : Option Addr) (n c B : Nat) (xs : List Int) (m : Int) (b : Nat) (w : World) (hr : Rd w B .u64 A n c xs) (hc : w.cell? ⟨b, 0, none⟩ = some (.int .u64 m)) :
    Calls Try.prog 91 #[.slice A n c, .func (.func 89) #[] #[.pointer (some ⟨b, 0, none⟩)]] w fun e w' => ∃ r : Int, e = .returned (.int .i64 r) ∧ decide (0 ≤ r) = !(allLe m xs) ∧ w = w' := by
  have hcap := hr.cap
  unfold maxLen at hcap
  have HL := hid hr.len
  go_enter Try.func91, Try.ntmps91
  go_wp2
  go_loop [8] (fun i => ∃ j : Nat, j ≤ n ∧ i = .int .i64 j ∧ allLe m (xs.take j) = true) (fun i => n - (intOf i).toNat)
  case atStart => exact ⟨0, Nat.zero_le _, rfl, rfl⟩
  case round =>
    obtain ⟨j, hj, rfl, hpre⟩ := hrel
    have HP := hid hpre
    clear hpre
    by_cases hlt : j < n
    · obtain ⟨b1, o1, rfl, hb1, hc1⟩ := hr.at_ (by omega)
      have q1 := hc1 j hlt
      clear hc1
      by_cases he : m < nth xs j
      · have HN := hid (allLe_bad (by rw [HL.out]; exact hlt) he)
        have hd : decide (m < nth xs j) = true := decide_eq_true he
        clear he
        generalize nth xs j = x at *
        go_wp2_with (go_at_call 89; go_must (refine (above1_any x m b _ hc).mono ?_; rintro e w' ⟨rfl, rfl⟩))
        go_ret
        exact ⟨_, rfl, by rw [HN.out]; simp, rfl⟩
      · have HN := hid (allLe_take (by rw [HL.out]; exact hlt) HP.out (by omega : nth xs j ≤ m))
        have hd : decide (m < nth xs j) = false := decide_eq_false he
        clear he
        generalize nth xs j = x at *
        go_wp2_with (go_at_call 89; go_must (refine (above1_any x m b _ hc).mono ?_; rintro e w' ⟨rfl, rfl⟩))
        go_round
        case rel => exact ⟨j + 1, by omega, by go_num, HN.out⟩
        case measure => simp [intOf]; omega
    · have HN := hid (allLe_all (by rw [HL.out]; omega) HP.out)
      go_wp2
      go_ret
      exact ⟨_, rfl, by rw [HN.out]; simp, rfl⟩

set_option maxHeartbeats 1000000 in
theorem containsAbove_any (A : Option Addr) (n c B : Nat) (xs : List Int) (m : Int) (b : Nat) (w : World) (hr : Rd w B .u64 A n c xs) (hc : w.cell? ⟨b, 0, none⟩ = some (.int .u64 m)) :
    Calls Try.prog 88 #[.slice A n c, .func (.func 89) #[] #[.pointer (some ⟨b, 0, none⟩)]] w fun e w' => e = .returned (.bool (!(allLe m xs))) ∧ w = w' := by
  go_enter Try.func88, Try.ntmps88
  go_wp2_with (go_at_call 91; go_must (refine (indexAbove_any _ _ _ _ xs m b _ hr hc).mono ?_; rintro e w' ⟨r, rfl, hk, rfl⟩))
  go_ret
  exact ⟨rfl, rfl⟩

set_option maxHeartbeats 1000000 in
theorem anyAbove_any (A : Option Addr) (n c B : Nat) (xs : List Int) (m : Int) (w : World) (hr : Rd w B .u64 A n c xs) (hB : B ≤ w.heap.size) :
    Calls Try.prog 76 #[.int .u64 m, .slice A n c] w fun e w' => e = .returned (.bool (!(allLe m xs))) ∧ Below w.heap.size w w' := by
  have hr' := hr.alloc hB (.cells #[.int .u64 m] 24)
  have hc : (w.alloc (.cells #[.int .u64 m] 24)).cell? ⟨w.heap.size, 0, none⟩ = some (.int .u64 m) := by rw [World.cell?_alloc_at] <;> rfl
  go_enter Try.func76, Try.ntmps76
  go_wp2_with (go_at_call 88; go_must (refine (containsAbove_any _ _ _ _ xs m _ _ hr' hc).mono ?_; rintro e w' ⟨rfl, rfl⟩))
  go_ret
  exact ⟨rfl, bel_alloc (Below.refl _ _) _⟩

set_option maxHeartbeats 1000000 in
theorem mCheck_any (A : Option Addr) (n c B : Nat) (xs : List Int) (w : World) (hr : Rd w B .u64 A n c xs) (hB : B ≤ w.heap.size) :
    Calls Try.prog 57 #[.slice A n c] w fun e w' => e = .returned (.int .i64 (chkM xs)) ∧ Below w.heap.size w w' := by
  by_cases h : allLe mMax xs = true
  · have H := hid (show chkM xs = 0 from if_pos h)
    have h' : (!(allLe 4611686018427387904 xs)) = false := by change (!(allLe mMax xs)) = false; rw [h]; rfl
    clear h
    go_enter Try.func57, Try.ntmps57
    go_wp2_with (go_at_call 76; go_must (refine (anyAbove_any _ _ _ _ xs _ _ hr hB).mono ?_; rw [h']; rintro e w' ⟨rfl, hb⟩))
    go_ret
    exact ⟨ret_num H.out.symm, hb⟩
  · have H := hid (show chkM xs = 1 from if_neg h)
    have h' : (!(allLe 4611686018427387904 xs)) = true := by change (!(allLe mMax xs)) = true; simpa using h
    clear h
    go_enter Try.func57, Try.ntmps57
    go_wp2_with (go_at_call 76; go_must (refine (anyAbove_any _ _ _ _ xs _ _ hr hB).mono ?_; rw [h']; rintro e w' ⟨rfl, hb⟩))
    go_ret
    exact ⟨ret_num H.out.symm, hb⟩

end Go.Proofs.Ytpkfejfdbjoehaa
namespace Go.Proofs.Ytpkfejfdbjoehaa
open Go.RowKit Go.WalkArith

set_option maxHeartbeats 1000000 in
theorem mAdd_any (A : Option Addr) (n c B : Nat) (xs : List Int) (w : World) (hr : Rd w B .u64 A n c xs) (hB : B ≤ w.heap.size) :
    Calls Try.prog 46 #[.slice A n c] w fun e w' => e = .returned (.tuple #[.int .u64 (addN xs), .int .i64 (addE xs)]) ∧ Below w.heap.size w w' := by
  have hcap := hr.cap
  unfold maxLen at hcap
  have HL := hid hr.len
  have HX := hid (nonneg_u64 hr.wf)
  by_cases ha : allLe mMax xs = true
  · have HC := hid (show chkM xs = 0 from if_pos ha)
    have HA := hid ha
    clear ha
    go_enter Try.func46, Try.ntmps46
    go_wp2_with (go_at_call 57; go_must (refine (mCheck_any _ _ _ _ xs _ hr hB).mono ?_; rw [HC.out]; rintro e w1 ⟨rfl, hb⟩))
    have hr1 := (hr.more hB).below hb
    go_loop [5, 15] (fun s i => ∃ j : Nat, j ≤ n ∧ i = .int .i64 j ∧ s = .int .u64 (upM xs j) ∧ upM xs j ≤ mMax) (fun _ i => n - (intOf i).toNat)
    case atStart => exact ⟨0, Nat.zero_le _, rfl, by rw [upM_zero], by rw [upM_zero]; decide⟩
    case round =>
      obtain ⟨j, hj, rfl, rfl, hle⟩ := hrel
      have h0 := upM_nonneg HX.out j
      change upM xs j ≤ 4611686018427387904 at hle
      by_cases hlt : j < n
      · obtain ⟨b1, o1, rfl, hb1, hc1⟩ := hr1.at_ (by omega)
        have q1 := hc1 j hlt
        have hm := nth_mem (xs := xs) (j := j) (by rw [HL.out]; exact hlt)
        have hx0 := HX.out _ hm
        have hx1 : nth xs j ≤ 4611686018427387904 := allLe_iff.1 HA.out _ hm
        have HU := hid (upM_succ (ws := xs) (j := j) (by rw [HL.out]; exact hlt))
        have HV := hid (upM_le HX.out (j + 1))
        clear hc1 hm
        generalize upM xs j = s at *
        generalize nth xs j = x at *
        by_cases hs : s + x ≤ 4611686018427387904
        · have hd : decide (4611686018427387904 < s + x) = false := by simp; omega
          go_wp2
          go_round
          case rel => exact ⟨j + 1, by omega, by go_num, by rw [HU.out], by rw [HU.out]; exact hs⟩
          case measure => simp [intOf]; omega
        · have hE : addE xs = 8 := by rw [addE, if_pos HA.out, if_neg (by have := HU.out; have := HV.out; unfold mMax; omega)]
          have hN : addN xs = 0 := by rw [addN, if_neg (by rw [hE]; decide)]
          have HE := hid hE
          have HN := hid hN
          have hd : 4611686018427387904 < s + x := by omega
          clear hE hN hs
          go_wp2
          go_ret2
          exact ⟨by rw [HE.out, HN.out]; rfl, hb⟩
      · have hE : addE xs = 0 := by rw [addE, if_pos HA.out, if_pos (by rw [upM_all (by rw [HL.out]; omega)] at hle; exact hle)]
        have hN : addN xs = upM xs j := by rw [addN, if_pos hE, upM_all (by rw [HL.out]; omega)]
        have HE := hid hE
        have HN := hid hN
        clear hE hN
        generalize upM xs j = s at *
        go_wp2
        go_ret2
        exact ⟨by rw [HE.out, HN.out]; rfl, hb⟩
  · have HC := hid (show chkM xs = 1 from if_neg ha)
    have hE : addE xs = 1 := if_neg ha
    have hN : addN xs = 0 := if_neg (by rw [hE]; decide)
    have HE := hid hE
    have HN := hid hN
    clear ha hE hN
    go_enter Try.func46, Try.ntmps46
    go_wp2_with (go_at_call 57; go_must (refine (mCheck_any _ _ _ _ xs _ hr hB).mono ?_; rw [HC.out]; rintro e w1 ⟨rfl, hb⟩))
    go_ret2
    exact ⟨by rw [HE.out, HN.out]; rfl, hb⟩

theorem rd_two (w : World) (a b : Int) (ha : (Lit.int .u64 a).wf = true) (hb : (Lit.int .u64 b).wf = true) : Rd (w.alloc (.cells #[.int .u64 a, .int .u64 b] 24)) (w.alloc (.cells #[.int .u64 a, .int .u64 b] 24)).heap.size .u64 (some ⟨w.heap.size, 0, none⟩) 2 2 [a, b] :=
  Rd.lit2 (by rw [World.cell?_alloc_at] <;> rfl) (by rw [World.cell?_alloc_at] <;> rfl) ha hb
theorem rd_one (w : World) (a : Int) (ha : (Lit.int .u64 a).wf = true) : Rd (w.alloc (.cells #[.int .u64 a] 24)) (w.alloc (.cells #[.int .u64 a] 24)).heap.size .u64 (some ⟨w.heap.size, 0, none⟩) 1 1 [a] :=
  Rd.lit1 (by rw [World.cell?_alloc_at] <;> rfl) ha

end Go.Proofs.Ytpkfejfdbjoehaa
namespace Go.Proofs.Ytpkfejfdbjoehaa
open Go.RowKit Go.WalkArith

end Go.Proofs.Ytpkfejfdbjoehaa
namespace Go.Proofs.Ytpkfejfdbjoehaa
open Go.RowKit Go.WalkArith

theorem rd_oneB (w : World) (a : Int) (b : Nat) (hb : b = w.heap.size) (ha : (Lit.int .u64 a).wf = true) : Rd (w.alloc (.cells #[.int .u64 a] 24)) (w.alloc (.cells #[.int .u64 a] 24)).heap.size .u64 (some ⟨b, 0, none⟩) 1 1 [a] := by
  subst hb
  exact rd_one w a ha
theorem block_kept (w : World) (o : Obj) {w1 : World} (h : Below (w.alloc o).heap.size (w.alloc o) w1) : w1.heap[w.heap.size]? = some o := by
  rw [h.block w.heap.size (by simp), heap_alloc_new]

/-- Split's own memory: what its closure counts in, and the parts. -/
structure SplitSt (a : Int) (xs : List Int) (bA bT bS : Nat) (w : World) (j k : Nat) : Prop where
  a_ : w.heap[bA]? = some (.cells #[.int .u64 a] 24 (0, 0))
  t_ : w.heap[bT]? = some (.cells #[.int .u64 (sumM xs)] 24 (0, 0))
  s_ : w.heap[bS]? = some (.cells #[.int .u64 (upM xs j)] 24 (0, 0))
  g_ : w.heap[bS + 1]? = some (.cells #[.int .u64 (scl a (upM xs j) (sumM xs))] 24 (0, 0))
  p_ : w.heap[bS + 1 + 1]? = some (.cells ((ptsM a xs k ++ List.replicate (xs.length - k) 0).map (Value.int .u64)).toArray 24 (0, 0))

theorem part_store {a : Int} {xs : List Int} {k : Nat} (hk : k < xs.length) : ((ptsM a xs k ++ List.replicate (xs.length - k) 0).map (Value.int .u64)).toArray.setIfInBounds k (.int .u64 (partM a xs k)) = ((ptsM a xs (k + 1) ++ List.replicate (xs.length - (k + 1)) 0).map (Value.int .u64)).toArray := by
  obtain ⟨d, hd⟩ : ∃ d, xs.length - k = d + 1 := ⟨xs.length - k - 1, by omega⟩
  have hd2 : xs.length - (k + 1) = d := by omega
  rw [hd, hd2, ptsM_succ, List.replicate_succ]
  simp [ptsM_len]

theorem SplitSt.store {a : Int} {xs : List Int} {bA bT bS : Nat} {w : World} {j k : Nat} (h : SplitSt a xs bA bT bS w j k) (h1 : bA < bT) (h2 : bT < bS) (hk : k < xs.length) : SplitSt a xs bA bT bS (w.setCell ⟨bS + 1 + 1, k, none⟩ (.int .u64 (partM a xs k))) j (k + 1) :=
  ⟨by rw [heap_setCell_other _ _ _ _ (by simp; omega)]; exact h.a_, by rw [heap_setCell_other _ _ _ _ (by simp; omega)]; exact h.t_, by rw [heap_setCell_other _ _ _ _ (by simp; omega)]; exact h.s_, by rw [heap_setCell_other _ _ _ _ (by simp)]; exact h.g_, by
    have := heap_setCell_same w (bS + 1 + 1) k _ _ (.int .u64 (partM a xs k)) h.p_
    rw [part_store hk] at this
    exact this⟩
theorem SplitSt.cellP {a : Int} {xs : List Int} {bA bT bS : Nat} {w : World} {j k : Nat} (h : SplitSt a xs bA bT bS w j k) (hk : k < xs.length) : ∃ v, w.cell? ⟨bS + 1 + 1, k, none⟩ = some v := by
  have hl : k < ((ptsM a xs k ++ List.replicate (xs.length - k) 0).map (Value.int .u64)).toArray.size := by simp [ptsM_len]; omega
  exact ⟨_, by simp only [World.cell?, h.p_]; exact Array.getElem?_eq_getElem hl⟩
theorem SplitSt.freeP {a : Int} {xs : List Int} {bA bT bS : Nat} {w : World} {j k : Nat} (h : SplitSt a xs bA bT bS w j k) (i : Nat) : w.frozen? ⟨bS + 1 + 1, i, none⟩ = false := by simp [World.frozen?, h.p_]

theorem made_listM (n : Nat) (z : Value) : madeCells #[z] n = (List.replicate n z).toArray := by
  apply Array.ext
  · simp [size_madeCells]
  · intro i h1 h2
    simp [madeCells, Nat.mod_one]
theorem SplitSt.start (a : Int) (xs : List Int) {bA bT n : Nat} {w : World} (hn : xs.length = n) (hA : w.heap[bA]? = some (.cells #[.int .u64 a] 24 (0, 0))) (hT : w.heap[bT]? = some (.cells #[.int .u64 (sumM xs)] 24 (0, 0))) :
    SplitSt a xs bA bT w.heap.size (((w.alloc (.cells #[.int .u64 0] 24)).alloc (.cells #[.int .u64 0] 24)).alloc (.cells (madeCells #[.int .u64 0] n) 24)) 0 0 := by
  have l1 := lt_of_block hA
  have l2 := lt_of_block hT
  have z1 : (w.alloc (.cells #[.int .u64 0] 24)).heap.size = w.heap.size + 1 := by simp
  have z2 : ((w.alloc (.cells #[.int .u64 0] 24)).alloc (.cells #[.int .u64 0] 24)).heap.size = w.heap.size + 1 + 1 := by simp
  refine ⟨?_, ?_, ?_, ?_, ?_⟩
  · rw [heap_alloc_old _ _ (by omega), heap_alloc_old _ _ (by omega), heap_alloc_old _ _ l1]; exact hA
  · rw [heap_alloc_old _ _ (by omega), heap_alloc_old _ _ (by omega), heap_alloc_old _ _ l2]; exact hT
  · rw [heap_alloc_old _ _ (by omega), heap_alloc_old _ _ (by omega), heap_alloc_new, upM_zero]
  · rw [heap_alloc_old _ _ (by omega), upM_zero, scl_zero, ← z1, heap_alloc_new]
  · rw [← z2, heap_alloc_new, made_listM]
    simp [ptsM, hn]

end Go.Proofs.Ytpkfejfdbjoehaa
