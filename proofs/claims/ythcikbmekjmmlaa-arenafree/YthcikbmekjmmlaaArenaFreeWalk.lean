/-
  The walk of ArenaFree.
-/
import Derived.Test.YthcikbmekjmmlaaArenaTellsWalk
namespace Go.Proofs.Ythcikbmekjmmlaa
open Go.RowKit Go.WalkArith

theorem two_txt {w : World} {A : Option Addr} {n c : Nat} {t : List Int} {A' : Option Addr} {n' c' : Nat} {t' : List Int} (h : Sl (Lay.int .u8) w (· < w.heap.size) A n c t) (h' : Sl (Lay.int .u8) w (· < w.heap.size) A' n' c' t') :
    Sl lay_Txt (w.alloc (.cells #[.slice A n c, .slice A' n' c'] 26)) (· < (w.alloc (.cells #[.slice A n c, .slice A' n' c'] 26)).heap.size) (some ⟨w.heap.size, 0, none⟩) 2 2 [t, t'] := by
  have hb : Below w.heap.size w (w.alloc (.cells #[.slice A n c, .slice A' n' c'] 26)) := bel_alloc (Below.refl _ _) _
  refine ⟨rfl, Nat.le_refl _, by simp [maxLen], by simp, fun _ => ⟨w.heap.size, 0, [.slice A n c, .slice A' n' c'], rfl, by simp, ?_, fun i v hv => ?_⟩⟩
  · exact ⟨[_], [_], rfl, ⟨A, n, c, rfl, Sl.call h hb⟩, [_], [], rfl, ⟨A', n', c', rfl, Sl.call h' hb⟩, rfl⟩
  · rw [Nat.zero_add, World.cell?_alloc_at _ _ _ _ rfl]
    simpa using hv

/-- What the law asks of plain lists. -/
theorem free_laws {l : List Trm} {k k' : Int} {t t' : List Int} {ts ts' : List (List Int)} (h1 : (mkS l k t ts).e = 0) (h2 : (mkS (mkS l k t ts).l k' t' ts').e = 0) :
    mkS (mkS (mkS l k t ts).l k' t' ts').l k t ts = ⟨(mkS (mkS l k t ts).l k' t' ts').l, (mkS l k t ts).i, 0⟩ ∧ arE (mkS (mkS l k t ts).l k' t' ts').l = 0 ∧
    (mkS (mkS l k t ts).l k' t' ts').l.length ≤ l.length + 2 + ts.length + ts'.length ∧ ((mkS l k t ts).i = (mkS (mkS l k t ts).l k' t' ts').i ↔ k = k' ∧ t = t' ∧ ts = ts') := by
  obtain ⟨o1, i1, hi1, e1, f1, a1, p1, q1, n1⟩ := mk_good l k t ts h1
  generalize mkS l k t ts = s1 at *
  rw [e1] at h2 ⊢
  obtain ⟨o2, i2, hi2, e2, f2, a2, p2, q2, n2⟩ := mk_good (l ++ o1) k' t' ts' h2
  generalize mkS (l ++ o1) k' t' ts' = s2 at *
  rw [e2, f1, f2]
  have hp := pth_append a1 o2 hi1
  have hi1' : i1 < (l ++ o1 ++ o2).length := by rw [List.length_append]; omega
  refine ⟨mk_same a2 hi1' (hp.1.trans p1) (hp.2.trans q1), if_pos a2, ?_, ?_⟩
  · simp only [List.length_append, List.length_cons] at *
    omega
  · constructor
    · intro h
      have h' : i1 = i2 := by omega
      subst h'
      rw [hp.1, p1] at p2
      rw [hp.2, q1] at q2
      injection q2 with q2 q3
      exact ⟨p2, q2, q3⟩
    · rintro ⟨rfl, rfl, rfl⟩
      have := pth_inj a2 hi1' hi2 (by rw [hp.1, p1, p2]) (by rw [hp.2, q1, q2])
      omega

set_option maxRecDepth 100000 in
set_option maxHeartbeats 8000000 in
theorem arenaFree_walk (s0 : Array Value) (x0 : List Trm) (a1 a2 : Int) (A3 : Option Addr) (n3 c3 : Nat) (x3 : List Int) (A4 : Option Addr) (n4 c4 : Nat) (x4 : List Int) (A5 : Option Addr) (n5 c5 : Nat) (x5 : List (List Int)) (A6 : Option Addr) (n6 c6 : Nat) (x6 : List (List Int)) (w : World) (r0 : lay_Arena.rep w (· < w.heap.size) x0 s0.toList) (b1 : 0 ≤ a1 ∧ a1 ≤ 18446744073709551615) (b2 : 0 ≤ a2 ∧ a2 ≤ 18446744073709551615) (r3 : Rd w w.heap.size .u8 A3 n3 c3 x3) (r4 : Rd w w.heap.size .u8 A4 n4 c4 x4) (r5 : Sl (Lay.slice (Lay.int .u8)) w (· < w.heap.size) A5 n5 c5 x5) (r6 : Sl (Lay.slice (Lay.int .u8)) w (· < w.heap.size) A6 n6 c6 x6) :
    Calls Try.prog 5 #[.agg s0, .int .u64 a1, .int .u64 a2, .slice A3 n3 c3, .slice A4 n4 c4, .slice A5 n5 c5, .slice A6 n6 c6] w fun e w' => e = .returned (.bool true) ∧ Below w.heap.size w w' := by
  obtain ⟨A0, n0, c0, rfl, h0⟩ := agg_Arena r0
  clear r0
  have W1 := wf_u64 b1
  have W2 := wf_u64 b2
  have hb0 : Below w.heap.size w (w.alloc (Obj.cells #[.slice A0 n0 c0] 24)) := bel_alloc (Below.refl _ _) _
  have hx0 := heap_alloc_new w (Obj.cells #[.slice A0 n0 c0] 24)
  have hlt0 : w.heap.size < (w.alloc (Obj.cells #[.slice A0 n0 c0] 24)).heap.size := by simp
  have P0 := hid (fun (W : World) (h : Below w.heap.size w W) => (show lay_Arena.rep W (· < W.heap.size) x0 #[.slice A0 n0 c0].toList from rep_Arena.2 ⟨_, _, _, rfl, (h0.keep fun _ hp => h.cell hp).wide fun b hb => Nat.lt_of_lt_of_le hb h.size⟩))
  have P3 := hid (fun (W : World) (h : Below w.heap.size w W) => (r3.sl.keep fun _ hp => h.cell hp).wide (S' := (· < W.heap.size)) fun b hb => Nat.lt_of_lt_of_le hb h.size)
  have P4 := hid (fun (W : World) (h : Below w.heap.size w W) => (r4.sl.keep fun _ hp => h.cell hp).wide (S' := (· < W.heap.size)) fun b hb => Nat.lt_of_lt_of_le hb h.size)
  have P5 := hid (fun (W : World) (h : Below w.heap.size w W) => (r5.keep fun _ hp => h.cell hp).wide (S' := (· < W.heap.size)) fun b hb => Nat.lt_of_lt_of_le hb h.size)
  have P6 := hid (fun (W : World) (h : Below w.heap.size w W) => (r6.keep fun _ hp => h.cell hp).wide (S' := (· < W.heap.size)) fun b hb => Nat.lt_of_lt_of_le hb h.size)
  have S3 := hid (fun (W : World) (h : Below w.heap.size w W) => (r3.below h).str (P := Try.prog) Try.underlying26 Try.underlying5 Try.underlying9)
  have S4 := hid (fun (W : World) (h : Below w.heap.size w W) => (r4.below h).str (P := Try.prog) Try.underlying26 Try.underlying5 Try.underlying9)
  have SE := hid (str_eq (xs := x3) (ys := x4) (wf_bytes r3.wf) (wf_bytes r4.wf))
  have L0 := hid h0.len
  have L5 := hid r5.len
  have L6 := hid r6.len
  clear h0 r3 r4 r5 r6
  obtain ⟨q0, hq0⟩ : ∃ q, fewA x0 = q := ⟨_, rfl⟩
  obtain ⟨q5, hq5⟩ : ∃ q, fewT x5 = q := ⟨_, rfl⟩
  obtain ⟨q6, hq6⟩ : ∃ q, fewT x6 = q := ⟨_, rfl⟩
  obtain ⟨q3, hq3⟩ : ∃ q, fewT [x3, x4] = q := ⟨_, rfl⟩
  have hl0 : q0 = true → n0 ≤ 80 := fun h => by rw [← L0.out]; exact fewA_len (hq0.trans h)
  have hl5 : q5 = true → n5 ≤ 12 := fun h => by rw [← L5.out]; exact fewT_len (hq5.trans h)
  have hl6 : q6 = true → n6 ≤ 12 := fun h => by rw [← L6.out]; exact fewT_len (hq6.trans h)
  have F0 := hid hq0
  have F5 := hid hq5
  have F6 := hid hq6
  have F3 := hid hq3
  clear hq0 hq5 hq6 hq3
  by_cases hall : q0 = true ∧ q5 = true ∧ q6 = true ∧ q3 = true
  rotate_left
  · have hways : q0 = false ∨ q0 = true ∧ q5 = false ∨ q0 = true ∧ q5 = true ∧ q6 = false ∨ q0 = true ∧ q5 = true ∧ q6 = true ∧ q3 = false := by
      cases q0 <;> cases q5 <;> cases q6 <;> cases q3 <;> simp_all
    clear hall hl0 hl5 hl6
    rcases hways with rfl | ⟨rfl, rfl⟩ | ⟨rfl, rfl, rfl⟩ | ⟨rfl, rfl, rfl, rfl⟩
    all_goals
      go_enter Try.func5, Try.ntmps5
      go_wp2_with (first | (go_at_call 8; go_must (refine (live5_any _).mono ?_; rintro e w1 ⟨rfl, hb1⟩; have z1 := cell_of_one ((hb1.block _ hlt0).trans hx0); have B1 := bel_call hb0 hb1)) | (go_at_call 9; go_must (refine (refFewA_any _ x0 _ (P0.out _ B1)).mono ?_; rw [F0.out]; rintro e w2 ⟨rfl, hb2⟩; have B2 := bel_call B1 hb2)) | (with_reducible refine (lawFewT_any _ _ _ _ x5 _ (P5.out _ B2)).mono ?_; rw [F5.out]; rintro e w3 ⟨rfl, rfl⟩) | (with_reducible refine (lawFewT_any _ _ _ _ x6 _ (P6.out _ B2)).mono ?_; rw [F6.out]; rintro e w3 ⟨rfl, rfl⟩) | (with_reducible refine (lawFewT_any _ _ _ _ [x3, x4] _ (two_txt (P3.out _ B2) (P4.out _ B2))).mono ?_; rw [F3.out]; rintro e w3 ⟨rfl, rfl⟩))
      go_ret
      exact ⟨rfl, by first | exact B2 | exact bel_alloc B2 _⟩
  obtain ⟨rfl, rfl, rfl, rfl⟩ := hall
  replace hl0 := hl0 rfl
  replace hl5 := hl5 rfl
  replace hl6 := hl6 rfl
  go_enter Try.func5, Try.ntmps5
  go_wp2_with (first | (go_at_call 8; go_must (refine (live5_any _).mono ?_; rintro e w1 ⟨rfl, hb1⟩; have V1 := (hb1.block _ hlt0).trans hx0; have z1 := cell_of_one V1; have B1 := bel_call hb0 hb1)) | (go_at_call 9; go_must (refine (refFewA_any _ x0 _ (P0.out _ B1)).mono ?_; rw [F0.out]; rintro e w2 ⟨rfl, hb2⟩; have B2 := bel_call B1 hb2; have V2 := (hb2.block _ (lt_of_block V1)).trans V1; have z2 := cell_of_one V2; have hlv := lt_of_block V2)) | (with_reducible refine (lawFewT_any _ _ _ _ x5 _ (P5.out _ B2)).mono ?_; rw [F5.out]; rintro e w3 ⟨rfl, rfl⟩) | (with_reducible refine (lawFewT_any _ _ _ _ x6 _ (P6.out _ B2)).mono ?_; rw [F6.out]; rintro e w3 ⟨rfl, rfl⟩) | (with_reducible refine (lawFewT_any _ _ _ _ [x3, x4] _ (two_txt (P3.out _ B2) (P4.out _ B2))).mono ?_; rw [F3.out]; rintro e w3 ⟨rfl, rfl⟩))
  have B3 := bel_alloc B2 (Obj.cells #[.slice A3 n3 c3, .slice A4 n4 c4] 26)
  have V3 := (heap_alloc_old w2 (Obj.cells #[.slice A3 n3 c3, .slice A4 n4 c4] 26) hlv).trans V2
  clear z1 z2 V1 V2 B1 B2 hb1 hb2 hlv
  generalize w2.alloc (Obj.cells #[.slice A3 n3 c3, .slice A4 n4 c4] 26) = w3 at *
  refine (made_any _ x0 a1 _ _ _ x3 _ _ _ x5 w3 (P0.out _ B3) W1 (P3.out _ B3) (P5.out _ B3)).mono ?_
  rintro e w4 ⟨v4, rfl, ho4, hb4⟩
  obtain ⟨A7, n7, c7, rfl, hs4⟩ := ho4.read
  have B4 := bel_call B3 hb4
  have V4 := (hb4.block _ (lt_of_block V3)).trans V3
  by_cases h1 : (mkS x0 a1 x3 x5).e = 0
  rotate_left
  · rw [decide_eq_false h1]
    generalize mkS x0 a1 x3 x5 = s1 at *
    go_wp2
    go_ret
    exact ⟨rfl, bel_alloc B4 _⟩
  rw [decide_eq_true h1]
  have FL := hid (fun h2 => free_laws (k' := a2) (t' := x4) (ts' := x6) h1 h2)
  have G1 := hid (mkS_bd h1)
  clear h1
  generalize mkS x0 a1 x3 x5 = s1 at *
  go_wp2_with fail
  have hb5 := bel_alloc (Below.refl w4.heap.size w4) (Obj.cells #[.slice A7 n7 c7] 24)
  have B5 := bel_call B4 hb5
  have V5 := (hb5.block _ (lt_of_block V4)).trans V4
  have K5 := Sl.call hs4 hb5
  generalize w4.alloc (Obj.cells #[.slice A7 n7 c7] 24) = w5 at *
  refine (made_any _ s1.l a2 _ _ _ x4 _ _ _ x6 w5 (rep_Arena.2 ⟨_, _, _, rfl, K5⟩) W2 (P4.out _ B5) (P6.out _ B5)).mono ?_
  rintro e w6 ⟨v6, rfl, ho6, hb6⟩
  obtain ⟨A8, n8, c8, rfl, hs6⟩ := ho6.read
  have B6 := bel_call B5 hb6
  have V6 := (hb6.block _ (lt_of_block V5)).trans V5
  clear hb4 hb5 hb6 ho4 ho6 hs4 K5 V3 V4 V5 B3 B4 B5
  by_cases h2 : (mkS s1.l a2 x4 x6).e = 0
  rotate_left
  · rw [decide_eq_false h2]
    generalize mkS s1.l a2 x4 x6 = s2 at *
    go_wp2
    go_ret
    exact ⟨rfl, bel_alloc B6 _⟩
  rw [decide_eq_true h2]
  obtain ⟨f1, f2, f3, f4⟩ := FL.out h2
  have FM := hid f1
  have FA := hid f2
  clear h2 f1 f2 FL
  obtain ⟨i2, hi2⟩ : ∃ i2, i2 = (mkS s1.l a2 x4 x6).i := ⟨_, rfl⟩
  rw [← hi2] at f4 ⊢
  clear hi2
  generalize (mkS s1.l a2 x4 x6).l = sc at *
  rw [← hs6.len] at *
  have hc8 := hs6.len
  go_wp2_with fail
  have hb7 := bel_alloc (Below.refl w6.heap.size w6) (Obj.cells #[.slice A8 sc.length c8] 24)
  have B7 := bel_call B6 hb7
  have V7a := (hb7.block _ (lt_of_block V6)).trans V6
  have V7c := heap_alloc_new w6 (Obj.cells #[.slice A8 sc.length c8] 24)
  have K7 := Sl.call hs6 hb7
  generalize w6.alloc (Obj.cells #[.slice A8 sc.length c8] 24) = w7 at *
  refine (made_any _ sc a1 _ _ _ x3 _ _ _ x5 w7 (rep_Arena.2 ⟨_, _, _, rfl, K7⟩) W1 (P3.out _ B7) (P5.out _ B7)).mono ?_
  rw [FM.out]
  simp only [decide_true]
  rintro e w8 ⟨v8, rfl, ho8, hb8⟩
  obtain ⟨A9, n9, c9, rfl, hs8⟩ := ho8.read
  have hd1 : (s1.i != s1.i) = false := by simp
  have V8a := (hb8.block _ (lt_of_block V7a)).trans V7a
  have V8c := (hb8.block _ (lt_of_block V7c)).trans V7c
  have x8c := cell_of_one V8c
  have l8c := lt_of_block V8c
  go_wp2_with fail
  have hb9 := bel_alloc (Below.refl w8.heap.size w8) (Obj.cells #[.slice A9 n9 c9] 24)
  have B9 := bel_call (bel_call B7 hb8) hb9
  have V9a := (hb9.block _ (lt_of_block V8a)).trans V8a
  have V9c := (hb9.block _ (lt_of_block V8c)).trans V8c
  have V9d := heap_alloc_new w8 (Obj.cells #[.slice A9 n9 c9] 24)
  have K9 := Sl.call (Sl.call K7 hb8) hb9
  have M9 := Sl.call hs8 hb9
  clear x8c l8c V8a V8c V7a V7c K7 hs8 ho8 hb8 hb9 hb7 V6 hs6 B6 B7
  generalize w8.alloc (Obj.cells #[.slice A9 n9 c9] 24) = w9 at *
  have x9c := cell_of_one V9c
  have x9d := cell_of_one V9d
  rw [L0.out, L5.out, L6.out] at f3
  have hlen : decide ((n0 : Int) + 2 + n5 + n6 < (sc.length : Int)) = false := by simp; omega
  have g1 := G1.out
  generalize s1.i = i1 at *
  by_cases hk : a1 = a2
  · have hk' : (a1 == a2) = true := by simpa using hk
    by_cases ht : x3 = x4
    · have se := SE.out
      rw [decide_eq_true ht] at se
      by_cases hts : x5 = x6
      · have hi : (i1 == i2) = true := by simpa using f4.2 ⟨hk, ht, hts⟩
        have DT := hid (decide_eq_true hts)
        clear hk ht hts f4 SE
        generalize strOfNums x3 = t3 at *
        generalize strOfNums x4 = t4 at *
        go_wp2_with (first | (go_at_call 19; go_must (refine (aSame_any _ _ sc sc _ (rep_Arena.2 ⟨_, _, _, rfl, K9⟩) (rep_Arena.2 ⟨_, _, _, rfl, M9⟩)).mono ?_; rw [decide_eq_true rfl]; rintro e w10 ⟨rfl, hb10⟩; have c10 := (hb10.cell (p := ⟨w6.heap.size, 0, none⟩) (lt_of_block V9c)).trans (cell_of_one V9c); have a10 := (hb10.cell (p := ⟨w.heap.size, 0, none⟩) (lt_of_block V9a)).trans (cell_of_one V9a))) | (go_at_call 17; go_must (refine (aCheck_any _ sc _ (rep_Arena.2 ⟨_, _, _, rfl, Sl.call K9 hb10⟩)).mono ?_; rw [FA.out]; rintro e w11 ⟨rfl, hb11⟩; have c11 := (hb11.cell (p := ⟨w6.heap.size, 0, none⟩) (by show w6.heap.size < w10.heap.size; exact Nat.lt_of_lt_of_le (lt_of_block V9c) hb10.size)).trans c10; have a11 := (hb11.cell (p := ⟨w.heap.size, 0, none⟩) (by show w.heap.size < w10.heap.size; exact Nat.lt_of_lt_of_le (lt_of_block V9a) hb10.size)).trans a10; have B11 := bel_call (bel_call B9 hb10) hb11; have k3 := S3.out _ B11; have k4 := S4.out _ B11)) | (go_at_call 24; go_must (refine (sameTexts_any _ _ _ _ _ _ _ _ _ (P5.out _ B11) (P6.out _ B11)).mono ?_; rw [DT.out]; rintro e w12 ⟨rfl, hb12⟩)))
        go_ret
        exact ⟨by simp, by first | exact bel_call B11 hb12 | exact B11⟩
      · have hi : (i1 == i2) = false := by simp only [beq_eq_false_iff_ne]; exact fun h => hts (f4.1 h).2.2
        have DT := hid (decide_eq_false hts)
        clear hk ht hts f4 SE
        generalize strOfNums x3 = t3 at *
        generalize strOfNums x4 = t4 at *
        go_wp2_with (first | (go_at_call 19; go_must (refine (aSame_any _ _ sc sc _ (rep_Arena.2 ⟨_, _, _, rfl, K9⟩) (rep_Arena.2 ⟨_, _, _, rfl, M9⟩)).mono ?_; rw [decide_eq_true rfl]; rintro e w10 ⟨rfl, hb10⟩; have c10 := (hb10.cell (p := ⟨w6.heap.size, 0, none⟩) (lt_of_block V9c)).trans (cell_of_one V9c); have a10 := (hb10.cell (p := ⟨w.heap.size, 0, none⟩) (lt_of_block V9a)).trans (cell_of_one V9a))) | (go_at_call 17; go_must (refine (aCheck_any _ sc _ (rep_Arena.2 ⟨_, _, _, rfl, Sl.call K9 hb10⟩)).mono ?_; rw [FA.out]; rintro e w11 ⟨rfl, hb11⟩; have c11 := (hb11.cell (p := ⟨w6.heap.size, 0, none⟩) (by show w6.heap.size < w10.heap.size; exact Nat.lt_of_lt_of_le (lt_of_block V9c) hb10.size)).trans c10; have a11 := (hb11.cell (p := ⟨w.heap.size, 0, none⟩) (by show w.heap.size < w10.heap.size; exact Nat.lt_of_lt_of_le (lt_of_block V9a) hb10.size)).trans a10; have B11 := bel_call (bel_call B9 hb10) hb11; have k3 := S3.out _ B11; have k4 := S4.out _ B11)) | (go_at_call 24; go_must (refine (sameTexts_any _ _ _ _ _ _ _ _ _ (P5.out _ B11) (P6.out _ B11)).mono ?_; rw [DT.out]; rintro e w12 ⟨rfl, hb12⟩)))
        go_ret
        exact ⟨by simp, by first | exact bel_call B11 hb12 | exact B11⟩
    · have se := SE.out
      rw [decide_eq_false ht] at se
      have hi : (i1 == i2) = false := by simp only [beq_eq_false_iff_ne]; exact fun h => ht (f4.1 h).2.1
      clear hk ht f4 SE
      generalize strOfNums x3 = t3 at *
      generalize strOfNums x4 = t4 at *
      go_wp2_with (first | (go_at_call 19; go_must (refine (aSame_any _ _ sc sc _ (rep_Arena.2 ⟨_, _, _, rfl, K9⟩) (rep_Arena.2 ⟨_, _, _, rfl, M9⟩)).mono ?_; rw [decide_eq_true rfl]; rintro e w10 ⟨rfl, hb10⟩; have c10 := (hb10.cell (p := ⟨w6.heap.size, 0, none⟩) (lt_of_block V9c)).trans (cell_of_one V9c); have a10 := (hb10.cell (p := ⟨w.heap.size, 0, none⟩) (lt_of_block V9a)).trans (cell_of_one V9a))) | (go_at_call 17; go_must (refine (aCheck_any _ sc _ (rep_Arena.2 ⟨_, _, _, rfl, Sl.call K9 hb10⟩)).mono ?_; rw [FA.out]; rintro e w11 ⟨rfl, hb11⟩; have c11 := (hb11.cell (p := ⟨w6.heap.size, 0, none⟩) (by show w6.heap.size < w10.heap.size; exact Nat.lt_of_lt_of_le (lt_of_block V9c) hb10.size)).trans c10; have a11 := (hb11.cell (p := ⟨w.heap.size, 0, none⟩) (by show w.heap.size < w10.heap.size; exact Nat.lt_of_lt_of_le (lt_of_block V9a) hb10.size)).trans a10; have B11 := bel_call (bel_call B9 hb10) hb11; have k3 := S3.out _ B11; have k4 := S4.out _ B11)) | (go_at_call 24; go_must (refine (sameTexts_any _ _ _ _ _ _ _ _ _ (P5.out _ B11) (P6.out _ B11)).mono ?_; rw [DT.out]; rintro e w12 ⟨rfl, hb12⟩)))
      go_ret
      exact ⟨by simp, by first | exact bel_call B11 hb12 | exact B11⟩
  · have hk' : (a1 == a2) = false := by simpa using hk
    have hi : (i1 == i2) = false := by simp only [beq_eq_false_iff_ne]; exact fun h => hk (f4.1 h).1
    clear hk f4 SE
    go_wp2_with (first | (go_at_call 19; go_must (refine (aSame_any _ _ sc sc _ (rep_Arena.2 ⟨_, _, _, rfl, K9⟩) (rep_Arena.2 ⟨_, _, _, rfl, M9⟩)).mono ?_; rw [decide_eq_true rfl]; rintro e w10 ⟨rfl, hb10⟩; have c10 := (hb10.cell (p := ⟨w6.heap.size, 0, none⟩) (lt_of_block V9c)).trans (cell_of_one V9c); have a10 := (hb10.cell (p := ⟨w.heap.size, 0, none⟩) (lt_of_block V9a)).trans (cell_of_one V9a))) | (go_at_call 17; go_must (refine (aCheck_any _ sc _ (rep_Arena.2 ⟨_, _, _, rfl, Sl.call K9 hb10⟩)).mono ?_; rw [FA.out]; rintro e w11 ⟨rfl, hb11⟩; have c11 := (hb11.cell (p := ⟨w6.heap.size, 0, none⟩) (by show w6.heap.size < w10.heap.size; exact Nat.lt_of_lt_of_le (lt_of_block V9c) hb10.size)).trans c10; have a11 := (hb11.cell (p := ⟨w.heap.size, 0, none⟩) (by show w.heap.size < w10.heap.size; exact Nat.lt_of_lt_of_le (lt_of_block V9a) hb10.size)).trans a10; have B11 := bel_call (bel_call B9 hb10) hb11; have k3 := S3.out _ B11; have k4 := S4.out _ B11)) | (go_at_call 24; go_must (refine (sameTexts_any _ _ _ _ _ _ _ _ _ (P5.out _ B11) (P6.out _ B11)).mono ?_; rw [DT.out]; rintro e w12 ⟨rfl, hb12⟩)))
    go_ret
    exact ⟨by simp, by first | exact bel_call B11 hb12 | exact B11⟩
end Go.Proofs.Ythcikbmekjmmlaa
