/-
  The walk of ArenaTells.
-/
import Derived.Test.YthcikbmekjmmlaaArenaLive
namespace Go.Proofs.Ythcikbmekjmmlaa
open Go.RowKit Go.WalkArith

theorem one_txt {w : World} {A : Option Addr} {n c : Nat} {t : List Int} (h : Sl (Lay.int .u8) w (· < w.heap.size) A n c t) : Sl lay_Txt (w.alloc (.cells #[.slice A n c] 26)) (· < (w.alloc (.cells #[.slice A n c] 26)).heap.size) (some ⟨w.heap.size, 0, none⟩) 1 1 [t] :=
  (OwnL.lit1 (L := lay_Txt) 26 none rfl ⟨A, n, c, rfl, h⟩ (fun _ hb => ⟨trivial, hb⟩)).readS
theorem fewT_len {ts : List (List Int)} (h : fewT ts = true) : ts.length ≤ 12 := by
  simp only [fewT, Bool.and_eq_true, decide_eq_true_eq] at h
  exact h.2
theorem fewA_len {l : List Trm} (h : fewA l = true) : l.length ≤ 80 := by
  simp only [fewA, Bool.and_eq_true, decide_eq_true_eq] at h
  exact h.2

set_option maxRecDepth 100000 in
set_option maxHeartbeats 4000000 in
theorem arenaTells_walk (s0 : Array Value) (x0 : List Trm) (a1 : Int) (A2 : Option Addr) (n2 c2 : Nat) (x2 : List Int) (A3 : Option Addr) (n3 c3 : Nat) (x3 : List (List Int)) (a4 : Int) (w : World) (r0 : lay_Arena.rep w (· < w.heap.size) x0 s0.toList) (b1 : 0 ≤ a1 ∧ a1 ≤ 18446744073709551615) (r2 : Rd w w.heap.size .u8 A2 n2 c2 x2) (r3 : Sl (Lay.slice (Lay.int .u8)) w (· < w.heap.size) A3 n3 c3 x3) (b4 : -9223372036854775808 ≤ a4 ∧ a4 ≤ 9223372036854775807) :
    Calls Try.prog 4 #[.agg s0, .int .u64 a1, .slice A2 n2 c2, .slice A3 n3 c3, .int .i64 a4] w fun e w' => e = .returned (.bool true) ∧ Below w.heap.size w w' := by
  obtain ⟨A0, n0, c0, rfl, h0⟩ := agg_Arena r0
  clear r0
  have W1 := wf_u64 b1
  have W4 := wf_i64 b4
  have hb0 : Below w.heap.size w (w.alloc (Obj.cells #[.slice A0 n0 c0] 24)) := bel_alloc (Below.refl _ _) _
  have hx0 := heap_alloc_new w (Obj.cells #[.slice A0 n0 c0] 24)
  have hlt0 : w.heap.size < (w.alloc (Obj.cells #[.slice A0 n0 c0] 24)).heap.size := by simp
  have P0 := hid (fun (W : World) (h : Below w.heap.size w W) => (show lay_Arena.rep W (· < W.heap.size) x0 #[.slice A0 n0 c0].toList from rep_Arena.2 ⟨_, _, _, rfl, (h0.keep fun _ hp => h.cell hp).wide fun b hb => Nat.lt_of_lt_of_le hb h.size⟩))
  have P2 := hid (fun (W : World) (h : Below w.heap.size w W) => (r2.sl.keep fun _ hp => h.cell hp).wide (S' := (· < W.heap.size)) fun b hb => Nat.lt_of_lt_of_le hb h.size)
  have P3 := hid (fun (W : World) (h : Below w.heap.size w W) => (r3.keep fun _ hp => h.cell hp).wide (S' := (· < W.heap.size)) fun b hb => Nat.lt_of_lt_of_le hb h.size)
  have L3 := hid r3.len
  clear h0 r2 r3
  cases f0 : fewA x0 with
  | false =>
    have F0 := hid f0
    clear f0
    go_enter Try.func4, Try.ntmps4
    go_wp2_with (first | (go_at_call 8; go_must (refine (live5_any _).mono ?_; rintro e w1 ⟨rfl, hb1⟩; have z1 := cell_of_one ((hb1.block _ hlt0).trans hx0); have B1 := bel_call hb0 hb1)) | (go_at_call 9; go_must (refine (refFewA_any _ x0 _ (P0.out _ B1)).mono ?_; rw [F0.out]; rintro e w2 ⟨rfl, hb2⟩)))
    go_ret
    exact ⟨rfl, bel_call B1 hb2⟩
  | true =>
    have F0 := hid f0
    clear f0
    cases f3 : fewT x3 with
    | false =>
      have F3 := hid f3
      clear f3
      go_enter Try.func4, Try.ntmps4
      go_wp2_with (first | (go_at_call 8; go_must (refine (live5_any _).mono ?_; rintro e w1 ⟨rfl, hb1⟩; have z1 := cell_of_one ((hb1.block _ hlt0).trans hx0); have B1 := bel_call hb0 hb1)) | (go_at_call 9; go_must (refine (refFewA_any _ x0 _ (P0.out _ B1)).mono ?_; rw [F0.out]; rintro e w2 ⟨rfl, hb2⟩; have B2 := bel_call B1 hb2)) | (go_at_call 10; go_must (refine (lawFewT_any _ _ _ _ x3 _ (P3.out _ B2)).mono ?_; rw [F3.out]; rintro e w3 ⟨rfl, rfl⟩)))
      go_ret
      exact ⟨rfl, B2⟩
    | true =>
      have F3 := hid f3
      have hn3 : n3 ≤ 1000 := by have := fewT_len f3; rw [L3.out] at this; omega
      clear f3
      cases f2 : fewT [x2] with
      | false =>
        have F2 := hid f2
        clear f2
        go_enter Try.func4, Try.ntmps4
        go_wp2_with (first | (go_at_call 8; go_must (refine (live5_any _).mono ?_; rintro e w1 ⟨rfl, hb1⟩; have z1 := cell_of_one ((hb1.block _ hlt0).trans hx0); have B1 := bel_call hb0 hb1)) | (go_at_call 9; go_must (refine (refFewA_any _ x0 _ (P0.out _ B1)).mono ?_; rw [F0.out]; rintro e w2 ⟨rfl, hb2⟩; have B2 := bel_call B1 hb2)) | (with_reducible refine (lawFewT_any _ _ _ _ x3 _ (P3.out _ B2)).mono ?_; rw [F3.out]; rintro e w3 ⟨rfl, rfl⟩) | (refine (lawFewT_any _ _ _ _ [x2] _ (one_txt (P2.out _ B2))).mono ?_; rw [F2.out]; rintro e w3 ⟨rfl, rfl⟩))
        go_ret
        exact ⟨rfl, bel_alloc B2 _⟩
      | true =>
        have F2 := hid f2
        clear f2
        obtain ⟨fi, hfi⟩ : ∃ z, findI x0 a1 x2 x3 = z := ⟨_, rfl⟩
        obtain ⟨fe, hfe⟩ : ∃ z, findE x0 a1 x2 x3 = z := ⟨_, rfl⟩
        obtain ⟨pk, hpk⟩ : ∃ z, pathK x0 a4 = z := ⟨_, rfl⟩
        obtain ⟨pe, hpe⟩ : ∃ z, pathE x0 a4 = z := ⟨_, rfl⟩
        have FI := hid hfi
        have FE := hid hfe
        have PK := hid hpk
        have PE := hid hpe
        clear hfi hfe hpk hpe
        go_enter Try.func4, Try.ntmps4
        go_wp2_with (first | (go_at_call 8; go_must (refine (live5_any _).mono ?_; rintro e w1 ⟨rfl, hb1⟩; have V1 := (hb1.block _ hlt0).trans hx0; have z1 := cell_of_one V1; have B1 := bel_call hb0 hb1)) | (go_at_call 9; go_must (refine (refFewA_any _ x0 _ (P0.out _ B1)).mono ?_; rw [F0.out]; rintro e w2 ⟨rfl, hb2⟩; have B2 := bel_call B1 hb2; have V2 := (hb2.block _ (lt_of_block V1)).trans V1; have z2 := cell_of_one V2; have B3 := bel_alloc B2 (Obj.cells #[.slice A2 n2 c2] 26); have hlv := lt_of_block V2)) | (with_reducible refine (lawFewT_any _ _ _ _ x3 _ (P3.out _ B2)).mono ?_; rw [F3.out]; rintro e w3 ⟨rfl, rfl⟩) | (with_reducible refine (lawFewT_any _ _ _ _ [x2] _ (one_txt (P2.out _ B2))).mono ?_; rw [F2.out]; rintro e w3 ⟨rfl, rfl⟩) | (go_at_call 20; go_must (refine (aFind_any _ x0 a1 _ _ _ x2 _ _ _ x3 _ (P0.out _ B3) W1 (P2.out _ B3) (P3.out _ B3) hn3).mono ?_; rw [FI.out, FE.out]; rintro e w4 ⟨rfl, hb4⟩; have B4 := bel_call B3 hb4; have V4 := (hb4.block w.heap.size (by simp; omega)).trans ((heap_alloc_old _ _ hlv).trans V2); have z4 := cell_of_one V4)) | (go_at_call 21; go_must (refine (refFindA_any _ x0 a1 _ _ _ x2 _ _ _ x3 _ (P0.out _ B4) W1 (P2.out _ B4) (P3.out _ B4) hn3).mono ?_; rw [FI.out, FE.out]; rintro e w5 ⟨rfl, hb5⟩; have B5 := bel_call B4 hb5; have V5 := (hb5.block _ (lt_of_block V4)).trans V4; have z5 := cell_of_one V5)) | (go_at_call 22; go_must (refine (aPath_any _ x0 a4 _ (P0.out _ B5) W4).mono ?_; rw [PK.out, PE.out]; rintro e w6 ⟨v6, rfl, ho6, hb6⟩; obtain ⟨A6, n6, c6, rfl, hs6⟩ := ho6.read; have B6 := bel_call B5 hb6; have V6 := (hb6.block _ (lt_of_block V5)).trans V5; have z6 := cell_of_one V6)) | (go_at_call 23; go_must (refine (refPathA_any x0 _ _ a4 _ (Nat.lt_succ_self _) (P0.out _ B6) W4).mono ?_; rw [PK.out, PE.out]; rintro e w7 ⟨v7, rfl, ho7, hb7⟩; obtain ⟨A7, n7, c7, rfl, hs7⟩ := ho7.read; have B7 := bel_call B6 hb7)) | (go_at_call 24; go_must (refine (sameTexts_any _ _ _ _ _ _ _ _ _ (Sl.call hs6 hb7) hs7).mono ?_; rw [decide_eq_true rfl]; rintro e w8 ⟨rfl, hb8⟩)))
        go_ret
        exact ⟨by simp, bel_call B7 hb8⟩
end Go.Proofs.Ythcikbmekjmmlaa
