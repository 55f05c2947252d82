/-
  The walk of ArenaGrows.
-/
import Derived.Test.YthcikbmekjmmlaaArenaTellsWalk
import Derived.Deep.Cut
import Derived.Deep.CutRange
namespace Go.Proofs.Ythcikbmekjmmlaa
open Go.RowKit Go.WalkArith

/-- What the law asks of plain lists. -/
theorem grows_laws {l : List Trm} {u : Int} {t : List Int} (h : nextE l u t = 0) : ∃ i : Nat, nextI l u t = i ∧ l.length ≤ (nextL l u t).length ∧ (nextL l u t).length ≤ l.length + 1 ∧ i < (nextL l u t).length ∧ u < i ∧ ((nextL l u t).length = l.length ∨ (nextL l u t).length = l.length + 1 ∧ i = l.length) ∧ pathE l u = 0 ∧ 0 ≤ u ∧ u < l.length ∧
    (∃ y ys, pathT l u = y :: ys ∧ findE (nextL l u t) (pathK l u) y (ys ++ [t]) = 0 ∧ findI (nextL l u t) (pathK l u) y (ys ++ [t]) = i ∧ ys.length ≤ u) ∧ (nextL l u t).take l.length = l := by
  obtain ⟨o, i, hi, e1, e2, a1, a2, h0, h1, h2, p1, p2, n1, n2, -⟩ := next_made h
  rw [e1]
  have hul : u.toNat < l.length := by omega
  obtain ⟨pe, pk, pt⟩ := path_ok a1 h0 h1
  refine ⟨i, e2, by simp, by simp; omega, hi, h2, ?_, pe, h0, h1, ?_, by simp⟩
  · rcases n2 with rfl | rfl
    · left; simp
    · rcases Nat.eq_zero_or_pos o.length with h | h
      · left; rw [List.length_append]; omega
      · right; exact ⟨by rw [List.length_append]; omega, rfl⟩
  · rw [pt, pk]
    have hlen := pthT_len hul
    cases hc : pthT l u.toNat with
    | nil => exact absurd hc (pthT_ne hul)
    | cons y ys =>
      rw [hc] at p2 hlen
      obtain ⟨f1, f2⟩ := find_same a2 hi p1 (t := y) (ts := ys ++ [t]) p2
      exact ⟨y, ys, rfl, f1, f2, by simp at hlen; omega⟩
theorem nextG_no {l : List Trm} {u : Int} {t : List Int} (h : nextE l u t ≠ 0) : nextL l u t = [] ∧ nextI l u t = 0 := ⟨if_neg h, if_neg h⟩

theorem pthK_key {l : List Trm} : ∀ {i : Nat}, i < l.length → ∃ k, ∃ h : k < l.length, pthK l i = l[k].Key := by
  intro i
  induction i using Nat.strongRecOn with
  | _ i ih =>
    intro hi
    rw [pthK_eq hi]
    by_cases hu : 0 ≤ l[i].Up ∧ l[i].Up < i
    · rw [if_pos hu]
      exact ih l[i].Up.toNat (by omega) (by omega)
    · rw [if_neg hu]
      exact ⟨i, hi, rfl⟩
theorem pathK_wf {w : World} {S : Nat → Prop} {A : Option Addr} {n c : Nat} {l : List Trm} (h : Sl lay_Term w S A n c l) (u : Int) : (Lit.int .u64 (pathK l u)).wf = true := by
  rcases path_cases l u with ⟨_, _, h1, h2, hk, _⟩ | ⟨_, hk, _⟩
  · obtain ⟨k, hkl, e⟩ := pthK_key (l := l) (i := u.toNat) (by omega)
    obtain ⟨_, _, _, _, _, _, _, _, _, _, _, hw, _⟩ := trm_at h (j := k) (by rw [← h.len]; exact hkl)
    rw [hk, e]
    exact hw
  · rw [hk]; decide

set_option maxRecDepth 100000 in
set_option maxHeartbeats 8000000 in
theorem arenaGrows_walk (s0 : Array Value) (x0 : List Trm) (a1 : Int) (A2 : Option Addr) (n2 c2 : Nat) (x2 : List Int) (w : World) (r0 : lay_Arena.rep w (· < w.heap.size) x0 s0.toList) (b1 : -9223372036854775808 ≤ a1 ∧ a1 ≤ 9223372036854775807) (r2 : Rd w w.heap.size .u8 A2 n2 c2 x2) :
    Calls Try.prog 7 #[.agg s0, .int .i64 a1, .slice A2 n2 c2] w fun e w' => e = .returned (.bool true) ∧ Below w.heap.size w w' := by
  obtain ⟨A0, n0, c0, rfl, h0⟩ := agg_Arena r0
  clear r0
  have W1 := wf_i64 b1
  have hb0 : Below w.heap.size w (w.alloc (Obj.cells #[.slice A0 n0 c0] 24)) := bel_alloc (Below.refl _ _) _
  have hx0 := heap_alloc_new w (Obj.cells #[.slice A0 n0 c0] 24)
  have hlt0 : w.heap.size < (w.alloc (Obj.cells #[.slice A0 n0 c0] 24)).heap.size := by simp
  have P0 := hid (fun (W : World) (h : Below w.heap.size w W) => (show lay_Arena.rep W (· < W.heap.size) x0 #[.slice A0 n0 c0].toList from rep_Arena.2 ⟨_, _, _, rfl, (h0.keep fun _ hp => h.cell hp).wide fun b hb => Nat.lt_of_lt_of_le hb h.size⟩))
  have P2 := hid (fun (W : World) (h : Below w.heap.size w W) => (r2.sl.keep fun _ hp => h.cell hp).wide (S' := (· < W.heap.size)) fun b hb => Nat.lt_of_lt_of_le hb h.size)
  have R2 := hid (fun (W : World) (h : Below w.heap.size w W) => (r2.below h).more h.size)
  have L0 := hid h0.len
  have KW := pathK_wf h0 a1
  clear h0 r2
  obtain ⟨q0, hq0⟩ : ∃ q, fewA x0 = q := ⟨_, rfl⟩
  obtain ⟨q2, hq2⟩ : ∃ q, fewT [x2] = q := ⟨_, rfl⟩
  have hl0 : q0 = true → n0 ≤ 80 := fun h => by rw [← L0.out]; exact fewA_len (hq0.trans h)
  have F0 := hid hq0
  have F2 := hid hq2
  clear hq0 hq2
  by_cases hall : q0 = true ∧ q2 = true
  rotate_left
  · have hways : q0 = false ∨ q0 = true ∧ q2 = false := by cases q0 <;> cases q2 <;> simp_all
    clear hall hl0
    rcases hways with rfl | ⟨rfl, rfl⟩
    all_goals
      go_enter Try.func7, Try.ntmps7
      go_wp2_with (first | (go_at_call 8; go_must (refine (live5_any _).mono ?_; rintro e w1 ⟨rfl, hb1⟩; have z1 := cell_of_one ((hb1.block _ hlt0).trans hx0); have B1 := bel_call hb0 hb1)) | (go_at_call 9; go_must (refine (refFewA_any _ x0 _ (P0.out _ B1)).mono ?_; rw [F0.out]; rintro e w2 ⟨rfl, hb2⟩; have B2 := bel_call B1 hb2)) | (with_reducible refine (lawFewT_any _ _ _ _ [x2] _ (one_txt (P2.out _ B2))).mono ?_; rw [F2.out]; rintro e w3 ⟨rfl, rfl⟩))
      go_ret
      exact ⟨rfl, by first | exact B2 | exact bel_alloc B2 _⟩
  obtain ⟨rfl, rfl⟩ := hall
  replace hl0 := hl0 rfl
  go_enter Try.func7, Try.ntmps7
  go_wp2_with (first | (go_at_call 8; go_must (refine (live5_any _).mono ?_; rintro e w1 ⟨rfl, hb1⟩; have V1 := (hb1.block _ hlt0).trans hx0; have z1 := cell_of_one V1; have B1 := bel_call hb0 hb1)) | (go_at_call 9; go_must (refine (refFewA_any _ x0 _ (P0.out _ B1)).mono ?_; rw [F0.out]; rintro e w2 ⟨rfl, hb2⟩; have B2 := bel_call B1 hb2; have V2 := (hb2.block _ (lt_of_block V1)).trans V1; have z2 := cell_of_one V2; have hlv := lt_of_block V2)) | (with_reducible refine (lawFewT_any _ _ _ _ [x2] _ (one_txt (P2.out _ B2))).mono ?_; rw [F2.out]; rintro e w3 ⟨rfl, rfl⟩))
  have B3 := bel_alloc B2 (Obj.cells #[.slice A2 n2 c2] 26)
  have V3 := (heap_alloc_old w2 (Obj.cells #[.slice A2 n2 c2] 26) hlv).trans V2
  clear z1 z2 V1 V2 B1 B2 hb1 hb2 hlv
  generalize w2.alloc (Obj.cells #[.slice A2 n2 c2] 26) = w3 at *
  refine (aNext_any _ x0 a1 _ _ _ x2 w3 (P0.out _ B3) W1 (R2.out _ B3)).mono ?_
  rintro e w4 ⟨v4, rfl, ho4, hb4⟩
  obtain ⟨A7, n7, c7, rfl, hs4⟩ := ho4.read
  have B4 := bel_call B3 hb4
  have V4 := (hb4.block _ (lt_of_block V3)).trans V3
  by_cases hE : nextE x0 a1 x2 = 0
  rotate_left
  · obtain ⟨hL, hI⟩ := nextG_no hE
    rw [hI]
    rw [hL] at hs4
    have hn7 : n7 = 0 := hs4.len.symm
    subst hn7
    have hd : (nextE x0 a1 x2 != 0) = true := by simpa using hE
    clear hE hL hI
    generalize nextE x0 a1 x2 = ne at *
    go_wp2
    go_ret
    exact ⟨rfl, bel_alloc B4 _⟩
  obtain ⟨i, hi, g1, g2, g3, g4, g5, g6, g7, g8, ⟨y, ys, g9, g10, g11, g12⟩, g13⟩ := grows_laws hE
  rw [hE, hi]
  have PE := hid g6
  have PT := hid g9
  have FE := hid g10
  have FI := hid g11
  have HT := hid g13
  rw [hs4.len, L0.out] at g1 g2
  rw [hs4.len] at g3
  rw [hs4.len, L0.out] at g5
  rw [L0.out] at g8
  clear hE hi g6 g9 g10 g11 g13 hb4 ho4 V3 B3
  obtain ⟨pk, hpk⟩ : ∃ pk, pk = pathK x0 a1 := ⟨_, rfl⟩
  rw [← hpk] at FE FI KW
  have PK := hid hpk
  clear hpk
  generalize nextL x0 a1 x2 = nb at *
  have hc7 := hs4.cap
  unfold maxLen at hc7
  have hb5 := bel_alloc (Below.refl w4.heap.size w4) (Obj.cells #[.slice A7 n7 c7] 24)
  have B5 := bel_call B4 hb5
  have V5a := (hb5.block _ (lt_of_block V4)).trans V4
  have V5b := heap_alloc_new w4 (Obj.cells #[.slice A7 n7 c7] 24)
  have K5 := Sl.call hs4 hb5
  have z4 := cell_of_one V4
  have l4 := lt_of_block V4
  have d1 : decide ((n7 : Int) < (n0 : Int)) = false := by simp; omega
  have d2 : decide ((n0 : Int) + 1 < (n7 : Int)) = false := by simp; omega
  have d3 : decide ((i : Int) < 0) = false := by simp
  have d4 : decide ((n7 : Int) ≤ (i : Int)) = false := by simp; omega
  have d5 : decide ((i : Int) ≤ a1) = false := by simp; omega
  have m1 : decide (n7 < n0) = false := by simp; omega
  have m4 : decide (n7 ≤ i) = false := by simp; omega
  have d6 : ((n7 : Int) == (n0 : Int) + 1) = false ∨ ((n7 : Int) == (n0 : Int) + 1) = true ∧ ((i : Int) != (n0 : Int)) = false := by
    rcases g5 with h | ⟨h, h'⟩
    · left; simp; omega
    · right; exact ⟨by simp; omega, by simp; omega⟩
  have hcut : ∀ (A : Option Addr) (n c : Nat) (W : World), 1 ≤ n → (Instr.slice 30 (.slice A n c) (some (.int .i64 1)) none none).run Try.prog W = .ok (.slice (cutS 1 A c 1) (n - 1) (c - 1)) W := fun A n c W h => run_fromL (P := Try.prog) 30 26 .i64 Try.underlying30 (by kernel_rfl) Try.infoTxt A n c 1 h W
  clear g2 g5
  rcases d6 with d6 | ⟨d6, d7⟩
  all_goals
    go_wp2_with fail
    generalize w4.alloc (Obj.cells #[.slice A7 n7 c7] 24) = w5 at *
    refine (aPath_any _ x0 a1 w5 (P0.out _ B5) W1).mono ?_
    rw [PE.out, ← PK.out, PT.out]
    rintro e w6 ⟨v6, rfl, ho6, hb6⟩
    obtain ⟨A6, n6, c6, rfl, hs6⟩ := ho6.read
    have B6 := bel_call B5 hb6
    have V6a := (hb6.block _ (lt_of_block V5a)).trans V5a
    have V6b := (hb6.block _ (lt_of_block V5b)).trans V5b
    have K6 := Sl.call K5 hb6
    have hl6 : n6 = ys.length + 1 := by rw [← hs6.len]; rfl
    have hz6 : ((n6 : Int) == 0) = false := by simp; omega
    obtain ⟨lb, lo, Ay, ny, cy, hx1, rfl, hlb, t1, hV1⟩ := txt_atA hs6 (j := 0) (by omega)
    have hcu := hs6.cut (i := 1) (by omega)
    have hct := fun W => hcut (some ⟨lb, lo, none⟩) n6 c6 W (by omega)
    have HV := hid hV1
    have HCU := hid hcu
    have hdr : (y :: ys).drop 1 = ys := rfl
    rw [hdr] at HCU
    have hnn : n6 - 1 = ys.length := by omega
    rw [hnn] at HCU hct
    clear hV1 hcu hdr m1 m4 d1 d2 d3 d4 d5 d6 hb6 hs6 ho6 z4 l4 V5a V5b K5 hs4
    rw [Nat.add_zero] at t1
    subst hl6
    have hi0 : (0 : Int) < ((ys.length + 1 : Nat) : Int) := by omega
    have hi1 : (1 : Int) ≤ ((ys.length + 1 : Nat) : Int) := by omega
    have hys : ys.length ≤ 80 := by omega
    have yB := cell_of_one V6b
    have hlv := lt_of_block V6b
    have hlen1 : (ys.length + 1) * 24 ≤ 140737488355328 := by omega
    have hlen2 : ys.length + 1 ≤ maxLen := by unfold maxLen; omega
    clear hnn hz6
    go_wp2_with fail
    go_region_held3 (fun w' => w'.cell? ⟨w4.heap.size, 0, none⟩ = some (.slice A7 n7 c7) ∧ w'.cell? ⟨lb, lo, none⟩ = some (.slice Ay ny cy)) (first | exact ⟨yB, t1⟩ | exact ⟨yB7, t7⟩ | exact ⟨(World.cell?_alloc_past _ _ _ hlv).trans yB, (World.cell?_alloc_past _ _ _ hlb).trans t1⟩ | exact ⟨(World.cell?_alloc_past _ _ _ hlv7).trans yB7, (World.cell?_alloc_past _ _ _ hlb7).trans t7⟩ | exact ⟨yB8, t8⟩ | exact ⟨yB9, t9⟩ | go_keep)
      (first
        | (refine step_catL (by rfl) (.const (.slice none 0 0)) (.tmp 115) 30 (by rfl) w6.heap.size none 26 _ 24 Try.underlying30 Try.infoTxt rfl (by decide) (.slice none 0 0) [] ys (· < w6.heap.size) (cutS 1 (some ⟨lb, lo, none⟩) c6 1) ys.length (c6 - 1) (by rfl) (by rfl) (OwnL.nil _ _ _ _ _) (HCU.out.drewN 1) (fun b hb => ⟨trivial, hb, by simp [Value.ownBlock]⟩) (Nat.le_refl _) (by simp; omega) (by simp; unfold maxLen; omega) ?_; intro v7 w7 ho7 hx7; rw [List.nil_append] at ho7; have hb7 : Below w6.heap.size w6 w7 := (Below.refl w6.heap.size w6).drew.trans hx7.of_nil; have yB7 := (hb7.cell (p := ⟨w4.heap.size, 0, none⟩) hlv).trans yB; have t7 := (hb7.cell (p := ⟨lb, lo, none⟩) hlb).trans t1; have hlv7 := Nat.lt_of_lt_of_le hlv hb7.size; have hlb7 := Nat.lt_of_lt_of_le hlb hb7.size)
        | (refine step_pushL (w := w7) (by rfl) (.tmp 116) (.tmp 118) 30 (by rfl) w6.heap.size none 26 _ 24 Try.underlying30 Try.infoTxt rfl (by decide) v7 ys x2 #[.slice A2 n2 c2] (· < w6.heap.size) w7.heap.size (by rfl) (by rfl) (bel_alloc (Below.refl _ _) _) (heap_alloc_new _ _) ho7 ⟨A2, n2, c2, rfl, (P2.out _ B6).keep fun p hp => hb7.cell hp⟩ (fun b hb => ⟨trivial, Nat.lt_of_lt_of_le hb hb7.size, fun he => by have := ho7.ge he.symm; omega⟩) hb7.size hlen1 hlen2 ?_; intro v8 w8 ho8 hx8; obtain ⟨A8, n8, c8, rfl, hs8⟩ := ho8.read; have hb8 : Below w6.heap.size w6 w8 := (hb7.alloc hb7.size _).trans ((ho7.keep (bel_alloc (Below.refl _ _) _)).below hx8 (Nat.le_trans hb7.size (by simp))); have yB8 := (hb8.cell (p := ⟨w4.heap.size, 0, none⟩) hlv).trans yB; have t8 := (hb8.cell (p := ⟨lb, lo, none⟩) hlb).trans t1; have hn8 : n8 ≤ 1000 := (by rw [← hs8.len]; simp; omega))
        | (refine step_catL (w := (w6.drewN 1).alloc (.cells #[.slice A2 n2 c2] 26)) (by rfl) (.const (.slice none 0 0)) (.tmp 115) 30 (by rfl) (w6.heap.size + 1) none 26 _ 24 Try.underlying30 Try.infoTxt rfl (by decide) (.slice none 0 0) [] ys (· < w6.heap.size) (cutS 1 (some ⟨lb, lo, none⟩) c6 1) ys.length (c6 - 1) (by rfl) (by rfl) (OwnL.nil _ _ _ _ _) ((HCU.out.drewN 1).keep fun p hp => (bel_alloc (Below.refl w6.heap.size (w6.drewN 1)) _).cell hp) (fun b hb => ⟨trivial, by show b < ((w6.drewN 1).alloc _).heap.size; simp; omega, by simp [Value.ownBlock]⟩) (by simp) (by simp; omega) (by simp; unfold maxLen; omega) ?_; intro v7 w7 ho7 hx7; rw [List.nil_append] at ho7; have hbx : Below (w6.heap.size + 1) ((w6.drewN 1).alloc (.cells #[.slice A2 n2 c2] 26)) w7 := hx7.of_nilB (by simp); have hb7 : Below w6.heap.size w6 w7 := ((bel_drewN (Below.refl w6.heap.size w6) 1).alloc (Nat.le_refl _) _).trans (hbx.mono (by omega)); have hg7 := (hbx.block w6.heap.size (by omega)).trans (heap_alloc_new (w6.drewN 1) (.cells #[.slice A2 n2 c2] 26)); have yB7 := (hb7.cell (p := ⟨w4.heap.size, 0, none⟩) hlv).trans yB; have t7 := (hb7.cell (p := ⟨lb, lo, none⟩) hlb).trans t1; have hlv7 := Nat.lt_of_lt_of_le hlv hb7.size; have hlb7 := Nat.lt_of_lt_of_le hlb hb7.size)
        | (refine step_pushW (w := w7) (by rfl) (.tmp 116) (.tmp 118) 30 (by rfl) (w6.heap.size + 1) none 26 _ 24 Try.underlying30 Try.infoTxt rfl (by decide) v7 ys x2 #[.slice A2 n2 c2] (· < w6.heap.size) w6.heap.size (by rfl) (by rfl) hg7 ho7 ⟨A2, n2, c2, rfl, (P2.out _ B6).keep fun p hp => hb7.cell hp⟩ (fun b hb => ⟨trivial, Nat.lt_of_lt_of_le hb hb7.size, fun he => by have := ho7.ge he.symm; omega⟩) (lt_of_block hg7) hlen1 hlen2 ?_; intro v8 w8 ho8 hx8; obtain ⟨A8, n8, c8, rfl, hs8⟩ := ho8.read; have hb8 : Below w6.heap.size w6 w8 := hb7.trans ((ho7.below hx8 (lt_of_block hg7)).mono (by omega)); have yB8 := (hb8.cell (p := ⟨w4.heap.size, 0, none⟩) hlv).trans yB; have t8 := (hb8.cell (p := ⟨lb, lo, none⟩) hlb).trans t1; have hn8 : n8 ≤ 1000 := (by rw [← hs8.len]; simp; omega))
        | (go_at_call 20; go_must (refine (aFind_any _ nb pk _ _ _ y _ _ _ (ys ++ [x2]) w8 (rep_Arena.2 ⟨_, _, _, rfl, Sl.call K6 hb8⟩) KW (Sl.call HV.out hb8) hs8 hn8).mono ?_; rw [FE.out, FI.out]; rintro e w9 ⟨rfl, hb9⟩; have yB9 := (hb9.cell (p := ⟨w4.heap.size, 0, none⟩) (Nat.lt_of_lt_of_le hlv hb8.size)).trans yB8; have t9 := (hb9.cell (p := ⟨lb, lo, none⟩) (Nat.lt_of_lt_of_le hlb hb8.size)).trans t8)))
  all_goals
    have B9 := bel_call (bel_call B6 hb8) hb9
    have z9a := cell_of_one ((hb9.block _ (Nat.lt_of_lt_of_le (lt_of_block V6a) hb8.size)).trans ((hb8.block _ (lt_of_block V6a)).trans V6a))
    have K9 := Sl.call (Sl.call K6 hb8) hb9
    have KU := K9.upto (i := n0) g1
    have HTT := HT.out
    rw [L0.out] at HTT
    rw [HTT] at KU
    have hup := fun W => run_uptoL (P := Try.prog) 22 39 .i64 Try.underlying22 Try.elemTerm Try.infoTerm A7 n7 c7 n0 (by omega) W
    have hii : ((i : Int) == (i : Int)) = true := by simp
    have hg0 : (0 : Int) ≤ (n0 : Int) := by omega
    have hg1 : (n0 : Int) ≤ (c7 : Int) := by omega
    clear hb9 hb8 hs8 ho8 hx8 ho7 hx7 hb7 yB8 t8 yB7 t7 hlv7 hlb7 t9 t1 HV HCU hct yB V6a V6b K6 hlen1 hlen2
    go_wp2_with fail
    go_still_tail 16, (by kernel_rfl)
    change wpList _ _ _ _ _ (w9.drewN 1)
    have BX := bel_drewN B9 1
    have KX := KU.drewN 1
    clear yB9 z9a K9 KU
    go_wp2_with (go_at_call 19; go_must (refine (aSame_any _ _ x0 x0 _ (rep_Arena.2 ⟨_, _, _, rfl, KX⟩) (P0.out _ BX)).mono ?_; rw [decide_eq_true rfl]; rintro e w10 ⟨rfl, hb10⟩))
    go_ret
    exact ⟨rfl, bel_call BX hb10⟩
end Go.Proofs.Ythcikbmekjmmlaa
