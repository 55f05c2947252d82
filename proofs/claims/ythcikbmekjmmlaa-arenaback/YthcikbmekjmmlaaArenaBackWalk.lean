/-
  The walk of ArenaBack.
-/
import Derived.Test.YthcikbmekjmmlaaArenaGrowsWalk
namespace Go.Proofs.Ythcikbmekjmmlaa
open Go.RowKit Go.WalkArith

theorem back_laws {l : List Trm} {u : Int} (h : pathE l u = 0) : 0 ≤ u ∧ u < l.length ∧ ∃ y ys, pathT l u = y :: ys ∧ ys.length ≤ u ∧ findE l (pathK l u) y ys = 0 ∧ findI l (pathK l u) y ys = u ∧ mkS l (pathK l u) y ys = ⟨l, u, 0⟩ := by
  rcases path_cases l u with ⟨_, h1, h2, h3, h4, h5⟩ | ⟨e, _⟩
  · have hul : u.toNat < l.length := by omega
    have hlen := pthT_len hul
    rw [h4, h5]
    cases hc : pthT l u.toNat with
    | nil => exact absurd hc (pthT_ne hul)
    | cons y ys =>
      rw [hc] at hlen
      obtain ⟨f1, f2⟩ := find_same h1 hul rfl hc
      have hm := mk_same h1 hul rfl hc
      have hu : ((u.toNat : Nat) : Int) = u := by omega
      rw [hu] at f2 hm
      exact ⟨h2, h3, y, ys, rfl, by simp at hlen; omega, f1, f2, hm⟩
  · rw [h] at e; cases e
theorem back_next {l : List Trm} {u : Int} (h : pathE l u = 0) (hl : l.length ≤ 80) (t : List Int) :
    (nextE l u t = 0 ∧ ∃ i : Nat, nextI l u t = i ∧ i < 1048576 ∧ pathE (nextL l u t) u = 0 ∧ pathK (nextL l u t) u = pathK l u ∧ pathT (nextL l u t) u = pathT l u ∧ pathE (nextL l u t) i = 0 ∧ pathK (nextL l u t) i = pathK l u ∧ pathT (nextL l u t) i = pathT l u ++ [t] ∧ l.length ≤ (nextL l u t).length ∧ (nextL l u t).take l.length = l) ∨ (nextE l u t ≠ 0 ∧ 4096 < t.length) := by
  rcases path_cases l u with ⟨_, h1, h2, h3, h4, h5⟩ | ⟨e, _⟩
  · by_cases hE : nextE l u t = 0
    · left
      obtain ⟨o, i, hi, e1, e2, a1, a2, g0, g1, g2, p1, p2, n1, n2, -⟩ := next_made hE
      have hul : u.toNat < l.length := by omega
      obtain ⟨q1, q2⟩ := pth_append h1 o hul
      have r1 := path_ok a2 (u := u) h2 (by rw [List.length_append]; omega)
      have r2 := path_ok a2 (u := (i : Int)) (by omega) (by omega)
      have hi2 : (i : Int).toNat = i := by omega
      rw [hi2] at r2
      refine ⟨hE, i, e2, by have := a2.1; omega, ?_⟩
      rw [e1, r1.2.1, r1.2.2, r2.2.1, r2.2.2, h4, h5, q1, q2, p1, p2]
      exact ⟨r1.1, rfl, rfl, r2.1, rfl, rfl, by simp, by simp⟩
    · right
      refine ⟨hE, ?_⟩
      rw [nextE, if_neg (by omega)] at hE
      rcases with_cases (l := l) (nextT u t) with ⟨e, _⟩ | ⟨e, _⟩ | ⟨_, _, _, _, _, _, e, _⟩ | ⟨_, _, _, _, e, _⟩ | ⟨_, e, _⟩
      · exact absurd e hE
      · exact absurd e hE
      · omega
      · exact e
      · exact absurd ⟨h1, h3, by show -1 ≤ u; omega⟩ e
  · rw [h] at e; cases e

set_option maxRecDepth 100000 in
set_option maxHeartbeats 8000000 in
theorem arenaBack_walk (s0 : Array Value) (x0 : List Trm) (a1 : Int) (A2 : Option Addr) (n2 c2 : Nat) (x2 : List Int) (w : World) (r0 : lay_Arena.rep w (· < w.heap.size) x0 s0.toList) (b1 : -9223372036854775808 ≤ a1 ∧ a1 ≤ 9223372036854775807) (r2 : Rd w w.heap.size .u8 A2 n2 c2 x2) :
    Calls Try.prog 6 #[.agg s0, .int .i64 a1, .slice A2 n2 c2] w fun e w' => e = .returned (.bool true) ∧ Below w.heap.size w w' := by
  obtain ⟨A0, n0, c0, rfl, h0⟩ := agg_Arena r0
  clear r0
  have W1 := wf_i64 b1
  have hb0 : Below w.heap.size w (w.alloc (Obj.cells #[.slice A0 n0 c0] 24)) := bel_alloc (Below.refl _ _) _
  have hx0 := heap_alloc_new w (Obj.cells #[.slice A0 n0 c0] 24)
  have hlt0 : w.heap.size < (w.alloc (Obj.cells #[.slice A0 n0 c0] 24)).heap.size := by simp
  have P0 := hid (fun (W : World) (h : Below w.heap.size w W) => (show lay_Arena.rep W (· < W.heap.size) x0 #[.slice A0 n0 c0].toList from rep_Arena.2 ⟨_, _, _, rfl, (h0.keep fun _ hp => h.cell hp).wide fun b hb => Nat.lt_of_lt_of_le hb h.size⟩))
  have P2 := hid (fun (W : World) (h : Below w.heap.size w W) => (r2.sl.keep fun _ hp => h.cell hp).wide (S' := (· < W.heap.size)) fun b hb => Nat.lt_of_lt_of_le hb h.size)
  have R2 := hid (fun (W : World) (h : Below w.heap.size w W) => (r2.below h).more h.size)
  have P2s := hid (fun (W : World) (h : Below w.heap.size w W) => r2.sl.keep (w' := W) fun _ hp => h.cell hp)
  have L0 := hid h0.len
  have L2 := hid r2.len
  have hc2 := r2.cap
  unfold maxLen at hc2
  have KW := pathK_wf h0 a1
  clear h0 r2
  obtain ⟨q0, hq0⟩ : ∃ q, fewA x0 = q := ⟨_, rfl⟩
  obtain ⟨q2, hq2⟩ : ∃ q, fewT [x2] = q := ⟨_, rfl⟩
  have hl0 : q0 = true → n0 ≤ 80 := fun h => by rw [← L0.out]; exact fewA_len (hq0.trans h)
  have F0 := hid hq0
  have F2 := hid hq2
  clear hq0 hq2
  by_cases hall : q0 = true ∧ q2 = true
  rotate_left
  · have hways : q0 = false ∨ q0 = true ∧ q2 = false := by cases q0 <;> cases q2 <;> simp_all
    clear hall hl0
    rcases hways with rfl | ⟨rfl, rfl⟩
    all_goals
      go_enter Try.func6, Try.ntmps6
      go_wp2_with (first | (go_at_call 8; go_must (refine (live5_any _).mono ?_; rintro e w1 ⟨rfl, hb1⟩; have z1 := cell_of_one ((hb1.block _ hlt0).trans hx0); have B1 := bel_call hb0 hb1)) | (go_at_call 9; go_must (refine (refFewA_any _ x0 _ (P0.out _ B1)).mono ?_; rw [F0.out]; rintro e w2 ⟨rfl, hb2⟩; have B2 := bel_call B1 hb2)) | (with_reducible refine (lawFewT_any _ _ _ _ [x2] _ (one_txt (P2.out _ B2))).mono ?_; rw [F2.out]; rintro e w3 ⟨rfl, rfl⟩))
      go_ret
      exact ⟨rfl, by first | exact B2 | exact bel_alloc B2 _⟩
  obtain ⟨rfl, rfl⟩ := hall
  replace hl0 := hl0 rfl
  go_enter Try.func6, Try.ntmps6
  go_wp2_with (first | (go_at_call 8; go_must (refine (live5_any _).mono ?_; rintro e w1 ⟨rfl, hb1⟩; have V1 := (hb1.block _ hlt0).trans hx0; have z1 := cell_of_one V1; have B1 := bel_call hb0 hb1)) | (go_at_call 9; go_must (refine (refFewA_any _ x0 _ (P0.out _ B1)).mono ?_; rw [F0.out]; rintro e w2 ⟨rfl, hb2⟩; have B2 := bel_call B1 hb2; have V2 := (hb2.block _ (lt_of_block V1)).trans V1; have z2 := cell_of_one V2; have hlv := lt_of_block V2)) | (with_reducible refine (lawFewT_any _ _ _ _ [x2] _ (one_txt (P2.out _ B2))).mono ?_; rw [F2.out]; rintro e w3 ⟨rfl, rfl⟩))
  have B3 := bel_alloc B2 (Obj.cells #[.slice A2 n2 c2] 26)
  have V3 := (heap_alloc_old w2 (Obj.cells #[.slice A2 n2 c2] 26) hlv).trans V2
  clear z1 z2 V1 V2 B1 B2 hb1 hb2 hlv hb0 hx0 hlt0
  generalize w2.alloc (Obj.cells #[.slice A2 n2 c2] 26) = w3 at *
  refine (aPath_any _ x0 a1 w3 (P0.out _ B3) W1).mono ?_
  rintro e w4 ⟨v4, rfl, ho4, hb4⟩
  obtain ⟨A6, n6, c6, rfl, hs6⟩ := ho4.read
  have B4 := bel_call B3 hb4
  have V4 := (hb4.block _ (lt_of_block V3)).trans V3
  by_cases hE : pathE x0 a1 = 0
  rotate_left
  · have hT : pathT x0 a1 = [] := if_neg hE
    rw [hT] at hs6
    have hn6 : n6 = 0 := hs6.len.symm
    subst hn6
    have hd : (pathE x0 a1 != 0) = true := by simpa using hE
    clear hE hT
    generalize pathE x0 a1 = pe at *
    generalize pathK x0 a1 = pk at *
    go_wp2
    go_ret
    exact ⟨rfl, B4⟩
  obtain ⟨u0, u1, y, ys, hT, hys, f1, f2, f3⟩ := back_laws hE
  have hN := back_next hE (by rw [L0.out]; exact hl0) x2
  rw [hE]
  rw [hT] at hs6 hN ho4
  obtain ⟨pk, hpk⟩ : ∃ pk, pk = pathK x0 a1 := ⟨_, rfl⟩
  rw [← hpk] at f1 f2 f3 hN KW ⊢
  have FE := hid f1
  have FI := hid f2
  have FM := hid f3
  have HN := hid hN
  rw [L0.out] at u1
  clear hE hpk f1 f2 f3 hN hT
  have hl6 : n6 = ys.length + 1 := by rw [← hs6.len]; rfl
  obtain ⟨lb, lo, Ay, ny, cy, hx1, rfl, hlb, t1, hV1⟩ := txt_atA hs6 (j := 0) (by omega)
  have hcu := hs6.cut (i := 1) (by omega)
  have hct := fun W => run_fromL (P := Try.prog) 30 26 .i64 Try.underlying30 (by kernel_rfl) Try.infoTxt (some ⟨lb, lo, none⟩) n6 c6 1 (by omega) W
  have hct : ∀ W : World, (Instr.slice 30 (.slice (some ⟨lb, lo, none⟩) n6 c6) (some (.int .i64 1)) none none).run Try.prog W = .ok (.slice (cutS 1 (some ⟨lb, lo, none⟩) c6 1) (n6 - 1) (c6 - 1)) W := hct
  have hdr : (y :: ys).drop 1 = ys := rfl
  have hnn : n6 - 1 = ys.length := by omega
  rw [hdr] at hcu
  rw [hnn] at hcu hct
  rw [Nat.add_zero] at t1
  have PY := hid (fun (W : World) (h : Below w4.heap.size w4 W) => (show Sl (Lay.int .u8) W (· < W.heap.size) Ay ny cy y from Sl.call hV1 h))
  have PYS := hid (fun (W : World) (h : Below w4.heap.size w4 W) => Sl.call hcu h)
  have PL := hid (fun (W : World) (h : Below w4.heap.size w4 W) => Sl.call hs6 h)
  subst hl6
  have hi0 : (0 : Int) < ((ys.length + 1 : Nat) : Int) := by omega
  have hi1 : (1 : Int) ≤ ((ys.length + 1 : Nat) : Int) := by omega
  have hyl : ys.length ≤ 80 := by omega
  have yA := cell_of_one V4
  have hlv := lt_of_block V4
  have hz6 : (((ys.length + 1 : Nat) : Int) == 0) = false := by simp; omega
  clear hV1 hcu hdr hnn hx1 hs6
  go_wp2_with fail
  go_region_held3 (fun w' => w'.cell? ⟨w.heap.size, 0, none⟩ = some (.slice A0 n0 c0) ∧ w'.cell? ⟨lb, lo, none⟩ = some (.slice Ay ny cy)) (first | exact ⟨yA, t1⟩ | exact ⟨yA5, t5⟩ | go_keep)
    (first
      | (go_at_call 20; go_must (refine (aFind_any _ x0 pk _ _ _ y _ _ _ ys (w4.drewN 1) (P0.out _ (bel_drewN B4 1)) KW (PY.out _ (bel_drewN (Below.refl _ _) 1)) (PYS.out _ (bel_drewN (Below.refl _ _) 1)) (by omega)).mono ?_; rw [FE.out, FI.out]; rintro e w5 ⟨rfl, hb5x⟩; have hb5 : Below w4.heap.size w4 w5 := (bel_drewN (Below.refl _ _) 1).trans hb5x; have yA5 := (hb5.cell (p := ⟨w.heap.size, 0, none⟩) hlv).trans yA; have t5 := (hb5.cell (p := ⟨lb, lo, none⟩) hlb).trans t1)))
  have hz5 := hb5.size
  have hlv5 : w.heap.size < w5.heap.size := by omega
  have hlb5 : lb < w5.heap.size := by omega
  clear hb5x
  go_wp2_with fail
  go_region_held3 (fun w' => w'.cell? ⟨w.heap.size, 0, none⟩ = some (.slice A0 n0 c0) ∧ w'.cell? ⟨lb, lo, none⟩ = some (.slice Ay ny cy)) (first | exact ⟨yA5, t5⟩ | exact ⟨yA6, t6⟩ | exact ⟨(World.cell?_alloc_past _ _ _ hlv5).trans yA5, (World.cell?_alloc_past _ _ _ hlb5).trans t5⟩ | exact ⟨(World.cell?_alloc_past _ _ _ hlv6).trans yA6, (World.cell?_alloc_past _ _ _ hlb6).trans t6⟩ | exact ⟨yS _, tS _⟩ | go_keep)
    (first
      | (go_at_call 25; refine (made_any _ x0 pk _ _ _ y _ _ _ ys (w5.drewN 1) (P0.out _ (bel_call B4 (bel_drewN hb5 1))) KW (PY.out _ (bel_drewN hb5 1)) (PYS.out _ (bel_drewN hb5 1))).mono ?_; rw [FM.out]; (simp only [decide_true]); rintro e w6 ⟨v6, rfl, ho6, hb6x⟩; obtain ⟨A8, n8, c8, rfl, hs8⟩ := ho6.read; have hb6 : Below w4.heap.size w4 w6 := bel_call (bel_drewN hb5 1) hb6x; have yA6 := (hb6.cell (p := ⟨w.heap.size, 0, none⟩) hlv).trans yA; have t6 := (hb6.cell (p := ⟨lb, lo, none⟩) hlb).trans t1; have hlv6 := Nat.lt_of_lt_of_le hlv hb6.size; have hlb6 := Nat.lt_of_lt_of_le hlb hb6.size)
      | (go_at_call 25; refine (made_any _ x0 pk _ _ _ y _ _ _ ys ((w5.drewN 1).alloc (.cells #[.slice none 0 0] 24)) (P0.out _ (bel_call B4 (bel_alloc (bel_drewN hb5 1) _))) KW (PY.out _ (bel_alloc (bel_drewN hb5 1) _)) (PYS.out _ (bel_alloc (bel_drewN hb5 1) _))).mono ?_; rw [FM.out]; (simp only [decide_true]); rintro e w6 ⟨v6, rfl, ho6, hb6x⟩; obtain ⟨A8, n8, c8, rfl, hs8⟩ := ho6.read; have hb6 : Below w4.heap.size w4 w6 := bel_call (bel_alloc (bel_drewN hb5 1) _) hb6x; have yA6 := (hb6.cell (p := ⟨w.heap.size, 0, none⟩) hlv).trans yA; have t6 := (hb6.cell (p := ⟨lb, lo, none⟩) hlb).trans t1; have hlv6 := Nat.lt_of_lt_of_le hlv hb6.size; have hlb6 := Nat.lt_of_lt_of_le hlb hb6.size; have gB := (hb6x.block w5.heap.size (by show w5.heap.size < ((w5.drewN 1).alloc _).heap.size; simp)).trans (heap_alloc_new (w5.drewN 1) (.cells #[.slice none 0 0] 24)); have zB := cell_of_one gB; have fB := free_of_one gB; have yS : ∀ v, (w6.setCell ⟨w5.heap.size, 0, none⟩ v).cell? ⟨w.heap.size, 0, none⟩ = some (.slice A0 n0 c0) := fun v => (World.cell?_of_block (a := ⟨w.heap.size, 0, none⟩) (Below.heap_setCell _ _ _ _ (by show w.heap.size ≠ w5.heap.size; omega))).trans yA6; have tS : ∀ v, (w6.setCell ⟨w5.heap.size, 0, none⟩ v).cell? ⟨lb, lo, none⟩ = some (.slice Ay ny cy) := fun v => (World.cell?_of_block (a := ⟨lb, lo, none⟩) (Below.heap_setCell _ _ _ _ (by show lb ≠ w5.heap.size; omega))).trans t6))
  · have HB7 := bel_alloc hb6 (Obj.cells #[.slice A8 n8 c8] 24)
    have VB7 := heap_alloc_new w6 (Obj.cells #[.slice A8 n8 c8] 24)
    have K7 := Sl.call hs8 (bel_alloc (Below.refl _ _) (Obj.cells #[.slice A8 n8 c8] 24))
    clear hb6 hb6x yA6 t6 hlv6 hlb6 hs8 ho6 yA5 t5 hb5 hlv5 hlb5 hz5
    generalize w6.alloc (Obj.cells #[.slice A8 n8 c8] 24) = w7 at *
    generalize w6.heap.size = g at *
    have hlg := lt_of_block VB7
    have yA7 := (HB7.cell (p := ⟨w.heap.size, 0, none⟩) hlv).trans yA
    have yB7 := cell_of_one VB7
    have hne : (a1 != a1) = false := by simp
    go_wp2_with fail
    refine (aSame_any _ _ x0 x0 w7 (P0.out _ (bel_call B4 HB7)) (rep_Arena.2 ⟨_, _, _, rfl, K7⟩)).mono ?_
    rw [decide_eq_true rfl]
    rintro e w8 ⟨rfl, hb8⟩
    have HB8 := bel_call HB7 hb8
    have yA8 := (HB8.cell (p := ⟨w.heap.size, 0, none⟩) hlv).trans yA
    clear yA7 yB7 VB7 K7 hb8 HB7 hlg
    go_wp2_with fail
    refine (aNext_any _ x0 a1 _ _ _ x2 w8 (P0.out _ (bel_call B4 HB8)) W1 (R2.out _ (bel_call B4 HB8))).mono ?_
    rintro e w9 ⟨v9, rfl, ho9, hb9⟩
    obtain ⟨A9, n9, c9, rfl, hs9F⟩ := ho9.sl (Nat.le_refl _) (Nat.le_refl _)
    have hs9 := hs9F.wide (S' := (· < w9.heap.size)) fun _ h => h.2.1
    have HB9 := bel_call HB8 hb9
    have hz8 := HB8.size
    have hz89 := hb9.size
    clear yA8 HB8 hb9 ho9
    rcases HN.out with ⟨e0, i, j1, j2, j3, j4, j5, j6, j7, j8, j9, j10⟩ | ⟨e0, hlong⟩
    rotate_left
    · have hd : (nextE x0 a1 x2 != 0) = true := by simpa using e0
      rw [L2.out] at hlong
      have hd2 : (4096 : Int) < (n2 : Int) := by omega
      clear e0 HN
      generalize nextE x0 a1 x2 = ne at *
      generalize nextI x0 a1 x2 = ni at *
      go_wp2
      go_ret
      exact ⟨rfl, bel_alloc (bel_call B4 HB9) _⟩
    rw [e0, j1]
    have J3 := hid j3
    have J4 := hid j4
    have J5 := hid j5
    have J6 := hid j6
    have J7 := hid j7
    have J8 := hid j8
    have J10 := hid j10
    rw [L0.out, hs9.len] at j9
    clear e0 j1 j3 j4 j5 j6 j7 j8 j10 HN FE FI FM
    generalize nextL x0 a1 x2 = nb at *
    have hwi : (Lit.int .i64 (i : Int)).wf = true := wf_i64 (by omega)
    have hba := bel_alloc (Below.refl w9.heap.size w9) (Obj.cells #[.slice A9 n9 c9] 24)
    have HBA := bel_call HB9 hba
    have VC := heap_alloc_new w9 (Obj.cells #[.slice A9 n9 c9] 24)
    have KC := Sl.call hs9 hba
    go_wp2_with fail
    generalize w9.alloc (Obj.cells #[.slice A9 n9 c9] 24) = wA at *
    refine (aPath_any _ nb a1 wA (rep_Arena.2 ⟨_, _, _, rfl, KC⟩) W1).mono ?_
    rw [J3.out, J4.out, J5.out]
    rintro e wB ⟨vB, rfl, hoB, hbB⟩
    obtain ⟨AB, nB, cB, rfl, hsB⟩ := hoB.read
    have VCB := (hbB.block _ (lt_of_block VC)).trans VC
    have zCB := cell_of_one VCB
    go_wp2_with fail
    refine (aPath_any _ nb i wB (rep_Arena.2 ⟨_, _, _, rfl, Sl.call KC hbB⟩) hwi).mono ?_
    rw [J6.out, J7.out, J8.out]
    rintro e wC ⟨vC, rfl, hoC, hbC⟩
    obtain ⟨AC, nC, cC, rfl, hsC⟩ := hoC.sl (Nat.le_refl _) (Nat.le_refl _)
    have H9C := bel_call (bel_call hba hbB) hbC
    have hzB := (bel_call hba hbB).size
    have VCC := (hbC.block _ (lt_of_block VCB)).trans VCB
    have HBC := bel_call (bel_call HBA hbB) hbC
    have KCC := Sl.call (Sl.call KC hbB) hbC
    have hsBC := Sl.call hsB hbC
    have hc9 := hs9.cap
    clear zCB VCB VC KC hba HB9 HBA hs9 hbB hbC hoB hoC hsB
    have yAC := (HBC.cell (p := ⟨w.heap.size, 0, none⟩) hlv).trans yA
    have yCC := cell_of_one VCC
    have hlA := Nat.lt_of_lt_of_le hlv HBC.size
    have hlC := lt_of_block VCC
    have hz9 := HBC.size
    have hw3 : w.heap.size ≤ w3.heap.size := B3.size
    have hown : ∀ g, (Value.slice (some ⟨lb, lo, none⟩) (ys.length + 1) c6).ownBlock = some g → g = lb := fun g hg => by simpa [Value.ownBlock] using hg.symm
    have hge : w3.heap.size ≤ lb := ho4.ge (by simp [Value.ownBlock])
    have HOWN := hid hown
    clear hown
    have hneA : some w.heap.size ≠ (Value.slice (some ⟨lb, lo, none⟩) (ys.length + 1) c6).ownBlock := fun he => by have := HOWN.out _ he.symm; have := lt_of_block V3; omega
    have hneC : some w9.heap.size ≠ (Value.slice (some ⟨lb, lo, none⟩) (ys.length + 1) c6).ownBlock := fun he => by have := HOWN.out _ he.symm; omega
    have hup := fun W => run_uptoL (P := Try.prog) 22 39 .i64 Try.underlying22 Try.elemTerm Try.infoTerm A9 n9 c9 n0 (by have := hc9.1; omega) W
    have hii : (pk == pk) = true := by simp
    have hge9 : decide ((n0 : Int) ≤ (n9 : Int)) = true := by simp; omega
    have hge9' : decide (n0 ≤ n9) = true := by simp; omega
    have hg0 : (0 : Int) ≤ (n0 : Int) := by omega
    have hg1 : (n0 : Int) ≤ (c9 : Int) := by have := hc9.1; omega
    have HTT := J10.out
    rw [L0.out] at HTT
    have HKU := hid HTT
    have hlen1 : ((y :: ys).length + 1) * 24 ≤ 140737488355328 := by simp; omega
    have hlen2 : (y :: ys).length + 1 ≤ maxLen := by simp; unfold maxLen; omega
    have HNA := hid hneA
    have HNC := hid hneC
    clear hneA hneC hne hz6 hi0 hi1
    have HBCd : Below w4.heap.size w4 wC.drew := HBC.drew
    have PLd : Sl lay_Txt wC.drew (· < wC.drew.heap.size) (some ⟨lb, lo, none⟩) (ys.length + 1) c6 (y :: ys) := PL.out _ HBCd
    have hsBd : Sl lay_Txt wC.drew (· < wC.drew.heap.size) AB nB cB (y :: ys) := hsBC.drewN 1
    have HST := hid (sameTexts_any _ _ _ _ _ _ (y :: ys) (y :: ys) wC.drew PLd hsBd)
    rw [decide_eq_true rfl] at HST
    clear HTT yA hct t1 PLd hsBd HBCd
    go_wp2_with fail
    go_region_held3 (fun w' => w'.cell? ⟨w.heap.size, 0, none⟩ = some (.slice A0 n0 c0) ∧ w'.cell? ⟨w9.heap.size, 0, none⟩ = some (.slice A9 n9 c9)) (first | exact ⟨yAC, yCC⟩ | exact ⟨yAD, yCD⟩ | exact ⟨(World.cell?_alloc_past _ _ _ hlAD).trans yAD, (World.cell?_alloc_past _ _ _ hlCD).trans yCD⟩ | exact ⟨yAF, yCF⟩ | exact ⟨yAG, yCG⟩ | exact ⟨yAH, yCH⟩ | go_keep)
      (first
        | (go_at_call 24; (with_reducible refine HST.out.mono ?_); rintro e wD ⟨rfl, hbDx⟩; have hbD : Below wC.heap.size wC wD := (Below.refl wC.heap.size wC).drew.trans hbDx; have HBD := bel_call HBC hbD; have yAD := (hbD.cell (p := ⟨w.heap.size, 0, none⟩) hlA).trans yAC; have yCD := (hbD.cell (p := ⟨w9.heap.size, 0, none⟩) hlC).trans yCC; have hlAD := Nat.lt_of_lt_of_le hlA hbD.size; have hlCD := Nat.lt_of_lt_of_le hlC hbD.size; have HBE := bel_alloc HBD (.cells #[.slice A2 n2 c2] 26); have H9E := bel_alloc (bel_call H9C hbD) (.cells #[.slice A2 n2 c2] 26); have HCE := bel_alloc hbD (.cells #[.slice A2 n2 c2] 26))
        | (refine step_pushW (w := wD.alloc (.cells #[.slice A2 n2 c2] 26)) (by rfl) (.tmp 145) (.tmp 147) 30 (by rfl) w3.heap.size none 26 _ 24 Try.underlying30 Try.infoTxt rfl (by decide) (.slice (some ⟨lb, lo, none⟩) (ys.length + 1) c6) (y :: ys) x2 #[.slice A2 n2 c2] (· < w.heap.size) wD.heap.size (by rfl) (by rfl) (heap_alloc_new _ _) (ho4.loose.keep HBE) ⟨A2, n2, c2, rfl, P2s.out _ (bel_call B4 HBE)⟩ (fun b hb => ⟨trivial, Nat.lt_of_lt_of_le hb (bel_call B4 HBE).size, fun he => by have := HOWN.out _ he.symm; omega⟩) (Nat.le_trans hb4.size HBE.size) hlen1 hlen2 ?_; intro vF wF hoF hxF; obtain ⟨AF, nF, cF, rfl, hsF⟩ := hoF.read; have yAF := hxF.1.cell (a := ⟨w.heap.size, 0, none⟩) ((World.cell?_alloc_past _ _ _ hlAD).trans yAD) HNA.out; have yCF := hxF.1.cell (a := ⟨w9.heap.size, 0, none⟩) ((World.cell?_alloc_past _ _ _ hlCD).trans yCD) HNC.out; have BF : Below w.heap.size w wF := (bel_call B4 HBE).trans (((ho4.loose.keep HBE).below hxF (Nat.le_trans hb4.size HBE.size)).mono hw3); have hoCF : Sl lay_Txt wF (· < wF.heap.size) AC nC cC ((y :: ys) ++ [x2]) := (hsC.keep fun p hp => (World.cell?_of_block (hxF.1.block p.block (Nat.lt_of_lt_of_le hp.2.1 HCE.size) (fun he => by have := HOWN.out _ he.symm; have := hp.1; omega))).trans (HCE.cell hp.2.1)).wide fun b hb => Nat.lt_of_lt_of_le hb.2.1 (Nat.le_trans HCE.size hxF.size); have hcF : Sl lay_Term wF (· < wF.heap.size) A9 n9 c9 nb := (hs9F.keep fun p hp => (World.cell?_of_block (hxF.1.block p.block (Nat.lt_of_lt_of_le hp.2.1 H9E.size) (fun he => by have := HOWN.out _ he.symm; have := hp.1; omega))).trans (H9E.cell hp.2.1)).wide fun b hb => Nat.lt_of_lt_of_le hb.2.1 (Nat.le_trans H9E.size hxF.size); have hlAF := World.block_lt_of_cell? _ _ yAF; have hlCF := World.block_lt_of_cell? _ _ yCF; have HS2 := hid (sameTexts_any _ _ _ _ _ _ ((y :: ys) ++ [x2]) ((y :: ys) ++ [x2]) wF hoCF hsF); rw [decide_eq_true rfl] at HS2)
        | (go_at_call 24; (with_reducible refine HS2.out.mono ?_); rintro e wG ⟨rfl, hbG⟩; have yAG := (hbG.cell (p := ⟨w.heap.size, 0, none⟩) hlAF).trans yAF; have yCG := (hbG.cell (p := ⟨w9.heap.size, 0, none⟩) hlCF).trans yCF; have BG := bel_call BF hbG; have KU := (Sl.call hcF hbG).upto (i := n0) j9; rw [HKU.out] at KU; have hlAG := World.block_lt_of_cell? _ _ yAG; have hlCG := World.block_lt_of_cell? _ _ yCG)
        | (go_at_call 19; go_must (refine (aSame_any _ _ x0 x0 wG (rep_Arena.2 ⟨_, _, _, rfl, KU⟩) (P0.out _ BG)).mono ?_; rw [decide_eq_true rfl]; rintro e wH ⟨rfl, hbH⟩; have yAH := (hbH.cell (p := ⟨w.heap.size, 0, none⟩) hlAG).trans yAG; have yCH := (hbH.cell (p := ⟨w9.heap.size, 0, none⟩) hlCG).trans yCG)))
    go_wp2
    go_ret
    exact ⟨rfl, bel_call BG hbH⟩
  · have HB7 := hb6.setCell (p := ⟨w5.heap.size, 0, none⟩) hz5 (.slice A8 n8 c8)
    have VB7 := one_setCell (u := .slice A8 n8 c8) gB
    have K7 := (ho6.setLow (b := w5.heap.size) (by simp) (by simp) 0 (.slice A8 n8 c8)).readS
    clear hb6 hb6x yA6 t6 hlv6 hlb6 hs8 ho6 yA5 t5 hb5 hlv5 hlb5 hz5 gB zB fB yS tS
    generalize w6.setCell ⟨w5.heap.size, 0, none⟩ (.slice A8 n8 c8) = w7 at *
    generalize w5.heap.size = g at *
    have hlg := lt_of_block VB7
    have yA7 := (HB7.cell (p := ⟨w.heap.size, 0, none⟩) hlv).trans yA
    have yB7 := cell_of_one VB7
    have hne : (a1 != a1) = false := by simp
    go_wp2_with fail
    refine (aSame_any _ _ x0 x0 w7 (P0.out _ (bel_call B4 HB7)) (rep_Arena.2 ⟨_, _, _, rfl, K7⟩)).mono ?_
    rw [decide_eq_true rfl]
    rintro e w8 ⟨rfl, hb8⟩
    have HB8 := bel_call HB7 hb8
    have yA8 := (HB8.cell (p := ⟨w.heap.size, 0, none⟩) hlv).trans yA
    clear yA7 yB7 VB7 K7 hb8 HB7 hlg
    go_wp2_with fail
    refine (aNext_any _ x0 a1 _ _ _ x2 w8 (P0.out _ (bel_call B4 HB8)) W1 (R2.out _ (bel_call B4 HB8))).mono ?_
    rintro e w9 ⟨v9, rfl, ho9, hb9⟩
    obtain ⟨A9, n9, c9, rfl, hs9F⟩ := ho9.sl (Nat.le_refl _) (Nat.le_refl _)
    have hs9 := hs9F.wide (S' := (· < w9.heap.size)) fun _ h => h.2.1
    have HB9 := bel_call HB8 hb9
    have hz8 := HB8.size
    have hz89 := hb9.size
    clear yA8 HB8 hb9 ho9
    rcases HN.out with ⟨e0, i, j1, j2, j3, j4, j5, j6, j7, j8, j9, j10⟩ | ⟨e0, hlong⟩
    rotate_left
    · have hd : (nextE x0 a1 x2 != 0) = true := by simpa using e0
      rw [L2.out] at hlong
      have hd2 : (4096 : Int) < (n2 : Int) := by omega
      clear e0 HN
      generalize nextE x0 a1 x2 = ne at *
      generalize nextI x0 a1 x2 = ni at *
      go_wp2
      go_ret
      exact ⟨rfl, bel_alloc (bel_call B4 HB9) _⟩
    rw [e0, j1]
    have J3 := hid j3
    have J4 := hid j4
    have J5 := hid j5
    have J6 := hid j6
    have J7 := hid j7
    have J8 := hid j8
    have J10 := hid j10
    rw [L0.out, hs9.len] at j9
    clear e0 j1 j3 j4 j5 j6 j7 j8 j10 HN FE FI FM
    generalize nextL x0 a1 x2 = nb at *
    have hwi : (Lit.int .i64 (i : Int)).wf = true := wf_i64 (by omega)
    have hba := bel_alloc (Below.refl w9.heap.size w9) (Obj.cells #[.slice A9 n9 c9] 24)
    have HBA := bel_call HB9 hba
    have VC := heap_alloc_new w9 (Obj.cells #[.slice A9 n9 c9] 24)
    have KC := Sl.call hs9 hba
    go_wp2_with fail
    generalize w9.alloc (Obj.cells #[.slice A9 n9 c9] 24) = wA at *
    refine (aPath_any _ nb a1 wA (rep_Arena.2 ⟨_, _, _, rfl, KC⟩) W1).mono ?_
    rw [J3.out, J4.out, J5.out]
    rintro e wB ⟨vB, rfl, hoB, hbB⟩
    obtain ⟨AB, nB, cB, rfl, hsB⟩ := hoB.read
    have VCB := (hbB.block _ (lt_of_block VC)).trans VC
    have zCB := cell_of_one VCB
    go_wp2_with fail
    refine (aPath_any _ nb i wB (rep_Arena.2 ⟨_, _, _, rfl, Sl.call KC hbB⟩) hwi).mono ?_
    rw [J6.out, J7.out, J8.out]
    rintro e wC ⟨vC, rfl, hoC, hbC⟩
    obtain ⟨AC, nC, cC, rfl, hsC⟩ := hoC.sl (Nat.le_refl _) (Nat.le_refl _)
    have H9C := bel_call (bel_call hba hbB) hbC
    have hzB := (bel_call hba hbB).size
    have VCC := (hbC.block _ (lt_of_block VCB)).trans VCB
    have HBC := bel_call (bel_call HBA hbB) hbC
    have KCC := Sl.call (Sl.call KC hbB) hbC
    have hsBC := Sl.call hsB hbC
    have hc9 := hs9.cap
    clear zCB VCB VC KC hba HB9 HBA hs9 hbB hbC hoB hoC hsB
    have yAC := (HBC.cell (p := ⟨w.heap.size, 0, none⟩) hlv).trans yA
    have yCC := cell_of_one VCC
    have hlA := Nat.lt_of_lt_of_le hlv HBC.size
    have hlC := lt_of_block VCC
    have hz9 := HBC.size
    have hw3 : w.heap.size ≤ w3.heap.size := B3.size
    have hown : ∀ g, (Value.slice (some ⟨lb, lo, none⟩) (ys.length + 1) c6).ownBlock = some g → g = lb := fun g hg => by simpa [Value.ownBlock] using hg.symm
    have hge : w3.heap.size ≤ lb := ho4.ge (by simp [Value.ownBlock])
    have HOWN := hid hown
    clear hown
    have hneA : some w.heap.size ≠ (Value.slice (some ⟨lb, lo, none⟩) (ys.length + 1) c6).ownBlock := fun he => by have := HOWN.out _ he.symm; have := lt_of_block V3; omega
    have hneC : some w9.heap.size ≠ (Value.slice (some ⟨lb, lo, none⟩) (ys.length + 1) c6).ownBlock := fun he => by have := HOWN.out _ he.symm; omega
    have hup := fun W => run_uptoL (P := Try.prog) 22 39 .i64 Try.underlying22 Try.elemTerm Try.infoTerm A9 n9 c9 n0 (by have := hc9.1; omega) W
    have hii : (pk == pk) = true := by simp
    have hge9 : decide ((n0 : Int) ≤ (n9 : Int)) = true := by simp; omega
    have hge9' : decide (n0 ≤ n9) = true := by simp; omega
    have hg0 : (0 : Int) ≤ (n0 : Int) := by omega
    have hg1 : (n0 : Int) ≤ (c9 : Int) := by have := hc9.1; omega
    have HTT := J10.out
    rw [L0.out] at HTT
    have HKU := hid HTT
    have hlen1 : ((y :: ys).length + 1) * 24 ≤ 140737488355328 := by simp; omega
    have hlen2 : (y :: ys).length + 1 ≤ maxLen := by simp; unfold maxLen; omega
    have HNA := hid hneA
    have HNC := hid hneC
    clear hneA hneC hne hz6 hi0 hi1
    have HBCd : Below w4.heap.size w4 wC.drew := HBC.drew
    have PLd : Sl lay_Txt wC.drew (· < wC.drew.heap.size) (some ⟨lb, lo, none⟩) (ys.length + 1) c6 (y :: ys) := PL.out _ HBCd
    have hsBd : Sl lay_Txt wC.drew (· < wC.drew.heap.size) AB nB cB (y :: ys) := hsBC.drewN 1
    have HST := hid (sameTexts_any _ _ _ _ _ _ (y :: ys) (y :: ys) wC.drew PLd hsBd)
    rw [decide_eq_true rfl] at HST
    clear HTT yA hct t1 PLd hsBd HBCd
    go_wp2_with fail
    go_region_held3 (fun w' => w'.cell? ⟨w.heap.size, 0, none⟩ = some (.slice A0 n0 c0) ∧ w'.cell? ⟨w9.heap.size, 0, none⟩ = some (.slice A9 n9 c9)) (first | exact ⟨yAC, yCC⟩ | exact ⟨yAD, yCD⟩ | exact ⟨(World.cell?_alloc_past _ _ _ hlAD).trans yAD, (World.cell?_alloc_past _ _ _ hlCD).trans yCD⟩ | exact ⟨yAF, yCF⟩ | exact ⟨yAG, yCG⟩ | exact ⟨yAH, yCH⟩ | go_keep)
      (first
        | (go_at_call 24; (with_reducible refine HST.out.mono ?_); rintro e wD ⟨rfl, hbDx⟩; have hbD : Below wC.heap.size wC wD := (Below.refl wC.heap.size wC).drew.trans hbDx; have HBD := bel_call HBC hbD; have yAD := (hbD.cell (p := ⟨w.heap.size, 0, none⟩) hlA).trans yAC; have yCD := (hbD.cell (p := ⟨w9.heap.size, 0, none⟩) hlC).trans yCC; have hlAD := Nat.lt_of_lt_of_le hlA hbD.size; have hlCD := Nat.lt_of_lt_of_le hlC hbD.size; have HBE := bel_alloc HBD (.cells #[.slice A2 n2 c2] 26); have H9E := bel_alloc (bel_call H9C hbD) (.cells #[.slice A2 n2 c2] 26); have HCE := bel_alloc hbD (.cells #[.slice A2 n2 c2] 26))
        | (refine step_pushW (w := wD.alloc (.cells #[.slice A2 n2 c2] 26)) (by rfl) (.tmp 145) (.tmp 147) 30 (by rfl) w3.heap.size none 26 _ 24 Try.underlying30 Try.infoTxt rfl (by decide) (.slice (some ⟨lb, lo, none⟩) (ys.length + 1) c6) (y :: ys) x2 #[.slice A2 n2 c2] (· < w.heap.size) wD.heap.size (by rfl) (by rfl) (heap_alloc_new _ _) (ho4.loose.keep HBE) ⟨A2, n2, c2, rfl, P2s.out _ (bel_call B4 HBE)⟩ (fun b hb => ⟨trivial, Nat.lt_of_lt_of_le hb (bel_call B4 HBE).size, fun he => by have := HOWN.out _ he.symm; omega⟩) (Nat.le_trans hb4.size HBE.size) hlen1 hlen2 ?_; intro vF wF hoF hxF; obtain ⟨AF, nF, cF, rfl, hsF⟩ := hoF.read; have yAF := hxF.1.cell (a := ⟨w.heap.size, 0, none⟩) ((World.cell?_alloc_past _ _ _ hlAD).trans yAD) HNA.out; have yCF := hxF.1.cell (a := ⟨w9.heap.size, 0, none⟩) ((World.cell?_alloc_past _ _ _ hlCD).trans yCD) HNC.out; have BF : Below w.heap.size w wF := (bel_call B4 HBE).trans (((ho4.loose.keep HBE).below hxF (Nat.le_trans hb4.size HBE.size)).mono hw3); have hoCF : Sl lay_Txt wF (· < wF.heap.size) AC nC cC ((y :: ys) ++ [x2]) := (hsC.keep fun p hp => (World.cell?_of_block (hxF.1.block p.block (Nat.lt_of_lt_of_le hp.2.1 HCE.size) (fun he => by have := HOWN.out _ he.symm; have := hp.1; omega))).trans (HCE.cell hp.2.1)).wide fun b hb => Nat.lt_of_lt_of_le hb.2.1 (Nat.le_trans HCE.size hxF.size); have hcF : Sl lay_Term wF (· < wF.heap.size) A9 n9 c9 nb := (hs9F.keep fun p hp => (World.cell?_of_block (hxF.1.block p.block (Nat.lt_of_lt_of_le hp.2.1 H9E.size) (fun he => by have := HOWN.out _ he.symm; have := hp.1; omega))).trans (H9E.cell hp.2.1)).wide fun b hb => Nat.lt_of_lt_of_le hb.2.1 (Nat.le_trans H9E.size hxF.size); have hlAF := World.block_lt_of_cell? _ _ yAF; have hlCF := World.block_lt_of_cell? _ _ yCF; have HS2 := hid (sameTexts_any _ _ _ _ _ _ ((y :: ys) ++ [x2]) ((y :: ys) ++ [x2]) wF hoCF hsF); rw [decide_eq_true rfl] at HS2)
        | (go_at_call 24; (with_reducible refine HS2.out.mono ?_); rintro e wG ⟨rfl, hbG⟩; have yAG := (hbG.cell (p := ⟨w.heap.size, 0, none⟩) hlAF).trans yAF; have yCG := (hbG.cell (p := ⟨w9.heap.size, 0, none⟩) hlCF).trans yCF; have BG := bel_call BF hbG; have KU := (Sl.call hcF hbG).upto (i := n0) j9; rw [HKU.out] at KU; have hlAG := World.block_lt_of_cell? _ _ yAG; have hlCG := World.block_lt_of_cell? _ _ yCG)
        | (go_at_call 19; go_must (refine (aSame_any _ _ x0 x0 wG (rep_Arena.2 ⟨_, _, _, rfl, KU⟩) (P0.out _ BG)).mono ?_; rw [decide_eq_true rfl]; rintro e wH ⟨rfl, hbH⟩; have yAH := (hbH.cell (p := ⟨w.heap.size, 0, none⟩) hlAG).trans yAG; have yCH := (hbH.cell (p := ⟨w9.heap.size, 0, none⟩) hlCG).trans yCG)))
    go_wp2
    go_ret
    exact ⟨rfl, bel_call BG hbH⟩
end Go.Proofs.Ythcikbmekjmmlaa
