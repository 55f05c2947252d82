/-
  The contract of the document's Get of layer 7.
-/
import Derived.Test.YtgiapfenalhleaaPack1
import Derived.Test.YtgiapfenalhleaaPack2
import Derived.Test.YtgiapfenalhleaaPack3
import Derived.Test.YtgiapfenalhleaaPack4
import Derived.Test.YtgiapfenalhleaaPack5
import Derived.Test.YtgiapfenalhleaaPack6
import Derived.Test.YtgiapfenalhleaaPack7
import Derived.Test.YtgiapfenalhleaaPack8
import Derived.Test.YtgiapfenalhleaaPack9
import Derived.Test.YtgiapfenalhleaaPack10
import Derived.Test.YtgiapfenalhleaaPack11
import Derived.Test.YtgiapfenalhleaaPack12
import Derived.Test.YtgiapfenalhleaaPack13
import Derived.Test.YtgiapfenalhleaaPack14
import Derived.Test.YtgiapfenalhleaaPack15
import Derived.Test.YtgiapfenalhleaaPack16
import Derived.Test.YtgiapfenalhleaaPack17
import Derived.Test.YtgiapfenalhleaaPack18
import Derived.Test.YtgiapfenalhleaaPack19
import Derived.Test.YtgiapfenalhleaaPack20
import Derived.Test.YtgiapfenalhleaaPack21
import Derived.Test.YtgiapfenalhleaaPack22
import Derived.Test.YtgiapfenalhleaaPack23
import Derived.Test.YtgiapfenalhleaaPack24
import Derived.Test.YtgiapfenalhleaaPack25
import Derived.Test.YtgiapfenalhleaaPack26
import Derived.Test.YtgiapfenalhleaaPack27
import Derived.Test.YtgiapfenalhleaaPack28
import Derived.Test.YtgiapfenalhleaaPack29
namespace Go.Proofs.Ytgiapfenalhleaa
open Go.RowKit Go.WalkArith

theorem nV_bd {l : List Rec} {k : Int} (hm : MayBe l) (hw : ∀ r ∈ l, RecWf r) (h1 : fE l k = 0) (h2 : nE l k = 0) : 0 ≤ nV l k ∧ nV l k ≤ 18446744073709551615 := by
  have h3 := h1
  rw [fE_ok hm] at h3
  unfold foE at h3
  cases hf : findR l k with
  | none => rw [hf] at h3; simp at h3
  | some r =>
    obtain ⟨-, a2, a3⟩ := fE_hit hm hf
    rw [a2] at h2
    rw [a3]
    exact (num_back (hw r (List.mem_of_find?_eq_some hf)).2 h2).2

set_option maxRecDepth 100000 in
set_option maxHeartbeats 8000000 in
theorem refGetT_any (A : Option Addr) (n c : Nat) (xs : List Int) (w : World) (hr : Rd w w.heap.size .u8 A n c xs) :
    Calls Try.prog 28 #[.slice A n c] w fun e w' => ∃ vt, e = .returned (.tuple #[vt, .int .i64 (tgtE xs)]) ∧ OwnT w' w.heap.size vt (tgtT xs) ∧ Below w.heap.size w w' := by
  have hwb := wf_bytes hr.wf
  have hb0 : Below w.heap.size w (w.alloc (Obj.cells #[.int .u64 0, .slice none 0 0, .int .i64 0] 28)) := bel_alloc (Below.refl _ _) _
  have v0 : Var3 (w.alloc (Obj.cells #[.int .u64 0, .slice none 0 0, .int .i64 0] 28)) w.heap.size 28 (.int .u64 0) (.slice none 0 0) (.int .i64 0) := Var3.new _ _ _ _ _
  have hr0 := hr.kept hb0
  have HZW := hid (show (w.alloc (Obj.cells #[.int .u64 0, .slice none 0 0, .int .i64 0] 28)).heap.size = w.heap.size + 1 from by simp)
  obtain ⟨l, hl⟩ : ∃ z, (getR xs).1 = z := ⟨_, rfl⟩
  obtain ⟨e0, he0⟩ : ∃ z, (getR xs).2 = z := ⟨_, rfl⟩
  have HGE := hid he0
  have HGL := hid hl
  clear he0 hl
  go_enter Try.func28, Try.ntmps28
  go_wp2_with fail
  generalize w.alloc (Obj.cells #[.int .u64 0, .slice none 0 0, .int .i64 0] 28) = W0 at *
  refine (refGetR_any A n c xs W0 hr0).mono ?_
  rw [HGE.out, HGL.out]
  rintro e w1 ⟨v1, rfl, ho1, hb1⟩
  obtain ⟨A1, n1, c1, rfl, hs1⟩ := ho1.read
  clear ho1 hr hr0
  by_cases hz : e0 = 0
  rotate_left
  · have HE := hid (show tgtE xs = e0 from by unfold tgtE; rw [HGE.out]; exact if_pos hz)
    have HEZ := hid (tgt_err (xs := xs) (by rw [HE.out]; exact hz))
    have V := v0.call hb1
    have t0 := V.c0
    have t1 := V.c1
    have t2 := V.c2
    have f0 := V.f 0
    have f1 := V.f 1
    have f2 := V.f 2
    have V2' := hid (V.set (.int .u64 0) (.slice none 0 0) (.int .i64 0))
    have HBE := hid ((((bel_call hb0 hb1).setCell (p := ⟨w.heap.size, 0, none⟩) (Nat.le_refl _) (.int .u64 0)).setCell (p := ⟨w.heap.size, 1, none⟩) (Nat.le_refl _) (.slice none 0 0)).setCell (p := ⟨w.heap.size, 2, none⟩) (Nat.le_refl _) (.int .i64 0))
    clear V
    have hne : (e0 != 0) = true := by simpa using hz
    go_wp2
    refine bodyPost_ret_by (results_ct rfl _ _ w.heap.size 0 rfl [.int .u64 0, .slice none 0 0, .int .i64 0] _ (range3 V2'.out.c0 V2'.out.c1 V2'.out.c2) Try.underlying28 rfl (by kernel_rfl)) rfl ?_
    exact ⟨_, by rw [HE.out]; rfl, by rw [HEZ.out]; exact ⟨_, rfl, OwnL.nil _ _ _ _ _⟩, HBE.out⟩
  subst hz
  have hgr : getR xs = (l, 0) := by rw [← HGE.out, ← HGL.out]
  have HG := hid (show tgtE xs = rtE l ∧ tgtT xs = rtT l from by unfold tgtE tgtT; rw [hgr]; exact ⟨rfl, rfl⟩)
  obtain ⟨hmb, -, -, hrw⟩ := getR_back hwb hgr
  have HMB := hid hmb
  have HRW := hid hrw
  have HNL := hid hs1.len
  clear hgr hmb hrw hwb
  have hcap := hs1.cap
  unfold maxLen at hcap
  have RS := hid (fun (W : World) (h : Below w1.heap.size w1 W) => Sl.call hs1 h)
  have hba1 : Below w1.heap.size w1 (w1.alloc (Obj.cells #[.int .u64 1, .int .u64 2] 25)) := bel_alloc (Below.refl _ _) _
  have KL := hid (fun (W : World) (h : Below (w1.alloc (Obj.cells #[.int .u64 1, .int .u64 2] 25)).heap.size (w1.alloc (Obj.cells #[.int .u64 1, .int .u64 2] 25)) W) => (show W.cell? ⟨w1.heap.size, 0, none⟩ = some (.int .u64 1) ∧ W.cell? ⟨w1.heap.size, 1, none⟩ = some (.int .u64 2) from by
    have hh := (h.block w1.heap.size (by simp)).trans (heap_alloc_new w1 (Obj.cells #[.int .u64 1, .int .u64 2] 25))
    constructor <;> simp [World.cell?, hh]))
  clear hs1
  go_wp2
  generalize w1.alloc (Obj.cells #[.int .u64 1, .int .u64 2] 25) = W2 at *
  go_loopw [30] (fun i wr => ∃ j : Nat, j ≤ 2 ∧ i = .int .i64 j ∧ Hid (0 < j → fE l 1 = 0) ∧ Hid (1 < j → fE l 2 = 0) ∧ Below W2.heap.size W2 wr) (fun i _ => 2 - (intOf i).toNat)
  case atStart => exact ⟨0, by omega, rfl, hid fun h => absurd h (by omega), hid fun h => absurd h (by omega), Below.refl _ _⟩
  case round =>
  obtain ⟨j, hj, rfl, p1, p2, hbel⟩ := hrel
  rcases (show j = 0 ∨ j = 1 ∨ j = 2 by omega) with rfl | rfl | rfl
  · obtain ⟨k0, k1⟩ := KL.out wr hbel
    obtain ⟨fe, hfe⟩ : ∃ z, fE l 1 = z := ⟨_, rfl⟩
    have HF := hid (refFind_any A1 n1 c1 l 1 wr (RS.out _ (bel_call hba1 hbel)))
    rw [hfe] at HF
    have FE := hid hfe
    clear hfe
    go_wp2_with fail
    refine HF.out.mono ?_
    rintro e w5 ⟨v5, rfl, -, hb5⟩
    clear k0 k1 HF
    have HB5 := bel_call hb1 (bel_call hba1 (bel_call hbel hb5))
    by_cases hz : fe = 0
    · subst hz
      go_wp2
      go_roundw
      case rel => exact ⟨1, by omega, by go_num, hid fun _ => FE.out, hid fun h => absurd h (by omega), bel_call hbel hb5⟩
      case measure => simp [intOf]
    · have HE := hid (show tgtE xs = 5 from by rw [HG.out.1]; exact rt0 (.inl (by rw [FE.out]; exact hz)))
      have HEZ := hid (tgt_err (xs := xs) (by rw [HE.out]; decide))
      have V := v0.call HB5
      have t0 := V.c0
      have t1 := V.c1
      have t2 := V.c2
      have f0 := V.f 0
      have f1 := V.f 1
      have f2 := V.f 2
      have V2' := hid (V.set (.int .u64 0) (.slice none 0 0) (.int .i64 0))
      have HBE := hid ((((bel_call hb0 HB5).setCell (p := ⟨w.heap.size, 0, none⟩) (Nat.le_refl _) (.int .u64 0)).setCell (p := ⟨w.heap.size, 1, none⟩) (Nat.le_refl _) (.slice none 0 0)).setCell (p := ⟨w.heap.size, 2, none⟩) (Nat.le_refl _) (.int .i64 0))
      clear V
      have hne : (fe != 0) = true := by simpa using hz
      go_wp2
      refine bodyPost_ret_by (results_ct rfl _ _ w.heap.size 0 rfl [.int .u64 0, .slice none 0 0, .int .i64 0] _ (range3 V2'.out.c0 V2'.out.c1 V2'.out.c2) Try.underlying28 rfl (by kernel_rfl)) rfl ?_
      exact ⟨_, by rw [HE.out]; rfl, by rw [HEZ.out]; exact ⟨_, rfl, OwnL.nil _ _ _ _ _⟩, HBE.out⟩
  · obtain ⟨k0, k1⟩ := KL.out wr hbel
    obtain ⟨fe, hfe⟩ : ∃ z, fE l 2 = z := ⟨_, rfl⟩
    have HF := hid (refFind_any A1 n1 c1 l 2 wr (RS.out _ (bel_call hba1 hbel)))
    rw [hfe] at HF
    have FE := hid hfe
    clear hfe
    go_wp2_with fail
    refine HF.out.mono ?_
    rintro e w5 ⟨v5, rfl, -, hb5⟩
    clear k0 k1 HF
    have HB5 := bel_call hb1 (bel_call hba1 (bel_call hbel hb5))
    by_cases hz : fe = 0
    · subst hz
      go_wp2
      go_roundw
      case rel => exact ⟨2, by omega, by go_num, hid fun _ => p1.out (by omega), hid fun _ => FE.out, bel_call hbel hb5⟩
      case measure => simp [intOf]
    · have HE := hid (show tgtE xs = 5 from by rw [HG.out.1]; exact rt0 (.inr (by rw [FE.out]; exact hz)))
      have HEZ := hid (tgt_err (xs := xs) (by rw [HE.out]; decide))
      have V := v0.call HB5
      have t0 := V.c0
      have t1 := V.c1
      have t2 := V.c2
      have f0 := V.f 0
      have f1 := V.f 1
      have f2 := V.f 2
      have V2' := hid (V.set (.int .u64 0) (.slice none 0 0) (.int .i64 0))
      have HBE := hid ((((bel_call hb0 HB5).setCell (p := ⟨w.heap.size, 0, none⟩) (Nat.le_refl _) (.int .u64 0)).setCell (p := ⟨w.heap.size, 1, none⟩) (Nat.le_refl _) (.slice none 0 0)).setCell (p := ⟨w.heap.size, 2, none⟩) (Nat.le_refl _) (.int .i64 0))
      clear V
      have hne : (fe != 0) = true := by simpa using hz
      go_wp2
      refine bodyPost_ret_by (results_ct rfl _ _ w.heap.size 0 rfl [.int .u64 0, .slice none 0 0, .int .i64 0] _ (range3 V2'.out.c0 V2'.out.c1 V2'.out.c2) Try.underlying28 rfl (by kernel_rfl)) rfl ?_
      exact ⟨_, by rw [HE.out]; rfl, by rw [HEZ.out]; exact ⟨_, rfl, OwnL.nil _ _ _ _ _⟩, HBE.out⟩
  have F1 := hid (p1.out (by omega))
  have F2 := hid (p2.out (by omega))
  have HBR := bel_call hba1 hbel
  clear p1 p2 hbel hba1 KL hj
  obtain ⟨ne1, hne1⟩ : ∃ z, nE l 1 = z := ⟨_, rfl⟩
  obtain ⟨nv1, hnv1⟩ : ∃ z, nV l 1 = z := ⟨_, rfl⟩
  have HN := hid (refNumber_any A1 n1 c1 l 1 wr (RS.out _ HBR))
  rw [hne1, hnv1] at HN
  have NE1 := hid hne1
  have NV1 := hid hnv1
  clear hne1 hnv1
  go_wp2_with fail
  refine HN.out.mono ?_
  rintro e w6 ⟨rfl, hb6⟩
  replace HBR := bel_call HBR hb6
  clear HN hb6
  by_cases hz1 : ne1 = 0
  rotate_left
  · have HE := hid (show tgtE xs = ne1 from by rw [HG.out.1, rt1 F1.out F2.out (by rw [NE1.out]; exact hz1), NE1.out])
    have HEZ := hid (tgt_err (xs := xs) (by rw [HE.out]; exact hz1))
    have V := v0.call (bel_call hb1 HBR)
    have t0 := V.c0
    have t1 := V.c1
    have t2 := V.c2
    have f0 := V.f 0
    have f1 := V.f 1
    have f2 := V.f 2
    have V2' := hid (V.set (.int .u64 0) (.slice none 0 0) (.int .i64 0))
    have HBE := hid ((((bel_call hb0 (bel_call hb1 HBR)).setCell (p := ⟨w.heap.size, 0, none⟩) (Nat.le_refl _) (.int .u64 0)).setCell (p := ⟨w.heap.size, 1, none⟩) (Nat.le_refl _) (.slice none 0 0)).setCell (p := ⟨w.heap.size, 2, none⟩) (Nat.le_refl _) (.int .i64 0))
    clear V
    have hne : (ne1 != 0) = true := by simpa using hz1
    go_wp2
    refine bodyPost_ret_by (results_ct rfl _ _ w.heap.size 0 rfl [.int .u64 0, .slice none 0 0, .int .i64 0] _ (range3 V2'.out.c0 V2'.out.c1 V2'.out.c2) Try.underlying28 rfl (by kernel_rfl)) rfl ?_
    exact ⟨_, by rw [HE.out]; rfl, by rw [HEZ.out]; exact ⟨_, rfl, OwnL.nil _ _ _ _ _⟩, HBE.out⟩
  subst hz1
  obtain ⟨ne2, hne2⟩ : ∃ z, nE l 2 = z := ⟨_, rfl⟩
  obtain ⟨nv2, hnv2⟩ : ∃ z, nV l 2 = z := ⟨_, rfl⟩
  have HN := hid (refNumber_any A1 n1 c1 l 2 w6 (RS.out _ HBR))
  rw [hne2, hnv2] at HN
  have NE2 := hid hne2
  have NV2 := hid hnv2
  clear hne2 hnv2
  go_wp2_with fail
  refine HN.out.mono ?_
  rintro e w7 ⟨rfl, hb6⟩
  replace HBR := bel_call HBR hb6
  clear HN hb6
  by_cases hz2 : ne2 = 0
  rotate_left
  · have HE := hid (show tgtE xs = ne2 from by rw [HG.out.1, rt2 F1.out F2.out NE1.out (by rw [NE2.out]; exact hz2), NE2.out])
    have HEZ := hid (tgt_err (xs := xs) (by rw [HE.out]; exact hz2))
    have V := v0.call (bel_call hb1 HBR)
    have t0 := V.c0
    have t1 := V.c1
    have t2 := V.c2
    have f0 := V.f 0
    have f1 := V.f 1
    have f2 := V.f 2
    have V2' := hid (V.set (.int .u64 0) (.slice none 0 0) (.int .i64 0))
    have HBE := hid ((((bel_call hb0 (bel_call hb1 HBR)).setCell (p := ⟨w.heap.size, 0, none⟩) (Nat.le_refl _) (.int .u64 0)).setCell (p := ⟨w.heap.size, 1, none⟩) (Nat.le_refl _) (.slice none 0 0)).setCell (p := ⟨w.heap.size, 2, none⟩) (Nat.le_refl _) (.int .i64 0))
    clear V
    have hne : (ne2 != 0) = true := by simpa using hz2
    go_wp2
    refine bodyPost_ret_by (results_ct rfl _ _ w.heap.size 0 rfl [.int .u64 0, .slice none 0 0, .int .i64 0] _ (range3 V2'.out.c0 V2'.out.c1 V2'.out.c2) Try.underlying28 rfl (by kernel_rfl)) rfl ?_
    exact ⟨_, by rw [HE.out]; rfl, by rw [HEZ.out]; exact ⟨_, rfl, OwnL.nil _ _ _ _ _⟩, HBE.out⟩
  subst hz2
  have hl2 : 2 ≤ n1 := by rw [← HNL.out]; exact rt_two HMB.out F1.out F2.out
  have hnb : 0 ≤ nv2 := by rw [← NV2.out]; exact (nV_bd HMB.out HRW.out F2.out NE2.out).1
  by_cases q1 : 1048576 < nv2
  · have HE := hid (show tgtE xs = 2 from by rw [HG.out.1]; exact rt3 F1.out F2.out NE1.out NE2.out (.inl (by rw [NV2.out]; exact q1)))
    have HEZ := hid (tgt_err (xs := xs) (by rw [HE.out]; decide))
    have V := v0.call (bel_call hb1 HBR)
    have t0 := V.c0
    have t1 := V.c1
    have t2 := V.c2
    have f0 := V.f 0
    have f1 := V.f 1
    have f2 := V.f 2
    have V2' := hid (V.set (.int .u64 0) (.slice none 0 0) (.int .i64 0))
    have HBE := hid ((((bel_call hb0 (bel_call hb1 HBR)).setCell (p := ⟨w.heap.size, 0, none⟩) (Nat.le_refl _) (.int .u64 0)).setCell (p := ⟨w.heap.size, 1, none⟩) (Nat.le_refl _) (.slice none 0 0)).setCell (p := ⟨w.heap.size, 2, none⟩) (Nat.le_refl _) (.int .i64 0))
    clear V
    have d1 : decide (1048576 < nv2) = true := decide_eq_true q1
    go_wp2
    refine bodyPost_ret_by (results_ct rfl _ _ w.heap.size 0 rfl [.int .u64 0, .slice none 0 0, .int .i64 0] _ (range3 V2'.out.c0 V2'.out.c1 V2'.out.c2) Try.underlying28 rfl (by kernel_rfl)) rfl ?_
    exact ⟨_, by rw [HE.out]; rfl, by rw [HEZ.out]; exact ⟨_, rfl, OwnL.nil _ _ _ _ _⟩, HBE.out⟩
  have d1 : decide (1048576 < nv2) = false := decide_eq_false q1
  by_cases q2 : 18 < n1
  · have HE := hid (show tgtE xs = 2 from by rw [HG.out.1]; exact rt3 F1.out F2.out NE1.out NE2.out (.inr (by rw [HNL.out]; exact q2)))
    have HEZ := hid (tgt_err (xs := xs) (by rw [HE.out]; decide))
    have V := v0.call (bel_call hb1 HBR)
    have t0 := V.c0
    have t1 := V.c1
    have t2 := V.c2
    have f0 := V.f 0
    have f1 := V.f 1
    have f2 := V.f 2
    have V2' := hid (V.set (.int .u64 0) (.slice none 0 0) (.int .i64 0))
    have HBE := hid ((((bel_call hb0 (bel_call hb1 HBR)).setCell (p := ⟨w.heap.size, 0, none⟩) (Nat.le_refl _) (.int .u64 0)).setCell (p := ⟨w.heap.size, 1, none⟩) (Nat.le_refl _) (.slice none 0 0)).setCell (p := ⟨w.heap.size, 2, none⟩) (Nat.le_refl _) (.int .i64 0))
    clear V
    have d2 : decide ((18 : Int) < (n1 : Int)) = true := decide_eq_true (by omega)
    go_wp2
    refine bodyPost_ret_by (results_ct rfl _ _ w.heap.size 0 rfl [.int .u64 0, .slice none 0 0, .int .i64 0] _ (range3 V2'.out.c0 V2'.out.c1 V2'.out.c2) Try.underlying28 rfl (by kernel_rfl)) rfl ?_
    exact ⟨_, by rw [HE.out]; rfl, by rw [HEZ.out]; exact ⟨_, rfl, OwnL.nil _ _ _ _ _⟩, HBE.out⟩
  have d2 : decide ((18 : Int) < (n1 : Int)) = false := decide_eq_false (by omega)
  have Q5 := hid (show ¬ (1048576 < nV l 2 ∨ 18 < l.length) from by rw [NV2.out, HNL.out]; omega)
  have hcut : ∀ W : World, (Instr.slice 81 (.slice A1 n1 c1) (some (.int .i64 2)) none none).run Try.prog W = .ok (.slice (cutS 2 A1 c1 2) (n1 - 2) (c1 - 2)) W := fun W => run_fromL (P := Try.prog) 81 83 .i64 Try.underlying81 (by kernel_rfl) Try.infoRec A1 n1 c1 2 hl2 W
  have RS2 := hid (fun (W : World) (h : Below w1.heap.size w1 W) => (show Sl lay_Record W (· < W.heap.size) (cutS 2 A1 c1 2) (n1 - 2) (c1 - 2) (l.drop 2) from (RS.out W h).cut hl2))
  obtain ⟨L, hL⟩ : ∃ z, l.drop 2 = z := ⟨_, rfl⟩
  obtain ⟨A2, hA2⟩ : ∃ z, cutS 2 A1 c1 2 = z := ⟨_, rfl⟩
  obtain ⟨m, hm⟩ : ∃ z, n1 - 2 = z := ⟨_, rfl⟩
  obtain ⟨c2, hc2⟩ : ∃ z, c1 - 2 = z := ⟨_, rfl⟩
  rw [hA2, hm, hc2] at hcut
  rw [hA2, hm, hc2, hL] at RS2
  have hm18 : m ≤ 16 := by omega
  have HLD := hid hL
  have HML := hid (RS2.out _ HBR).len
  have HSM := hid (fun (r : Rec) (h : r ∈ L) => (show r.V.length ≤ 4096 ∧ ∀ x ∈ r.V, 0 ≤ x ∧ x ≤ 255 from by
    have hrl : r ∈ l := List.mem_of_mem_drop (by rw [hL]; exact h)
    exact ⟨HMB.out.small r hrl, (HRW.out r hrl).2⟩))
  clear hL hA2 hc2 hm
  go_wp2
  go_loopw [73] (fun i wq => ∃ j : Nat, j ≤ m ∧ i = .int .i64 j ∧ Hid (∀ (i : Nat) (h : i < L.length), i < j → L[i].T = 16 + (i : Int)) ∧ Below w7.heap.size w7 wq) (fun i _ => m - (intOf i).toNat)
  case atStart => exact ⟨0, Nat.zero_le _, rfl, hid fun i h hi => absurd hi (by omega), Below.refl _ _⟩
  case round =>
  obtain ⟨j, hj, rfl, hnum, hbel⟩ := hrel
  have HBQ := bel_call HBR hbel
  by_cases hlt : j < m
  · obtain ⟨b1, o1, A', n', c', hx1, rfl, hb9, t1', t2', hTb, hV⟩ := rec_at (RS2.out _ HBQ) hlt
    have hw1 : IntKind.i64.wrap (16 + (j : Int)) = 16 + (j : Int) := IntWalk.i64_in _ (by omega)
    have hw2 : IntKind.u64.wrap (16 + (j : Int)) = 16 + (j : Int) := IntWalk.u64_in _ (by omega)
    have hba := bel_alloc hbel (Obj.cells #[.int .u64 L[j].T, .slice A' n' c'] 83)
    have HBX := bel_call HBR hba
    clear hV
    by_cases hT : L[j].T = 16 + (j : Int)
    · have dT : (L[j].T != 16 + (j : Int)) = false := by simpa using hT
      have HT := hid (show ∀ (i : Nat) (h : i < L.length), i < j + 1 → L[i].T = 16 + (i : Int) from fun i h hi => by
        by_cases k : i < j
        · exact hnum.out i h k
        · have : i = j := by omega
          subst this; exact hT)
      clear hT
      go_wp2
      go_roundw
      case rel => exact ⟨j + 1, by omega, by go_num, HT, hba⟩
      case measure => simp [intOf]; omega
    · have HE := hid (show tgtE xs = 2 from by rw [HG.out.1]; exact rt4 F1.out F2.out NE1.out NE2.out Q5.out (by rw [HLD.out]; exact fun k => hT (k j hx1)))
      have HEZ := hid (tgt_err (xs := xs) (by rw [HE.out]; decide))
      have V := v0.call (bel_call hb1 HBX)
      have t0 := V.c0
      have t1 := V.c1
      have t2 := V.c2
      have f0 := V.f 0
      have f1 := V.f 1
      have f2 := V.f 2
      have V2' := hid (V.set (.int .u64 0) (.slice none 0 0) (.int .i64 0))
      have HBE := hid ((((bel_call hb0 (bel_call hb1 HBX)).setCell (p := ⟨w.heap.size, 0, none⟩) (Nat.le_refl _) (.int .u64 0)).setCell (p := ⟨w.heap.size, 1, none⟩) (Nat.le_refl _) (.slice none 0 0)).setCell (p := ⟨w.heap.size, 2, none⟩) (Nat.le_refl _) (.int .i64 0))
      clear V
      have dT : (L[j].T != 16 + (j : Int)) = true := by simpa using hT
      clear hT
      go_wp2
      refine bodyPost_ret_by (results_ct rfl _ _ w.heap.size 0 rfl [.int .u64 0, .slice none 0 0, .int .i64 0] _ (range3 V2'.out.c0 V2'.out.c1 V2'.out.c2) Try.underlying28 rfl (by kernel_rfl)) rfl ?_
      exact ⟨_, by rw [HE.out]; rfl, by rw [HEZ.out]; exact ⟨_, rfl, OwnL.nil _ _ _ _ _⟩, HBE.out⟩
  have HNU := hid (show NumOk (l.drop 2) from by rw [HLD.out]; exact fun i h => hnum.out i h (by rw [HML.out] at h; omega))
  clear hnum hbel
  obtain ⟨b0, o0, A0, n0, c0, hx0, hAq, hbq, s1, s2, -, -⟩ := rec_at (RS.out _ HBQ) (j := 0) (by omega)
  subst hAq
  simp only [Nat.zero_mul, Nat.add_zero] at s1 s2
  by_cases h1 : l[0].T = 1
  rotate_left
  · have HE := hid (show tgtE xs = 2 from by rw [HG.out.1]; exact rt5 F1.out F2.out NE1.out NE2.out Q5.out HNU.out (by rw [List.getElem?_eq_getElem hx0]; simpa using h1))
    have HEZ := hid (tgt_err (xs := xs) (by rw [HE.out]; decide))
    have V := v0.call (bel_call hb1 HBQ)
    have t0 := V.c0
    have t1 := V.c1
    have t2 := V.c2
    have f0 := V.f 0
    have f1 := V.f 1
    have f2 := V.f 2
    have V2' := hid (V.set (.int .u64 0) (.slice none 0 0) (.int .i64 0))
    have HBE := hid ((((bel_call hb0 (bel_call hb1 HBQ)).setCell (p := ⟨w.heap.size, 0, none⟩) (Nat.le_refl _) (.int .u64 0)).setCell (p := ⟨w.heap.size, 1, none⟩) (Nat.le_refl _) (.slice none 0 0)).setCell (p := ⟨w.heap.size, 2, none⟩) (Nat.le_refl _) (.int .i64 0))
    clear V
    have dT : (l[0].T != 1) = true := by simpa using h1
    clear h1
    go_wp2
    refine bodyPost_ret_by (results_ct rfl _ _ w.heap.size 0 rfl [.int .u64 0, .slice none 0 0, .int .i64 0] _ (range3 V2'.out.c0 V2'.out.c1 V2'.out.c2) Try.underlying28 rfl (by kernel_rfl)) rfl ?_
    exact ⟨_, by rw [HE.out]; rfl, by rw [HEZ.out]; exact ⟨_, rfl, OwnL.nil _ _ _ _ _⟩, HBE.out⟩
  have dT : (l[0].T != 1) = false := by simpa using h1
  have HR6 := hid (show tgtE xs = csE L from by rw [HG.out.1, rt6 F1.out F2.out NE1.out NE2.out Q5.out HNU.out (by rw [List.getElem?_eq_getElem hx0]; simpa using h1), HLD.out])
  clear h1
  obtain ⟨wq, hwq⟩ : ∃ z, z = wr := ⟨_, rfl⟩
  subst hwq
  have hwv : IntKind.i64.wrap nv2 = nv2 := IntWalk.i64_in _ (by omega)
  have VO := Var3.new wq 28 (.int .u64 nv1) (.slice none 0 0) (.int .i64 nv2)
  have hbo := bel_alloc (Below.refl wq.heap.size wq) (Obj.cells #[.int .u64 nv1, .slice none 0 0, .int .i64 nv2] 28)
  have HZ3 := hid (show (wq.alloc (Obj.cells #[.int .u64 nv1, .slice none 0 0, .int .i64 nv2] 28)).heap.size = wq.heap.size + 1 from by simp)
  go_wp2
  generalize wq.alloc (Obj.cells #[.int .u64 nv1, .slice none 0 0, .int .i64 nv2] 28) = W3 at *
  have hzq := HBQ.size
  have hz01 := hb1.size
  go_loopw [99] (fun i ws => ∃ (j : Nat) (tv : Value), j ≤ m ∧ i = .int .i64 j ∧ Var3 ws wq.heap.size 28 (.int .u64 nv1) tv (.int .i64 nv2) ∧ OwnL lay_Caveat ws W3.heap.size (some W3.heap.size) 30 tv (csL (L.take j)) ∧ Hid (csE (L.drop j) = csE L) ∧ Below wq.heap.size wq ws) (fun i _ => m - (intOf i).toNat)
  case atStart => exact ⟨0, _, Nat.zero_le _, rfl, VO, OwnL.nil _ _ _ _ _, hid rfl, hbo⟩
  case round =>
  clear VO s1 s2
  obtain ⟨j, tv, hj, rfl, VO, hown, hce, hbel⟩ := hrel
  have HBS := bel_call HBQ hbel
  by_cases hlt : j < m
  · obtain ⟨b1, o1, A', n', c', hx1, rfl, hb9, t1', t2', hTb, hV⟩ := rec_at (RS2.out _ HBS) hlt
    have hsm := HSM.out L[j] (List.getElem_mem hx1)
    have hnl := hV.len
    have hrd := (hV.rd (B := wr.heap.size) fun _ h => h).kept (bel_alloc (Below.refl _ _) (Obj.cells #[.int .u64 L[j].T, .slice A' n' c'] 83))
    have hba := bel_alloc (Below.refl wr.heap.size wr) (Obj.cells #[.int .u64 L[j].T, .slice A' n' c'] 83)
    obtain ⟨d, hd⟩ : ∃ z, (getC L[j].V).1 = z := ⟨_, rfl⟩
    obtain ⟨ge, hge⟩ : ∃ z, (getC L[j].V).2 = z := ⟨_, rfl⟩
    have hdw : CavWf d := by rw [← hd]; exact getC_ok_wf hsm.2
    have HGC := hid (refGetC_any A' n' c' L[j].V _ hrd (by omega))
    rw [hd, hge, show cavV d = .agg #[.int .i64 d.Kind, .int .u64 d.A, .int .u64 d.B] from rfl] at HGC
    have HCE := hid (csE_step hx1)
    have HCL := hid (csL_take hx1)
    rw [hge] at HCE
    rw [hd] at HCL
    have hal : (csL (L.take j)).length ≤ 16 := by unfold csL; simp; omega
    have hlen1 : ((csL (L.take j)).length + 1) * 24 ≤ 140737488355328 := by omega
    have hlen2 : (csL (L.take j)).length + 1 ≤ maxLen := by unfold maxLen; omega
    clear hV hsm hnl hrd hd hge hal
    go_wp2_with fail
    refine HGC.out.mono ?_
    rintro e w9 ⟨rfl, hb9'⟩
    have hb10 := bel_alloc (bel_call hba hb9') (Obj.cells #[.int .i64 d.Kind, .int .u64 d.A, .int .u64 d.B] 30)
    have HBT := bel_call HBS hb10
    have hz10 := hb10.size
    have hzr := hbel.size
    clear hba hb9' HGC t1' t2'
    by_cases hz : ge = 0
    rotate_left
    · have HE := hid (show tgtE xs = ge from by rw [HR6.out, ← hce.out, HCE.out]; exact if_pos hz)
      have HEZ := hid (tgt_err (xs := xs) (by rw [HE.out]; exact hz))
      have V := v0.call (bel_call hb1 HBT)
      have t0 := V.c0
      have t1 := V.c1
      have t2 := V.c2
      have f0 := V.f 0
      have f1 := V.f 1
      have f2 := V.f 2
      have V2' := hid (V.set (.int .u64 0) (.slice none 0 0) (.int .i64 0))
      have HBE := hid ((((bel_call hb0 (bel_call hb1 HBT)).setCell (p := ⟨w.heap.size, 0, none⟩) (Nat.le_refl _) (.int .u64 0)).setCell (p := ⟨w.heap.size, 1, none⟩) (Nat.le_refl _) (.slice none 0 0)).setCell (p := ⟨w.heap.size, 2, none⟩) (Nat.le_refl _) (.int .i64 0))
      clear V
      have hne : (ge != 0) = true := by simpa using hz
      go_wp2
      refine bodyPost_ret_by (results_ct rfl _ _ w.heap.size 0 rfl [.int .u64 0, .slice none 0 0, .int .i64 0] _ (range3 V2'.out.c0 V2'.out.c1 V2'.out.c2) Try.underlying28 rfl (by kernel_rfl)) rfl ?_
      exact ⟨_, by rw [HE.out]; rfl, by rw [HEZ.out]; exact ⟨_, rfl, OwnL.nil _ _ _ _ _⟩, HBE.out⟩
    subst hz
    have VO6 := VO.call hb10
    have o1' := VO6.c1
    have ho6 := hown.keep hb10
    have z3 := HZ3.out
    have vlt := VO.lt
    have HSZ := hid (show w9.heap.size + 1 = (w9.alloc (Obj.cells #[.int .i64 d.Kind, .int .u64 d.A, .int .u64 d.B] 30)).heap.size from by simp)
    go_wp2_with (at_builtin; go_must (refine wpList_pushL (w := w9.alloc (Obj.cells #[.int .i64 d.Kind, .int .u64 d.A, .int .u64 d.B] 30)) rfl (.tmp 114) (.tmp 116) 26 rfl W3.heap.size (some W3.heap.size) 30 _ 24 Try.underlying26 Try.infoCav7 rfl (by decide) tv (csL (L.take j)) d #[.int .i64 d.Kind, .int .u64 d.A, .int .u64 d.B] (fun _ => False) rfl (congrArg (fun z => Value.slice (some ⟨z, 0, none⟩) 1 1) HSZ.out) ho6 (rep_Caveat.2 ⟨rfl, hdw⟩) (fun b hb => hb.elim) (by omega) hlen1 hlen2 ?_; intro v7 w11 ho7 hx7; have hb7 : Below W3.heap.size (w9.alloc (Obj.cells #[.int .i64 d.Kind, .int .u64 d.A, .int .u64 d.B] 30)) w11 := ho6.below hx7 (by omega); have VO7 := VO6.keep hb7 (by omega); have o7 := VO7.c1; have f7 := VO7.f 1; obtain ⟨A9, n9, c9, rfl, hs9⟩ := ho7.read; clear hs9))
    go_roundw
    case rel => exact ⟨j + 1, _, by omega, by go_num, VO7.set1 _, by rw [HCL.out]; exact ho7.setLow (by omega) (by omega) 1 _, hid (by rw [← hce.out, HCE.out]; rfl), ((bel_call hbel hb10).trans (hb7.mono (by omega))).setCell (p := ⟨wq.heap.size, 1, none⟩) (Nat.le_refl _) _⟩
    case measure => simp [intOf]; omega
  have HLT := hid (show L.take j = L ∧ csE L = 0 from ⟨List.take_of_length_le (by rw [HML.out]; omega), by rw [← hce.out, List.drop_eq_nil_of_le (by rw [HML.out]; omega)]; rfl⟩)
  rw [HLT.out.1] at hown
  obtain ⟨A5, n5, c5, rfl, -⟩ := hown.read
  have HTT := hid (show tgtE xs = 0 ∧ tgtT xs = ⟨nv1, csL L, nv2⟩ from by
    have e0 : tgtE xs = 0 := by rw [HR6.out]; exact HLT.out.2
    refine ⟨e0, ?_⟩
    rw [HG.out.2, rt_ok (by rw [← HG.out.1]; exact e0), NV1.out, NV2.out, HLD.out])
  have HBU := bel_call hb1 HBS
  have g0 := VO.c0
  have g1 := VO.c1
  have g2 := VO.c2
  have V := v0.call HBU
  have t0 := V.c0
  have t1 := V.c1
  have t2 := V.c2
  have f0 := V.f 0
  have f1 := V.f 1
  have f2 := V.f 2
  have z3 := HZ3.out
  have zw := HZW.out
  have V2' := hid (V.set (.int .u64 nv1) (.slice A5 n5 c5) (.int .i64 nv2))
  have HBE := hid ((((bel_call hb0 HBU).setCell (p := ⟨w.heap.size, 0, none⟩) (Nat.le_refl _) (.int .u64 nv1)).setCell (p := ⟨w.heap.size, 1, none⟩) (Nat.le_refl _) (.slice A5 n5 c5)).setCell (p := ⟨w.heap.size, 2, none⟩) (Nat.le_refl _) (.int .i64 nv2))
  have HO := hid ((((hown.setLow (b := w.heap.size) (by omega) (by omega) 0 (.int .u64 nv1)).setLow (b := w.heap.size) (by omega) (by omega) 1 (.slice A5 n5 c5)).setLow (b := w.heap.size) (by omega) (by omega) 2 (.int .i64 nv2)).lows (base' := w.heap.size) (lo' := w.heap.size) (by omega) (by omega))
  clear V z3 zw VO hown
  go_wp2
  refine bodyPost_ret_by (results_ct rfl _ _ w.heap.size 0 rfl [.int .u64 nv1, .slice A5 n5 c5, .int .i64 nv2] _ (range3 V2'.out.c0 V2'.out.c1 V2'.out.c2) Try.underlying28 rfl (by kernel_rfl)) rfl ?_
  exact ⟨_, by rw [HTT.out.1]; rfl, by rw [HTT.out.2]; exact ⟨_, rfl, HO.out⟩, HBE.out⟩
end Go.Proofs.Ytgiapfenalhleaa
