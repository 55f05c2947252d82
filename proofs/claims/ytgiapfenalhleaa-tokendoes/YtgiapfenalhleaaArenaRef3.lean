/-
  The contract of the document's Copy.
-/
import Derived.Test.YtgiapfenalhleaaArenaRef2
import Derived.Test.YtgiapfenalhleaaRet
import Derived.Deep.RegionHeld3
import Derived.Test.YtgiapfenalhleaaPhase
import Derived.Test.YtgiapfenalhleaaOwn3
namespace Go.Proofs.Ytgiapfenalhleaa
open Go.RowKit Go.WalkArith

theorem Try.infoTerm : (Try.prog.info? 62).map (fun i => (i.zero, i.size, i.bytes)) = some (some (.agg #[.int .u64 0, .int .i64 0, .slice none 0 0]), lay_Term.size, 40) := by kernel_rfl
theorem Try.elemTerm : Try.prog.elem 22 = 62 := by kernel_rfl

set_option maxRecDepth 100000 in
set_option maxHeartbeats 2000000 in
theorem refCopy_any (s : Array Value) (l : List Trm) (w : World) (g : lay_Arena.rep w (· < w.heap.size) l s.toList) (hl : l.length ≤ 1048576) (hs : ∀ x ∈ l, x.Text.length ≤ 4096) :
    Calls Try.prog 12 #[.agg s] w fun e w' => ∃ v', e = .returned (.agg #[v']) ∧ OwnL lay_Term w' w.heap.size (some w.heap.size) 62 v' l ∧ Below w.heap.size w w' := by
  obtain ⟨A, n, c, rfl, h⟩ := agg_Arena g
  clear g
  have HL := hid h.len
  have hcap := h.cap
  unfold maxLen at hcap
  have hn : n ≤ 1048576 := by rw [← HL.out]; exact hl
  have HSH := hid hs
  clear hl hs
  go_enter Try.func12, Try.ntmps12
  go_wp2
  have hx0 := heap_alloc_new w (Obj.cells #[.slice A n c] 24)
  have hz3 : (((w.alloc (Obj.cells #[.slice A n c] 24)).alloc (Obj.cells #[.slice none 0 0] 24)).alloc (Obj.cells #[.slice none 0 0] 24)).heap.size = w.heap.size + 3 := by simp
  have hv1 : (((w.alloc (Obj.cells #[.slice A n c] 24)).alloc (Obj.cells #[.slice none 0 0] 24)).alloc (Obj.cells #[.slice none 0 0] 24)).heap[w.heap.size + 1]? = some (Obj.cells #[.slice none 0 0] 24 (0, 0)) := by
    rw [heap_alloc_old _ _ (by simp)]
    exact heap_alloc2_new _ _ _
  have hv2 : (((w.alloc (Obj.cells #[.slice A n c] 24)).alloc (Obj.cells #[.slice none 0 0] 24)).alloc (Obj.cells #[.slice none 0 0] 24)).heap[w.heap.size + 1 + 1]? = some (Obj.cells #[.slice none 0 0] 24 (0, 0)) :=
    heap_alloc2_new (w.alloc (Obj.cells #[.slice A n c] 24)) _ _ |> fun h => by simpa using h
  have hb0 : Below w.heap.size w (((w.alloc (Obj.cells #[.slice A n c] 24)).alloc (Obj.cells #[.slice none 0 0] 24)).alloc (Obj.cells #[.slice none 0 0] 24)) := bel_alloc (bel_alloc (bel_alloc (Below.refl _ _) _) _) _
  generalize ((w.alloc (Obj.cells #[.slice A n c] 24)).alloc (Obj.cells #[.slice none 0 0] 24)).alloc (Obj.cells #[.slice none 0 0] 24) = W0 at *
  clear hx0
  go_loopw [10] (fun i wr => ∃ (j : Nat) (u : Value), j ≤ n ∧ i = .int .i64 j ∧ OwnL lay_Term wr (w.heap.size + 3) (some (w.heap.size + 3)) 62 u (l.take j) ∧ wr.heap[w.heap.size + 1]? = some (Obj.cells #[.slice none 0 0] 24 (0, 0)) ∧ wr.heap[w.heap.size + 1 + 1]? = some (Obj.cells #[u] 24 (0, 0)) ∧ w.heap.size + 3 ≤ wr.heap.size ∧ Below w.heap.size w wr) (fun i _ => n - (intOf i).toNat)
  case atStart => exact ⟨0, _, Nat.zero_le _, rfl, OwnL.nil _ _ _ _ _, hv1, hv2, by omega, hb0⟩
  case round =>
    obtain ⟨j, u, hj, rfl, hown, hr1, hr2, hsz, hbel⟩ := hrel
    clear hv1 hv2 hb0 hz3
    by_cases hlt : j < n
    · obtain ⟨b1, o1, A', n', c', hx1, rfl, hb1, t1, u1, v1, e1, e2, hV1⟩ := trm_at h hlt
      have q1 := (hbel.cell (p := ⟨b1, o1 + j * 3, none⟩) hb1).trans t1
      have q2 := (hbel.cell (p := ⟨b1, o1 + j * 3 + 1, none⟩) hb1).trans u1
      have q3 := (hbel.cell (p := ⟨b1, o1 + j * 3 + 2, none⟩) hb1).trans v1
      have hnl : n' ≤ 4096 := by rw [← hV1.len]; exact HSH.out _ (List.getElem_mem hx1)
      have HT := hid (List.take_succ_eq_append_getElem hx1)
      have HLT := hid (show (l.take j).length ≤ 1048576 from by rw [List.length_take]; omega)
      clear t1 u1 v1
      go_wp2_with fail
      have hWn := heap_alloc_new wr (Obj.cells #[.int .u64 l[j].Key, .int .i64 l[j].Up, .slice A' n' c'] 62)
      have hWb : Below wr.heap.size wr (wr.alloc (Obj.cells #[.int .u64 l[j].Key, .int .i64 l[j].Up, .slice A' n' c'] 62)) := bel_alloc (Below.refl _ _) _
      have hWs : (wr.alloc (Obj.cells #[.int .u64 l[j].Key, .int .i64 l[j].Up, .slice A' n' c'] 62)).heap.size = wr.heap.size + 1 := by simp
      generalize wr.alloc (Obj.cells #[.int .u64 l[j].Key, .int .i64 l[j].Up, .slice A' n' c'] 62) = W at *
      have hbW : Below w.heap.size w W := bel_call hbel hWb
      have RT := (hV1.rd (B := w.heap.size) fun _ h => h).below hbW
      have ho1 : OwnL lay_Term W (w.heap.size + 3) (some (w.heap.size + 3)) 62 u (l.take j) := hown.keep hWb
      have hr1' := (hWb.block _ (lt_of_block hr1)).trans hr1
      have hr2' := (hWb.block _ (lt_of_block hr2)).trans hr2
      have z0 : W.cell? ⟨wr.heap.size, 0, none⟩ = some (.int .u64 l[j].Key) := by simp [World.cell?, hWn]
      have z1 : W.cell? ⟨wr.heap.size, 1, none⟩ = some (.int .i64 l[j].Up) := by simp [World.cell?, hWn]
      have z2 : W.cell? ⟨wr.heap.size, 2, none⟩ = some (.slice A' n' c') := by simp [World.cell?, hWn]
      have z3 := cell_of_one hr2'
      have z4 := free_of_one hr2'
      have hub : ∀ g, u.ownBlock = some g → g < wr.heap.size := fun g hg => hown.lt hg
      clear q1 q2 q3 hr1 hr2 hown hV1 hWn
      have hlen1 : ((l.take j).length + 1) * 40 ≤ 140737488355328 := by have := HLT.out; omega
      have hlen2 : (l.take j).length + 1 ≤ maxLen := by have := HLT.out; unfold maxLen; omega
      have E1 := hid e1
      have E2 := hid e2
      clear e1 e2
      generalize l.take j = acc at *
      refine wp_region_phase 12 (fun w' => w'.cell? ⟨w.heap.size + 1 + 1, 0, none⟩ = some u ∧ w'.cell? ⟨wr.heap.size, 0, none⟩ = some (.int .u64 l[j].Key) ∧ w'.cell? ⟨wr.heap.size, 1, none⟩ = some (.int .i64 l[j].Up) ∧ w'.cell? ⟨wr.heap.size, 2, none⟩ = some (.slice A' n' c')) (by kernel_rfl) (by kernel_rfl) ?_
      simp only [List.take_succ_cons, List.take_zero, List.drop_succ_cons, List.drop_zero]
      have hS0 : (fun w' : World => w'.cell? ⟨w.heap.size + 1 + 1, 0, none⟩ = some u ∧ w'.cell? ⟨wr.heap.size, 0, none⟩ = some (.int .u64 l[j].Key) ∧ w'.cell? ⟨wr.heap.size, 1, none⟩ = some (.int .i64 l[j].Up) ∧ w'.cell? ⟨wr.heap.size, 2, none⟩ = some (.slice A' n' c')) (W.drewN 1) := ⟨z3, z0, z1, z2⟩
      rw [show Array.replicate 12 false = #[false, false, false, false, false, false, false, false, false, false, false, false] from rfl]
      refine wpAnyH_at 0 (some 14) (.pointer (some ⟨w.heap.size + 1 + 1, 0, none⟩)) rfl rfl (by kernel_rfl) (by kernel_rfl) (by kernel_rfl) (fun _ _ _ h => h) rfl (fun w' hS => by go_simp) hS0 ?_
      simp only [Act.put, List.setIfInBounds_toArray, List.set_cons_zero, List.set_cons_succ]
      refine wpAnyH_at 1 (some 15) (u) rfl rfl (by kernel_rfl) (by kernel_rfl) (by kernel_rfl) (fun _ _ _ h => h) rfl (fun w' hS => by obtain ⟨s0, s1, s2, s3⟩ := hS; go_simp) hS0 ?_
      simp only [Act.put, List.setIfInBounds_toArray, List.set_cons_zero, List.set_cons_succ]
      refine wpAnyH_at 2 (some 16) (.pointer (some ⟨wr.heap.size, 0, none⟩)) rfl rfl (by kernel_rfl) (by kernel_rfl) (by kernel_rfl) (fun _ _ _ h => h) rfl (fun w' hS => by go_simp) hS0 ?_
      simp only [Act.put, List.setIfInBounds_toArray, List.set_cons_zero, List.set_cons_succ]
      refine wpAnyH_at 3 (some 17) (.int .u64 l[j].Key) rfl rfl (by kernel_rfl) (by kernel_rfl) (by kernel_rfl) (fun _ _ _ h => h) rfl (fun w' hS => by obtain ⟨s0, s1, s2, s3⟩ := hS; go_simp) hS0 ?_
      simp only [Act.put, List.setIfInBounds_toArray, List.set_cons_zero, List.set_cons_succ]
      refine wpAnyH_at 4 (some 18) (.pointer (some ⟨wr.heap.size, 1, none⟩)) rfl rfl (by kernel_rfl) (by kernel_rfl) (by kernel_rfl) (fun _ _ _ h => h) rfl (fun w' hS => by go_simp) hS0 ?_
      simp only [Act.put, List.setIfInBounds_toArray, List.set_cons_zero, List.set_cons_succ]
      refine wpAnyH_at 5 (some 19) (.int .i64 l[j].Up) rfl rfl (by kernel_rfl) (by kernel_rfl) (by kernel_rfl) (fun _ _ _ h => h) rfl (fun w' hS => by obtain ⟨s0, s1, s2, s3⟩ := hS; go_simp) hS0 ?_
      simp only [Act.put, List.setIfInBounds_toArray, List.set_cons_zero, List.set_cons_succ]
      refine wpAnyH_at 6 (some 20) (.pointer (some ⟨wr.heap.size, 2, none⟩)) rfl rfl (by kernel_rfl) (by kernel_rfl) (by kernel_rfl) (fun _ _ _ h => h) rfl (fun w' hS => by go_simp) hS0 ?_
      simp only [Act.put, List.setIfInBounds_toArray, List.set_cons_zero, List.set_cons_succ]
      refine wpAnyH_at 7 (some 21) (.slice A' n' c') rfl rfl (by kernel_rfl) (by kernel_rfl) (by kernel_rfl) (fun _ _ _ h => h) rfl (fun w' hS => by obtain ⟨s0, s1, s2, s3⟩ := hS; go_simp) hS0 ?_
      simp only [Act.put, List.setIfInBounds_toArray, List.set_cons_zero, List.set_cons_succ]
      refine wpAnyH_one 8 _ (by kernel_rfl) rfl rfl ?_
      refine step_cat (by rfl) (.const (.slice none 0 0)) (.tmp 21) 46 (by rfl) W.heap.size 5 .u8 1 Try.underlying46 Try.infoU8 (.slice none 0 0) [] w.heap.size A' n' c' l[j].Text (by rfl) (by rfl) (Own.nil _ _ _ _) (RT.drewN 1) (Nat.le_refl _) (by simp; omega) (by simp; omega) ?_
      intro v5 w5 hown5 hext5
      obtain ⟨A5, n5, c5, rfl, hs5⟩ := hown5.slI
      have hb5 : Below W.heap.size W w5 := (Below.refl W.heap.size W).drew.trans hext5.of_nil
      have hz5 := hb5.size
      have hl1 : w.heap.size + 1 + 1 < W.heap.size := by omega
      have hl2 : wr.heap.size < W.heap.size := by omega
      have Z3 := (hb5.cell (p := ⟨w.heap.size + 1 + 1, 0, none⟩) hl1).trans z3
      have Z0 := (hb5.cell (p := ⟨wr.heap.size, 0, none⟩) hl2).trans z0
      have Z1 := (hb5.cell (p := ⟨wr.heap.size, 1, none⟩) hl2).trans z1
      have Z2 := (hb5.cell (p := ⟨wr.heap.size, 2, none⟩) hl2).trans z2
      refine ⟨⟨Z3, Z0, Z1, Z2⟩, ?_⟩
      change wpAnyH _ _ _ _ _ _ _ (Act.put _ (some 22) _) _
      simp only [Act.put, List.setIfInBounds_toArray, List.set_cons_zero, List.set_cons_succ]
      refine wpAnyH_at 9 (some 23) (.agg #[.int .u64 l[j].Key, .int .i64 l[j].Up, .slice A5 n5 c5]) rfl rfl (by kernel_rfl) (by kernel_rfl) (by kernel_rfl) (fun _ _ _ h => h) rfl (fun w' hS => by go_simp) ⟨Z3, Z0, Z1, Z2⟩ ?_
      simp only [Act.put, List.setIfInBounds_toArray, List.set_cons_zero, List.set_cons_succ]
      refine wpAnyH_one 10 _ (by kernel_rfl) rfl rfl ?_
      go_simp
      have hl5 : w.heap.size + 1 + 1 < w5.heap.size := by omega
      have hm5 : wr.heap.size < w5.heap.size := by omega
      refine ⟨⟨(World.cell?_alloc_past _ _ _ hl5).trans Z3, (World.cell?_alloc_past _ _ _ hm5).trans Z0, (World.cell?_alloc_past _ _ _ hm5).trans Z1, (World.cell?_alloc_past _ _ _ hm5).trans Z2⟩, ?_⟩
      refine wpAnyH_one 11 _ (by kernel_rfl) rfl rfl ?_
      refine step_pushL (w := w5) (by rfl) (.tmp 15) (.tmp 24) 22 (by rfl) (w.heap.size + 3) (some (w.heap.size + 3)) 62 _ 40 Try.underlying22 Try.infoTerm rfl (by decide) u acc l[j] #[.int .u64 l[j].Key, .int .i64 l[j].Up, .slice A5 n5 c5] (From w5 W.heap.size) w5.heap.size (by rfl) (by rfl) (bel_alloc (Below.refl _ _) _) (heap_alloc_new _ _) (ho1.keep hb5) (rep_Term.2 ⟨A5, n5, c5, rfl, E1.out, E2.out, hs5⟩) (fun b hb => ⟨⟨by have := hb.1; omega, hb.2.2⟩, hb.2.1, fun he => by have := hub b he.symm; have := hb.1; omega⟩) (by omega) hlen1 hlen2 ?_
      intro v6 w6 hown6 hext6
      obtain ⟨A6, n6, c6, rfl, hs6⟩ := hown6.read
      have hb6 : Below (w.heap.size + 3) W w6 := ((hb5.mono (by omega)).alloc (by omega) _).trans (((ho1.keep hb5).keep (bel_alloc (Below.refl _ _) _)).below hext6 (by simp; omega))
      have hnu : some wr.heap.size ≠ u.ownBlock := fun he => Nat.lt_irrefl _ (hub _ he.symm)
      have Y3 := (hb6.cell (p := ⟨w.heap.size + 1 + 1, 0, none⟩) (by show w.heap.size + 1 + 1 < w.heap.size + 3; omega)).trans z3
      have R1 := (hb6.block (w.heap.size + 1) (by omega)).trans hr1'
      have R2 := (hb6.block (w.heap.size + 1 + 1) (by omega)).trans hr2'
      have Y4 := free_of_one R2
      refine ⟨⟨Y3, hext6.1.cell (a := ⟨wr.heap.size, 0, none⟩) ((World.cell?_alloc_past _ _ _ hm5).trans Z0) hnu, hext6.1.cell (a := ⟨wr.heap.size, 1, none⟩) ((World.cell?_alloc_past _ _ _ hm5).trans Z1) hnu, hext6.1.cell (a := ⟨wr.heap.size, 2, none⟩) ((World.cell?_alloc_past _ _ _ hm5).trans Z2) hnu⟩, ?_⟩
      change wpAnyH _ _ _ _ _ _ _ (Act.put _ (some 25) _) _
      simp only [Act.put, List.setIfInBounds_toArray, List.set_cons_zero, List.set_cons_succ]
      refine wpAnyH_done (by kernel_rfl) ?_ _
      change wpList _ _ _ _ _ _
      clear hS0 z0 z1 z2 z3 z4 Z0 Z1 Z2 Z3 hr1' hr2' hs5 hown5 hext5 hext6 hs6 RT ho1
      go_wp2
      go_roundw
      case rel =>
        refine ⟨j + 1, .slice A6 n6 c6, by omega, by go_num, ?_, ?_, one_setCell R2, ?_, ?_⟩
        · rw [HT.out]
          exact hown6.setLow (by omega) (by omega) _ _
        · rw [heap_setCell_other _ _ _ _ (by simp)]; exact R1
        · have := hb6.size
          simp
          omega
        · exact (hbW.trans (hb6.mono (by omega))).setCell (by show w.heap.size ≤ w.heap.size + 1 + 1; omega) _
      case measure => simp [intOf]; omega
    · have hjn : j = n := by omega
      subst hjn
      obtain ⟨A6, n6, c6, rfl, hs6⟩ := hown.read
      have z1 := cell_of_one hr1
      have z2 := cell_of_one hr2
      have f1 := free_of_one hr1
      have R1 := one_setCell (u := .slice A6 n6 c6) hr1
      rw [List.take_of_length_le (by rw [HL.out]; omega)] at hown
      have HO := hid ((hown.setLow (b := w.heap.size + 1) (by omega) (by omega) 0 (.slice A6 n6 c6)).lows (base' := w.heap.size) (lo' := w.heap.size) (by omega) (by omega))
      have HB := hid (hbel.setCell (p := ⟨w.heap.size + 1, 0, none⟩) (by show w.heap.size ≤ w.heap.size + 1; omega) (.slice A6 n6 c6))
      clear hown hr1 hr2 hs6 hbel
      go_wp2
      refine bodyPost_ret_by (results_c rfl _ _ (w.heap.size + 1) 0 rfl [.slice A6 n6 c6] _ (range1 (cell_of_one R1)) Try.underlying24 rfl (by kernel_rfl)) rfl ?_
      exact ⟨_, rfl, HO.out, HB.out⟩
end Go.Proofs.Ytgiapfenalhleaa
