/-
  The contract of the document's Copy.
  The contracts of the document's with, Root, and Next.
-/
import Derived.Deep.RegionHeld3
import Derived.Test.YtgiapfenalhleaaPack1
import Derived.Test.YtgiapfenalhleaaPack2
import Derived.Test.YtgiapfenalhleaaPack3
import Derived.Test.YtgiapfenalhleaaPack4
import Derived.Test.YtgiapfenalhleaaPack5
import Derived.Test.YtgiapfenalhleaaPack6
import Derived.Test.YtgiapfenalhleaaPack7
import Derived.Test.YtgiapfenalhleaaPack8
import Derived.Test.YtgiapfenalhleaaPack9
import Derived.Test.YtgiapfenalhleaaPack10
import Derived.Test.YtgiapfenalhleaaPack11
import Derived.Test.YtgiapfenalhleaaPack12
namespace Go.Proofs.Ytgiapfenalhleaa
open Go.RowKit Go.WalkArith

theorem Try.infoTerm : (Try.prog.info? 62).map (fun i => (i.zero, i.size, i.bytes)) = some (some (.agg #[.int .u64 0, .int .i64 0, .slice none 0 0]), lay_Term.size, 40) := by kernel_rfl
theorem Try.elemTerm : Try.prog.elem 22 = 62 := by kernel_rfl

set_option maxRecDepth 100000 in
set_option maxHeartbeats 2000000 in
theorem refCopy_any (s : Array Value) (l : List Trm) (w : World) (g : lay_Arena.rep w (· < w.heap.size) l s.toList) (hl : l.length ≤ 1048576) (hs : ∀ x ∈ l, x.Text.length ≤ 4096) :
    Calls Try.prog 12 #[.agg s] w fun e w' => ∃ v', e = .returned (.agg #[v']) ∧ OwnL lay_Term w' w.heap.size (some w.heap.size) 62 v' l ∧ Below w.heap.size w w' := by
  obtain ⟨A, n, c, rfl, h⟩ := agg_Arena g
  clear g
  have HL := hid h.len
  have hcap := h.cap
  unfold maxLen at hcap
  have hn : n ≤ 1048576 := by rw [← HL.out]; exact hl
  have HSH := hid hs
  clear hl hs
  go_enter Try.func12, Try.ntmps12
  go_wp2
  have hx0 := heap_alloc_new w (Obj.cells #[.slice A n c] 24)
  have hz3 : (((w.alloc (Obj.cells #[.slice A n c] 24)).alloc (Obj.cells #[.slice none 0 0] 24)).alloc (Obj.cells #[.slice none 0 0] 24)).heap.size = w.heap.size + 3 := by simp
  have hv1 : (((w.alloc (Obj.cells #[.slice A n c] 24)).alloc (Obj.cells #[.slice none 0 0] 24)).alloc (Obj.cells #[.slice none 0 0] 24)).heap[w.heap.size + 1]? = some (Obj.cells #[.slice none 0 0] 24 (0, 0)) := by
    rw [heap_alloc_old _ _ (by simp)]
    exact heap_alloc2_new _ _ _
  have hv2 : (((w.alloc (Obj.cells #[.slice A n c] 24)).alloc (Obj.cells #[.slice none 0 0] 24)).alloc (Obj.cells #[.slice none 0 0] 24)).heap[w.heap.size + 1 + 1]? = some (Obj.cells #[.slice none 0 0] 24 (0, 0)) :=
    heap_alloc2_new (w.alloc (Obj.cells #[.slice A n c] 24)) _ _ |> fun h => by simpa using h
  have hb0 : Below w.heap.size w (((w.alloc (Obj.cells #[.slice A n c] 24)).alloc (Obj.cells #[.slice none 0 0] 24)).alloc (Obj.cells #[.slice none 0 0] 24)) := bel_alloc (bel_alloc (bel_alloc (Below.refl _ _) _) _) _
  generalize ((w.alloc (Obj.cells #[.slice A n c] 24)).alloc (Obj.cells #[.slice none 0 0] 24)).alloc (Obj.cells #[.slice none 0 0] 24) = W0 at *
  clear hx0
  go_loopw [10] (fun i wr => ∃ (j : Nat) (u : Value), j ≤ n ∧ i = .int .i64 j ∧ OwnL lay_Term wr (w.heap.size + 3) (some (w.heap.size + 3)) 62 u (l.take j) ∧ wr.heap[w.heap.size + 1]? = some (Obj.cells #[.slice none 0 0] 24 (0, 0)) ∧ wr.heap[w.heap.size + 1 + 1]? = some (Obj.cells #[u] 24 (0, 0)) ∧ w.heap.size + 3 ≤ wr.heap.size ∧ Below w.heap.size w wr) (fun i _ => n - (intOf i).toNat)
  case atStart => exact ⟨0, _, Nat.zero_le _, rfl, OwnL.nil _ _ _ _ _, hv1, hv2, by omega, hb0⟩
  case round =>
    obtain ⟨j, u, hj, rfl, hown, hr1, hr2, hsz, hbel⟩ := hrel
    clear hv1 hv2 hb0 hz3
    by_cases hlt : j < n
    · obtain ⟨b1, o1, A', n', c', hx1, rfl, hb1, t1, u1, v1, e1, e2, hV1⟩ := trm_at h hlt
      have q1 := (hbel.cell (p := ⟨b1, o1 + j * 3, none⟩) hb1).trans t1
      have q2 := (hbel.cell (p := ⟨b1, o1 + j * 3 + 1, none⟩) hb1).trans u1
      have q3 := (hbel.cell (p := ⟨b1, o1 + j * 3 + 2, none⟩) hb1).trans v1
      have hnl : n' ≤ 4096 := by rw [← hV1.len]; exact HSH.out _ (List.getElem_mem hx1)
      have HT := hid (List.take_succ_eq_append_getElem hx1)
      have HLT := hid (show (l.take j).length ≤ 1048576 from by rw [List.length_take]; omega)
      clear t1 u1 v1
      go_wp2_with fail
      have hWn := heap_alloc_new wr (Obj.cells #[.int .u64 l[j].Key, .int .i64 l[j].Up, .slice A' n' c'] 62)
      have hWb : Below wr.heap.size wr (wr.alloc (Obj.cells #[.int .u64 l[j].Key, .int .i64 l[j].Up, .slice A' n' c'] 62)) := bel_alloc (Below.refl _ _) _
      have hWs : (wr.alloc (Obj.cells #[.int .u64 l[j].Key, .int .i64 l[j].Up, .slice A' n' c'] 62)).heap.size = wr.heap.size + 1 := by simp
      generalize wr.alloc (Obj.cells #[.int .u64 l[j].Key, .int .i64 l[j].Up, .slice A' n' c'] 62) = W at *
      have hbW : Below w.heap.size w W := bel_call hbel hWb
      have RT := (hV1.rd (B := w.heap.size) fun _ h => h).below hbW
      have ho1 : OwnL lay_Term W (w.heap.size + 3) (some (w.heap.size + 3)) 62 u (l.take j) := hown.keep hWb
      have hr1' := (hWb.block _ (lt_of_block hr1)).trans hr1
      have hr2' := (hWb.block _ (lt_of_block hr2)).trans hr2
      have z0 : W.cell? ⟨wr.heap.size, 0, none⟩ = some (.int .u64 l[j].Key) := by simp [World.cell?, hWn]
      have z1 : W.cell? ⟨wr.heap.size, 1, none⟩ = some (.int .i64 l[j].Up) := by simp [World.cell?, hWn]
      have z2 : W.cell? ⟨wr.heap.size, 2, none⟩ = some (.slice A' n' c') := by simp [World.cell?, hWn]
      have z3 := cell_of_one hr2'
      have z4 := free_of_one hr2'
      have hub : ∀ g, u.ownBlock = some g → g < wr.heap.size := fun g hg => hown.lt hg
      clear q1 q2 q3 hr1 hr2 hown hV1 hWn
      have hlen1 : ((l.take j).length + 1) * 40 ≤ 140737488355328 := by have := HLT.out; omega
      have hlen2 : (l.take j).length + 1 ≤ maxLen := by have := HLT.out; unfold maxLen; omega
      have E1 := hid e1
      have E2 := hid e2
      clear e1 e2
      generalize l.take j = acc at *
      refine wp_region_phase 12 (fun w' => w'.cell? ⟨w.heap.size + 1 + 1, 0, none⟩ = some u ∧ w'.cell? ⟨wr.heap.size, 0, none⟩ = some (.int .u64 l[j].Key) ∧ w'.cell? ⟨wr.heap.size, 1, none⟩ = some (.int .i64 l[j].Up) ∧ w'.cell? ⟨wr.heap.size, 2, none⟩ = some (.slice A' n' c')) (by kernel_rfl) (by kernel_rfl) ?_
      simp only [List.take_succ_cons, List.take_zero, List.drop_succ_cons, List.drop_zero]
      have hS0 : (fun w' : World => w'.cell? ⟨w.heap.size + 1 + 1, 0, none⟩ = some u ∧ w'.cell? ⟨wr.heap.size, 0, none⟩ = some (.int .u64 l[j].Key) ∧ w'.cell? ⟨wr.heap.size, 1, none⟩ = some (.int .i64 l[j].Up) ∧ w'.cell? ⟨wr.heap.size, 2, none⟩ = some (.slice A' n' c')) (W.drewN 1) := ⟨z3, z0, z1, z2⟩
      rw [show Array.replicate 12 false = #[false, false, false, false, false, false, false, false, false, false, false, false] from rfl]
      refine wpAnyH_at 0 (some 14) (.pointer (some ⟨w.heap.size + 1 + 1, 0, none⟩)) rfl rfl (by kernel_rfl) (by kernel_rfl) (by kernel_rfl) (fun _ _ _ h => h) rfl (fun w' hS => by go_simp) hS0 ?_
      simp only [Act.put, List.setIfInBounds_toArray, List.set_cons_zero, List.set_cons_succ]
      refine wpAnyH_at 1 (some 15) (u) rfl rfl (by kernel_rfl) (by kernel_rfl) (by kernel_rfl) (fun _ _ _ h => h) rfl (fun w' hS => by obtain ⟨s0, s1, s2, s3⟩ := hS; go_simp) hS0 ?_
      simp only [Act.put, List.setIfInBounds_toArray, List.set_cons_zero, List.set_cons_succ]
      refine wpAnyH_at 2 (some 16) (.pointer (some ⟨wr.heap.size, 0, none⟩)) rfl rfl (by kernel_rfl) (by kernel_rfl) (by kernel_rfl) (fun _ _ _ h => h) rfl (fun w' hS => by go_simp) hS0 ?_
      simp only [Act.put, List.setIfInBounds_toArray, List.set_cons_zero, List.set_cons_succ]
      refine wpAnyH_at 3 (some 17) (.int .u64 l[j].Key) rfl rfl (by kernel_rfl) (by kernel_rfl) (by kernel_rfl) (fun _ _ _ h => h) rfl (fun w' hS => by obtain ⟨s0, s1, s2, s3⟩ := hS; go_simp) hS0 ?_
      simp only [Act.put, List.setIfInBounds_toArray, List.set_cons_zero, List.set_cons_succ]
      refine wpAnyH_at 4 (some 18) (.pointer (some ⟨wr.heap.size, 1, none⟩)) rfl rfl (by kernel_rfl) (by kernel_rfl) (by kernel_rfl) (fun _ _ _ h => h) rfl (fun w' hS => by go_simp) hS0 ?_
      simp only [Act.put, List.setIfInBounds_toArray, List.set_cons_zero, List.set_cons_succ]
      refine wpAnyH_at 5 (some 19) (.int .i64 l[j].Up) rfl rfl (by kernel_rfl) (by kernel_rfl) (by kernel_rfl) (fun _ _ _ h => h) rfl (fun w' hS => by obtain ⟨s0, s1, s2, s3⟩ := hS; go_simp) hS0 ?_
      simp only [Act.put, List.setIfInBounds_toArray, List.set_cons_zero, List.set_cons_succ]
      refine wpAnyH_at 6 (some 20) (.pointer (some ⟨wr.heap.size, 2, none⟩)) rfl rfl (by kernel_rfl) (by kernel_rfl) (by kernel_rfl) (fun _ _ _ h => h) rfl (fun w' hS => by go_simp) hS0 ?_
      simp only [Act.put, List.setIfInBounds_toArray, List.set_cons_zero, List.set_cons_succ]
      refine wpAnyH_at 7 (some 21) (.slice A' n' c') rfl rfl (by kernel_rfl) (by kernel_rfl) (by kernel_rfl) (fun _ _ _ h => h) rfl (fun w' hS => by obtain ⟨s0, s1, s2, s3⟩ := hS; go_simp) hS0 ?_
      simp only [Act.put, List.setIfInBounds_toArray, List.set_cons_zero, List.set_cons_succ]
      refine wpAnyH_one 8 _ (by kernel_rfl) rfl rfl ?_
      refine step_cat (by rfl) (.const (.slice none 0 0)) (.tmp 21) 46 (by rfl) W.heap.size 5 .u8 1 Try.underlying46 Try.infoU8 (.slice none 0 0) [] w.heap.size A' n' c' l[j].Text (by rfl) (by rfl) (Own.nil _ _ _ _) (RT.drewN 1) (Nat.le_refl _) (by simp; omega) (by simp; omega) ?_
      intro v5 w5 hown5 hext5
      obtain ⟨A5, n5, c5, rfl, hs5⟩ := hown5.slI
      have hb5 : Below W.heap.size W w5 := (Below.refl W.heap.size W).drew.trans hext5.of_nil
      have hz5 := hb5.size
      have hl1 : w.heap.size + 1 + 1 < W.heap.size := by omega
      have hl2 : wr.heap.size < W.heap.size := by omega
      have Z3 := (hb5.cell (p := ⟨w.heap.size + 1 + 1, 0, none⟩) hl1).trans z3
      have Z0 := (hb5.cell (p := ⟨wr.heap.size, 0, none⟩) hl2).trans z0
      have Z1 := (hb5.cell (p := ⟨wr.heap.size, 1, none⟩) hl2).trans z1
      have Z2 := (hb5.cell (p := ⟨wr.heap.size, 2, none⟩) hl2).trans z2
      refine ⟨⟨Z3, Z0, Z1, Z2⟩, ?_⟩
      change wpAnyH _ _ _ _ _ _ _ (Act.put _ (some 22) _) _
      simp only [Act.put, List.setIfInBounds_toArray, List.set_cons_zero, List.set_cons_succ]
      refine wpAnyH_at 9 (some 23) (.agg #[.int .u64 l[j].Key, .int .i64 l[j].Up, .slice A5 n5 c5]) rfl rfl (by kernel_rfl) (by kernel_rfl) (by kernel_rfl) (fun _ _ _ h => h) rfl (fun w' hS => by go_simp) ⟨Z3, Z0, Z1, Z2⟩ ?_
      simp only [Act.put, List.setIfInBounds_toArray, List.set_cons_zero, List.set_cons_succ]
      refine wpAnyH_one 10 _ (by kernel_rfl) rfl rfl ?_
      go_simp
      have hl5 : w.heap.size + 1 + 1 < w5.heap.size := by omega
      have hm5 : wr.heap.size < w5.heap.size := by omega
      refine ⟨⟨(World.cell?_alloc_past _ _ _ hl5).trans Z3, (World.cell?_alloc_past _ _ _ hm5).trans Z0, (World.cell?_alloc_past _ _ _ hm5).trans Z1, (World.cell?_alloc_past _ _ _ hm5).trans Z2⟩, ?_⟩
      refine wpAnyH_one 11 _ (by kernel_rfl) rfl rfl ?_
      refine step_pushL (w := w5) (by rfl) (.tmp 15) (.tmp 24) 22 (by rfl) (w.heap.size + 3) (some (w.heap.size + 3)) 62 _ 40 Try.underlying22 Try.infoTerm rfl (by decide) u acc l[j] #[.int .u64 l[j].Key, .int .i64 l[j].Up, .slice A5 n5 c5] (From w5 W.heap.size) w5.heap.size (by rfl) (by rfl) (bel_alloc (Below.refl _ _) _) (heap_alloc_new _ _) (ho1.keep hb5) (rep_Term.2 ⟨A5, n5, c5, rfl, E1.out, E2.out, hs5⟩) (fun b hb => ⟨⟨by have := hb.1; omega, hb.2.2⟩, hb.2.1, fun he => by have := hub b he.symm; have := hb.1; omega⟩) (by omega) hlen1 hlen2 ?_
      intro v6 w6 hown6 hext6
      obtain ⟨A6, n6, c6, rfl, hs6⟩ := hown6.read
      have hb6 : Below (w.heap.size + 3) W w6 := ((hb5.mono (by omega)).alloc (by omega) _).trans (((ho1.keep hb5).keep (bel_alloc (Below.refl _ _) _)).below hext6 (by simp; omega))
      have hnu : some wr.heap.size ≠ u.ownBlock := fun he => Nat.lt_irrefl _ (hub _ he.symm)
      have Y3 := (hb6.cell (p := ⟨w.heap.size + 1 + 1, 0, none⟩) (by show w.heap.size + 1 + 1 < w.heap.size + 3; omega)).trans z3
      have R1 := (hb6.block (w.heap.size + 1) (by omega)).trans hr1'
      have R2 := (hb6.block (w.heap.size + 1 + 1) (by omega)).trans hr2'
      have Y4 := free_of_one R2
      refine ⟨⟨Y3, hext6.1.cell (a := ⟨wr.heap.size, 0, none⟩) ((World.cell?_alloc_past _ _ _ hm5).trans Z0) hnu, hext6.1.cell (a := ⟨wr.heap.size, 1, none⟩) ((World.cell?_alloc_past _ _ _ hm5).trans Z1) hnu, hext6.1.cell (a := ⟨wr.heap.size, 2, none⟩) ((World.cell?_alloc_past _ _ _ hm5).trans Z2) hnu⟩, ?_⟩
      change wpAnyH _ _ _ _ _ _ _ (Act.put _ (some 25) _) _
      simp only [Act.put, List.setIfInBounds_toArray, List.set_cons_zero, List.set_cons_succ]
      refine wpAnyH_done (by kernel_rfl) ?_ _
      change wpList _ _ _ _ _ _
      clear hS0 z0 z1 z2 z3 z4 Z0 Z1 Z2 Z3 hr1' hr2' hs5 hown5 hext5 hext6 hs6 RT ho1
      go_wp2
      go_roundw
      case rel =>
        refine ⟨j + 1, .slice A6 n6 c6, by omega, by go_num, ?_, ?_, one_setCell R2, ?_, ?_⟩
        · rw [HT.out]
          exact hown6.setLow (by omega) (by omega) _ _
        · rw [heap_setCell_other _ _ _ _ (by simp)]; exact R1
        · have := hb6.size
          simp
          omega
        · exact (hbW.trans (hb6.mono (by omega))).setCell (by show w.heap.size ≤ w.heap.size + 1 + 1; omega) _
      case measure => simp [intOf]; omega
    · have hjn : j = n := by omega
      subst hjn
      obtain ⟨A6, n6, c6, rfl, hs6⟩ := hown.read
      have z1 := cell_of_one hr1
      have z2 := cell_of_one hr2
      have f1 := free_of_one hr1
      have R1 := one_setCell (u := .slice A6 n6 c6) hr1
      rw [List.take_of_length_le (by rw [HL.out]; omega)] at hown
      have HO := hid ((hown.setLow (b := w.heap.size + 1) (by omega) (by omega) 0 (.slice A6 n6 c6)).lows (base' := w.heap.size) (lo' := w.heap.size) (by omega) (by omega))
      have HB := hid (hbel.setCell (p := ⟨w.heap.size + 1, 0, none⟩) (by show w.heap.size ≤ w.heap.size + 1; omega) (.slice A6 n6 c6))
      clear hown hr1 hr2 hs6 hbel
      go_wp2
      refine bodyPost_ret_by (results_c rfl _ _ (w.heap.size + 1) 0 rfl [.slice A6 n6 c6] _ (range1 (cell_of_one R1)) Try.underlying24 rfl (by kernel_rfl)) rfl ?_
      exact ⟨_, rfl, HO.out, HB.out⟩
end Go.Proofs.Ytgiapfenalhleaa
namespace Go.Proofs.Ytgiapfenalhleaa
open Go.RowKit Go.WalkArith

theorem three_blocks {w W : World} {a b c : Obj} (h : Below (w.heap.size + 3) (((w.alloc a).alloc b).alloc c) W) : W.heap[w.heap.size]? = some a ∧ W.heap[w.heap.size + 1]? = some b ∧ W.heap[w.heap.size + 1 + 1]? = some c := by
  refine ⟨(h.block _ (by omega)).trans ?_, (h.block _ (by omega)).trans ?_, (h.block _ (by omega)).trans ?_⟩
  · rw [heap_alloc_old _ _ (by simp <;> omega)]; exact heap_alloc2_old _ _ _
  · rw [heap_alloc_old _ _ (by simp)]; exact heap_alloc2_new _ _ _
  · have := heap_alloc2_new (w.alloc a) b c
    simpa using this

theorem OwnL.readS {α : Type} {L : Lay α} {w : World} {base : Nat} {lo : Option Nat} {e : TypeId} {A : Option Addr} {n c : Nat} {xs : List α} (h : OwnL L w base lo e (.slice A n c) xs) : Sl L w (· < w.heap.size) A n c xs := by
  obtain ⟨A', n', c', he, h'⟩ := h.read
  injection he with h1 h2 h3
  subst h1 h2 h3
  exact h'

set_option maxRecDepth 100000 in
set_option maxHeartbeats 4000000 in
theorem refWithA_any (s1 s2 : Array Value) (l : List Trm) (x : Trm) (w : World) (g1 : lay_Arena.rep w (· < w.heap.size) l s1.toList) (g2 : lay_Term.rep w (· < w.heap.size) x s2.toList) :
    Calls Try.prog 69 #[.agg s1, .agg s2] w fun e w' => ∃ v', e = .returned (.tuple #[.agg #[v'], .int .i64 (withI l x), .int .i64 (withE l x)]) ∧ OwnL lay_Term w' w.heap.size (some w.heap.size) 62 v' (withL l x) ∧ Below w.heap.size w w' := by
  obtain ⟨A, n, c, rfl, hA⟩ := agg_Arena g1
  obtain ⟨Ax, nx, cx, rfl, e1, e2, hX⟩ := agg_Term g2
  clear g1 g2
  have HL := hid hA.len
  have hcap := hA.cap
  have hcx := hX.cap
  unfold maxLen at hcap hcx
  have HLX := hid hX.len
  have bU := bounds_i64 e2
  have hz3 : (((w.alloc (Obj.cells #[.slice A n c] 24)).alloc (Obj.cells #[.int .u64 x.Key, .int .i64 x.Up, .slice Ax nx cx] 62)).alloc (Obj.cells #[.slice none 0 0] 24)).heap.size = w.heap.size + 3 := by simp
  have hb0 : Below w.heap.size w (((w.alloc (Obj.cells #[.slice A n c] 24)).alloc (Obj.cells #[.int .u64 x.Key, .int .i64 x.Up, .slice Ax nx cx] 62)).alloc (Obj.cells #[.slice none 0 0] 24)) := bel_alloc (bel_alloc (bel_alloc (Below.refl _ _) _) _) _
  have hB3 := fun (W : World) (h : Below (w.heap.size + 3) (((w.alloc (Obj.cells #[.slice A n c] 24)).alloc (Obj.cells #[.int .u64 x.Key, .int .i64 x.Up, .slice Ax nx cx] 62)).alloc (Obj.cells #[.slice none 0 0] 24)) W) => three_blocks h
  have PA := hid (fun (W : World) (h : Below w.heap.size w W) => (show lay_Arena.rep W (· < W.heap.size) l #[.slice A n c].toList from rep_Arena.2 ⟨A, n, c, rfl, (hA.keep fun _ hp => h.cell hp).wide fun b hb => Nat.lt_of_lt_of_le hb h.size⟩))
  have PX := hid (fun (W : World) (h : Below w.heap.size w W) => (show lay_Term.rep W (· < W.heap.size) x #[.int .u64 x.Key, .int .i64 x.Up, .slice Ax nx cx].toList from rep_Term.2 ⟨Ax, nx, cx, rfl, e1, e2, (hX.keep fun _ hp => h.cell hp).wide fun b hb => Nat.lt_of_lt_of_le hb h.size⟩))
  have RX := hid (hX.rd (B := w.heap.size) fun _ h => h)
  go_enter Try.func69, Try.ntmps69
  go_wp2_with fail
  generalize (((w.alloc (Obj.cells #[.slice A n c] 24)).alloc (Obj.cells #[.int .u64 x.Key, .int .i64 x.Up, .slice Ax nx cx] 62)).alloc (Obj.cells #[.slice none 0 0] 24)) = W0 at *
  have hz0 : w.heap.size ≤ W0.heap.size := hb0.size
  refine (refCheckA_any _ l W0 (PA.out W0 hb0)).mono ?_
  rintro e w1 ⟨rfl, hb1⟩
  have HB1 : Below w.heap.size w w1 := bel_call hb0 hb1
  have hz1 := hb1.size
  obtain ⟨q2, q3, q4⟩ := hB3 w1 (by rw [← hz3]; exact hb1)
  clear hB3 hb1 hb0
  have c2 := cell_of_one q2
  have c30 : w1.cell? ⟨w.heap.size + 1, 0, none⟩ = some (.int .u64 x.Key) := by simp [World.cell?, q3]
  have c31 : w1.cell? ⟨w.heap.size + 1, 1, none⟩ = some (.int .i64 x.Up) := by simp [World.cell?, q3]
  have c32 : w1.cell? ⟨w.heap.size + 1, 2, none⟩ = some (.slice Ax nx cx) := by simp [World.cell?, q3]
  have c4 := cell_of_one q4
  have f4 := free_of_one q4
  rcases with_cases (l := l) x with ⟨hE, hok, hU, hU1, hT, hin, hLs, hI⟩ | ⟨hE, hok, hU, hU1, hT, hin, hlt, hLs, hI⟩ | ⟨hE, hok, hU, hU1, hT, hin, hlt, hLs, hI⟩ | ⟨hE, hok, hU, hU1, hT, hLs, hI⟩ | ⟨hE, hno, hLs, hI⟩
  all_goals
    have HE := hid hE
    have HI := hid hI
    have HW := hid hLs
    clear hE hI hLs
  rotate_left 3
  · -- too long
    have har : arE l = 0 := if_pos hok
    rw [har]
    rw [HL.out] at hU
    have d1 : decide ((n : Int) ≤ x.Up) = false := by simp; omega
    have d2 : decide (x.Up < -1) = false := by simp; omega
    rw [HLX.out] at hT
    have d3 : decide ((4096 : Int) < (nx : Int)) = true := by simp; omega
    clear har hU hU1 hT
    go_wp2
    refine bodyPost_ret_by (results_ctt rfl _ _ (w.heap.size + 1 + 1) 0 rfl [.slice none 0 0] _ (range1 (cell_of_one (one_setCell q4))) Try.underlying24 rfl (by kernel_rfl)) rfl ?_
    exact ⟨_, by rw [HE.out, HI.out]; rfl, by rw [HW.out]; exact OwnL.nil _ _ _ _ _, HB1.setCell (by show w.heap.size ≤ w.heap.size + 1 + 1; omega) _⟩
  · -- no such
    by_cases hok : ArOk l
    · have har : arE l = 0 := if_pos hok
      rw [har]
      by_cases h1 : (n : Int) ≤ x.Up
      · clear har
        go_wp2
        refine bodyPost_ret_by (results_ctt rfl _ _ (w.heap.size + 1 + 1) 0 rfl [.slice none 0 0] _ (range1 (cell_of_one (one_setCell q4))) Try.underlying24 rfl (by kernel_rfl)) rfl ?_
        exact ⟨_, by rw [HE.out, HI.out]; rfl, by rw [HW.out]; exact OwnL.nil _ _ _ _ _, HB1.setCell (by show w.heap.size ≤ w.heap.size + 1 + 1; omega) _⟩
      · have d1 : decide ((n : Int) ≤ x.Up) = false := by simp; omega
        have d2 : decide (x.Up < -1) = true := by
          simp only [decide_eq_true_eq]
          rcases Int.lt_or_le x.Up (-1) with h | h
          · exact h
          · exact absurd ⟨hok, by rw [HL.out]; omega, h⟩ hno
        clear har hno h1
        go_wp2
        refine bodyPost_ret_by (results_ctt rfl _ _ (w.heap.size + 1 + 1) 0 rfl [.slice none 0 0] _ (range1 (cell_of_one (one_setCell q4))) Try.underlying24 rfl (by kernel_rfl)) rfl ?_
        exact ⟨_, by rw [HE.out, HI.out]; rfl, by rw [HW.out]; exact OwnL.nil _ _ _ _ _, HB1.setCell (by show w.heap.size ≤ w.heap.size + 1 + 1; omega) _⟩
    · have har : arE l = 1 := if_neg hok
      rw [har]
      clear har hno
      go_wp2
      refine bodyPost_ret_by (results_ctt rfl _ _ (w.heap.size + 1 + 1) 0 rfl [.slice none 0 0] _ (range1 (cell_of_one (one_setCell q4))) Try.underlying24 rfl (by kernel_rfl)) rfl ?_
      exact ⟨_, by rw [HE.out, HI.out]; rfl, by rw [HW.out]; exact OwnL.nil _ _ _ _ _, HB1.setCell (by show w.heap.size ≤ w.heap.size + 1 + 1; omega) _⟩
  all_goals
    have har : arE l = 0 := if_pos hok
    rw [har]
    rw [HL.out] at hU
    have d1 : decide ((n : Int) ≤ x.Up) = false := by simp; omega
    have d2 : decide (x.Up < -1) = false := by simp; omega
    rw [HLX.out] at hT
    have d3 : decide ((4096 : Int) < (nx : Int)) = false := by simp; omega
    clear har
    go_wp2_with fail
    refine (refCopy_any _ l w1 (PA.out w1 HB1) hok.1 (fun y hy => by obtain ⟨i, hi, rfl⟩ := List.getElem_of_mem hy; exact (hok.fit hi).2.2.2)).mono ?_
    rintro e w2 ⟨v2, rfl, ho2, hb2⟩
    obtain ⟨A2, n2, c2', rfl, hs2⟩ := ho2.read
    have hn2 : n2 = n := by rw [← hs2.len, HL.out]
    subst hn2
    have hz2 := hb2.size
    have Q2 := (hb2.block _ (lt_of_block q2)).trans q2
    have Q3 := (hb2.block _ (lt_of_block q3)).trans q3
    have Q4 := (hb2.block _ (lt_of_block q4)).trans q4
    have g2 := cell_of_one Q2
    have g2f := free_of_one Q2
    have g30 : w2.cell? ⟨w.heap.size + 1, 0, none⟩ = some (.int .u64 x.Key) := by simp [World.cell?, Q3]
    have g31 : w2.cell? ⟨w.heap.size + 1, 1, none⟩ = some (.int .i64 x.Up) := by simp [World.cell?, Q3]
    have g32 : w2.cell? ⟨w.heap.size + 1, 2, none⟩ = some (.slice Ax nx cx) := by simp [World.cell?, Q3]
    clear c2 c30 c31 c32 c4 f4 q2 q3 q4
    have hq2 := one_setCell (u := .slice A2 n2 c2') Q2
    have hq3 : (w2.setCell ⟨w.heap.size, 0, none⟩ (.slice A2 n2 c2')).heap[w.heap.size + 1]? = _ := (heap_setCell_other _ _ _ _ (by simp)).trans Q3
    have hq4 : (w2.setCell ⟨w.heap.size, 0, none⟩ (.slice A2 n2 c2')).heap[w.heap.size + 1 + 1]? = _ := (heap_setCell_other _ _ _ _ (by simp <;> omega)).trans Q4
    have ho3 := ho2.setLow (b := w.heap.size) (by omega) (by omega) 0 (.slice A2 n2 c2')
    have HB3 : Below w.heap.size w (w2.setCell ⟨w.heap.size, 0, none⟩ (.slice A2 n2 c2')) := (bel_call HB1 hb2).setCell (Nat.le_refl _) _
    have hs3 : (w2.setCell ⟨w.heap.size, 0, none⟩ (.slice A2 n2 c2')).heap.size = w2.heap.size := by simp
    go_wp2_with fail
    generalize w2.setCell ⟨w.heap.size, 0, none⟩ (.slice A2 n2 c2') = W3 at *
    refine (refPlace_any _ _ _ _ l x W3 ho3.readS (PX.out W3 HB3)).mono ?_
    rintro e w4 ⟨rfl, hb4⟩
    have HB4 : Below w.heap.size w w4 := bel_call HB3 hb4
    have hz4 := hb4.size
    have P2 := (hb4.block _ (lt_of_block hq2)).trans hq2
    have P3 := (hb4.block _ (lt_of_block hq3)).trans hq3
    have P4 := (hb4.block _ (lt_of_block hq4)).trans hq4
    have ho4 := ho3.keep hb4
    have k2 := cell_of_one P2
    have k4 := cell_of_one P4
    have k4f := free_of_one P4
    clear hq2 hq3 hq4 ho3 hb4 hb2 ho2 hs2 Q2 Q3 Q4 g2 g2f g30 g31 g32
  rotate_left 2
  · -- full
    rw [seat, if_neg hin]
    have hfull : n2 = 1048576 := by rw [← HL.out]; exact hlt
    have d5 : ((n2 : Int) == 1048576) = true := by simp; omega
    go_wp2
    refine bodyPost_ret_by (results_ctt rfl _ _ (w.heap.size + 1 + 1) 0 rfl [.slice none 0 0] _ (range1 (cell_of_one (one_setCell P4))) Try.underlying24 rfl (by kernel_rfl)) rfl ?_
    exact ⟨_, by rw [HE.out, HI.out]; rfl, by rw [HW.out]; exact OwnL.nil _ _ _ _ _, HB4.setCell (by show w.heap.size ≤ w.heap.size + 1 + 1; omega) _⟩
  · -- there
    rw [seat, if_pos hin]
    have HI' := HI.out
    generalize plc x l = pl at *
    have HO := (ho4.setLow (b := w.heap.size + 1 + 1) (by omega) (by omega) 0 (.slice A2 n2 c2')).lows (base' := w.heap.size) (lo' := w.heap.size) (by omega) (by omega)
    go_wp2
    refine bodyPost_ret_by (results_ctt rfl _ _ (w.heap.size + 1 + 1) 0 rfl [.slice A2 n2 c2'] _ (range1 (cell_of_one (one_setCell P4))) Try.underlying24 rfl (by kernel_rfl)) rfl ?_
    exact ⟨_, by rw [HE.out, HI']; rfl, by rw [HW.out]; exact HO, HB4.setCell (by show w.heap.size ≤ w.heap.size + 1 + 1; omega) _⟩
  · -- new
    rw [seat, if_neg hin]
    have hlt2 : n2 < 1048576 := by rw [← HL.out]; exact hlt
    have d5 : ((n2 : Int) == 1048576) = false := by simp; omega
    have k30 : w4.cell? ⟨w.heap.size + 1, 0, none⟩ = some (.int .u64 x.Key) := by simp [World.cell?, P3]
    have k31 : w4.cell? ⟨w.heap.size + 1, 1, none⟩ = some (.int .i64 x.Up) := by simp [World.cell?, P3]
    have k32 : w4.cell? ⟨w.heap.size + 1, 2, none⟩ = some (.slice Ax nx cx) := by simp [World.cell?, P3]
    have RX4 := RX.out.below HB4
    have hnl : (l.length + 1) * 40 ≤ 140737488355328 := by rw [HL.out]; omega
    have hnm : l.length + 1 ≤ maxLen := by rw [HL.out]; unfold maxLen; omega
    have hgl : ∀ g, (Value.slice A2 n2 c2').ownBlock = some g → g < w4.heap.size := fun g hg => ho4.lt hg
    go_wp2_with (first | (at_builtin; refine wpList_cat rfl (.const (.slice none 0 0)) (.tmp 46) 46 rfl w4.heap.size 5 .u8 1 Try.underlying46 Try.infoU8 (.slice none 0 0) [] w.heap.size Ax nx cx x.Text rfl rfl (Own.nil _ _ _ _) RX4 (Nat.le_refl _) (by simp; omega) (by simp; omega) ?_; intro v5 w5 hown5 hext5; (simp only [List.nil_append] at hown5); obtain ⟨A5, n5, c5, rfl, hs5⟩ := hown5.slI; have hb5 : Below w4.heap.size w4 w5 := hext5.of_nil; have hz5 := hb5.size; have L2 := (hb5.block _ (lt_of_block P2)).trans P2; have L3 := (hb5.block _ (lt_of_block P3)).trans P3; have L4 := (hb5.block _ (lt_of_block P4)).trans P4; have z2 := cell_of_one L2; have z2f := free_of_one L2; have z30 : w5.cell? ⟨w.heap.size + 1, 0, none⟩ = some (.int .u64 x.Key) := (by simp [World.cell?, L3]); have z31 : w5.cell? ⟨w.heap.size + 1, 1, none⟩ = some (.int .i64 x.Up) := (by simp [World.cell?, L3]); have z32 : w5.cell? ⟨w.heap.size + 1, 2, none⟩ = some (.slice Ax nx cx) := (by simp [World.cell?, L3]); have z3f : w5.frozen? ⟨w.heap.size + 1, 2, none⟩ = false := (by simp [World.frozen?, L3]); have ho5 := (ho4.keep hb5).setLow (b := w.heap.size + 1) (by omega) (by omega) 2 (.slice A5 n5 c5); have hs6 := hs5.setLow (b := w.heap.size + 1) (by omega) 2 (.slice A5 n5 c5)) | (at_builtin; refine wpList_pushL (w := w5.setCell ⟨w.heap.size + 1, 2, none⟩ (.slice A5 n5 c5)) rfl (.tmp 50) (.tmp 52) 22 rfl w1.heap.size (some w1.heap.size) 62 _ 40 Try.underlying22 Try.infoTerm rfl (by decide) (.slice A2 n2 c2') l x #[.int .u64 x.Key, .int .i64 x.Up, .slice A5 n5 c5] (From (w5.setCell ⟨w.heap.size + 1, 2, none⟩ (.slice A5 n5 c5)) w4.heap.size) rfl (by rw [show (w5.setCell ⟨w.heap.size + 1, 2, none⟩ (.slice A5 n5 c5)).heap.size = w5.heap.size from by simp]; rfl) ho5 (rep_Term.2 ⟨A5, n5, c5, rfl, e1, e2, hs6⟩) (fun b hb => ⟨⟨by have := hb.1; omega, hb.2.2⟩, hb.2.1, fun he => by have := hgl b he.symm; have := hb.1; omega⟩) (by simp; omega) hnl hnm ?_; intro v7 w7 ho7 hext7; obtain ⟨A7, n7, c7, rfl, hs7⟩ := ho7.read; have hb7 : Below w1.heap.size (w5.setCell ⟨w.heap.size + 1, 2, none⟩ (.slice A5 n5 c5)) w7 := ho5.below hext7 (by simp; omega); have M2 := (hb7.block w.heap.size (by omega)).trans ((heap_setCell_other _ _ _ _ (by simp)).trans L2); have M4 := (hb7.block (w.heap.size + 1 + 1) (by omega)).trans ((heap_setCell_other _ _ _ _ (by simp)).trans L4); have m2 := cell_of_one M2; have m2f := free_of_one M2))
    have N2 := one_setCell (u := .slice A7 n7 c7) M2
    have N4 : (w7.setCell ⟨w.heap.size, 0, none⟩ (.slice A7 n7 c7)).heap[w.heap.size + 1 + 1]? = _ := (heap_setCell_other _ _ _ _ (by simp <;> omega)).trans M4
    have ho8 := ho7.setLow (b := w.heap.size) (by omega) (by omega) 0 (.slice A7 n7 c7)
    have HB8 : Below w.heap.size w (w7.setCell ⟨w.heap.size, 0, none⟩ (.slice A7 n7 c7)) := (((HB4.trans (hb5.mono HB4.size)).setCell (p := ⟨w.heap.size + 1, 2, none⟩) (by show w.heap.size ≤ w.heap.size + 1; omega) (.slice A5 n5 c5)).trans (hb7.mono (by omega))).setCell (Nat.le_refl _) _
    have hn7 : n7 = n2 + 1 := by have := hs7.len; simp at this; rw [HL.out] at this; omega
    subst hn7
    generalize w7.setCell ⟨w.heap.size, 0, none⟩ (.slice A7 (n2 + 1) c7) = W8 at *
    have x2 := cell_of_one N2
    clear m2 m2f z2 z2f z30 z31 z32 z3f k2 k4 k4f k30 k31 k32
    have ws : IntKind.i64.wrap (((n2 + 1 : Nat) : Int) - 1) = (n2 : Int) := by rw [show ((n2 + 1 : Nat) : Int) - 1 = (n2 : Int) by omega]; exact IntWalk.i64_in _ (by omega)
    have ws2 : IntKind.i64.wrap (n2 : Int) = (n2 : Int) := IntWalk.i64_in _ (by omega)
    have y4c := cell_of_one N4
    have y4f := free_of_one N4
    have hw4 : ∀ k : Nat, ((W8.drewN k).setCell ⟨w.heap.size + 1 + 1, 0, none⟩ (.slice A7 (n2 + 1) c7)).cell? ⟨w.heap.size, 0, none⟩ = some (.slice A7 (n2 + 1) c7) := fun k => cell_of_one ((heap_setCell_other _ _ _ _ (by simp <;> omega)).trans N2)
    have hw5 : ∀ k : Nat, (((W8.drewN k).setCell ⟨w.heap.size + 1 + 1, 0, none⟩ (.slice A7 (n2 + 1) c7)).cell? ⟨w.heap.size + 1 + 1, 0, none⟩).isSome = true := fun k => by rw [cell_of_one (one_setCell (w := W8.drewN k) N4)]; rfl
    have hw6 : ∀ k : Nat, ((W8.drewN k).setCell ⟨w.heap.size + 1 + 1, 0, none⟩ (.slice A7 (n2 + 1) c7)).frozen? ⟨w.heap.size + 1 + 1, 0, none⟩ = false := fun k => free_of_one (one_setCell (w := W8.drewN k) N4)
    go_region_held3 (fun w' => w'.cell? ⟨w.heap.size, 0, none⟩ = some (.slice A7 (n2 + 1) c7) ∧ (w'.cell? ⟨w.heap.size + 1 + 1, 0, none⟩).isSome = true ∧ w'.frozen? ⟨w.heap.size + 1 + 1, 0, none⟩ = false) (first | exact ⟨x2, by simp [y4c], y4f⟩ | exact ⟨hw4 1, hw5 1, hw6 1⟩ | go_keep) (fail)
    all_goals
      have y4 : (W8.drewN 1).heap[w.heap.size + 1 + 1]? = _ := N4
      have ho9 : OwnL lay_Term (W8.drewN 1) w1.heap.size (some w1.heap.size) 62 (.slice A7 (n2 + 1) c7) (l ++ [x]) := ho8.keep (bel_drewN (Below.refl _ _) 1)
      have HO := hid ((ho9.setLow (b := w.heap.size + 1 + 1) (by omega) (by omega) 0 (.slice A7 (n2 + 1) c7)).lows (base' := w.heap.size) (lo' := w.heap.size) (by omega) (by omega))
      have HB9 := hid ((bel_drewN HB8 1).setCell (p := ⟨w.heap.size + 1 + 1, 0, none⟩) (by show w.heap.size ≤ w.heap.size + 1 + 1; omega) (.slice A7 (n2 + 1) c7))
      go_wp2
      refine bodyPost_ret_by (results_ctt rfl _ _ (w.heap.size + 1 + 1) 0 rfl [.slice A7 (n2 + 1) c7] _ (range1 (cell_of_one (one_setCell y4))) Try.underlying24 rfl (by kernel_rfl)) rfl ?_
      exact ⟨_, by rw [HE.out, HI.out, HL.out]; rfl, by rw [HW.out]; exact HO.out, HB9.out⟩
end Go.Proofs.Ytgiapfenalhleaa
