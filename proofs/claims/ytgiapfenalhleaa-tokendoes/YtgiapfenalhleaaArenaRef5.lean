/-
  The contracts of the document's Root, and Next.
-/
import Derived.Test.YtgiapfenalhleaaArenaRef4
namespace Go.Proofs.Ytgiapfenalhleaa
open Go.RowKit Go.WalkArith

theorem two_blocks2 {w W : World} {a b : Obj} (h : Below (w.heap.size + 2) ((w.alloc a).alloc b) W) : W.heap[w.heap.size]? = some a ∧ W.heap[w.heap.size + 1]? = some b :=
  ⟨(h.block _ (by omega)).trans (heap_alloc2_old _ _ _), (h.block _ (by omega)).trans (heap_alloc2_new _ _ _)⟩

set_option maxRecDepth 100000 in
set_option maxHeartbeats 2000000 in
theorem refRootA_any (s1 : Array Value) (l : List Trm) (k : Int) (A n c) (t : List Int) (w : World) (g1 : lay_Arena.rep w (· < w.heap.size) l s1.toList) (hk : (Lit.int .u64 k).wf = true) (hr : Rd w w.heap.size .u8 A n c t) :
    Calls Try.prog 35 #[.agg s1, .int .u64 k, .slice A n c] w fun e w' => ∃ v', e = .returned (.tuple #[.agg #[v'], .int .i64 (withI l (rootT k t)), .int .i64 (withE l (rootT k t))]) ∧ OwnL lay_Term w' w.heap.size (some w.heap.size) 62 v' (withL l (rootT k t)) ∧ Below w.heap.size w w' := by
  obtain ⟨A1, n1, c1, rfl, hA⟩ := agg_Arena g1
  clear g1
  have hz : ((w.alloc (Obj.cells #[.slice A1 n1 c1] 24)).alloc (Obj.cells #[.slice none 0 0] 24)).heap.size = w.heap.size + 2 := by simp
  have hb0 : Below w.heap.size w ((w.alloc (Obj.cells #[.slice A1 n1 c1] 24)).alloc (Obj.cells #[.slice none 0 0] 24)) := bel_alloc (bel_alloc (Below.refl _ _) _) _
  have hB2 := fun (W : World) (h : Below (w.heap.size + 2) ((w.alloc (Obj.cells #[.slice A1 n1 c1] 24)).alloc (Obj.cells #[.slice none 0 0] 24)) W) => two_blocks2 h
  have PA := hid (show lay_Arena.rep ((w.alloc (Obj.cells #[.slice A1 n1 c1] 24)).alloc (Obj.cells #[.slice none 0 0] 24)) (· < ((w.alloc (Obj.cells #[.slice A1 n1 c1] 24)).alloc (Obj.cells #[.slice none 0 0] 24)).heap.size) l #[.slice A1 n1 c1].toList from rep_Arena.2 ⟨A1, n1, c1, rfl, (hA.keep fun _ hp => hb0.cell hp).wide fun b hb => Nat.lt_of_lt_of_le hb hb0.size⟩)
  have PX := hid (show lay_Term.rep ((w.alloc (Obj.cells #[.slice A1 n1 c1] 24)).alloc (Obj.cells #[.slice none 0 0] 24)) (· < ((w.alloc (Obj.cells #[.slice A1 n1 c1] 24)).alloc (Obj.cells #[.slice none 0 0] 24)).heap.size) (rootT k t) #[.int .u64 k, .int .i64 (-1), .slice A n c].toList from rep_Term.2 ⟨A, n, c, rfl, hk, (show (Lit.int .i64 (-1)).wf = true from by decide), (hr.sl.keep fun _ hp => hb0.cell hp).wide fun b hb => Nat.lt_of_lt_of_le hb hb0.size⟩)
  clear hA hr
  go_enter Try.func35, Try.ntmps35
  go_wp2_with fail
  generalize ((w.alloc (Obj.cells #[.slice A1 n1 c1] 24)).alloc (Obj.cells #[.slice none 0 0] 24)) = W0 at *
  refine (refWithA_any _ _ l (rootT k t) W0 PA.out PX.out).mono ?_
  rintro e w1 ⟨v1, rfl, ho1, hb1⟩
  obtain ⟨A2, n2, c2, rfl, hs2⟩ := ho1.read
  obtain ⟨q2, q3⟩ := hB2 w1 (by rw [← hz]; exact hb1)
  have HB1 : Below w.heap.size w w1 := bel_call hb0 hb1
  have c3 := cell_of_one q3
  have f3 := free_of_one q3
  have HO := (ho1.setLow (b := w.heap.size + 1) (by omega) (by omega) 0 (.slice A2 n2 c2)).lows (base' := w.heap.size) (lo' := w.heap.size) (by omega) (by omega)
  clear hB2 hb1 hb0 hs2 ho1
  go_wp2
  refine bodyPost_ret_by (results_ctt rfl _ _ (w.heap.size + 1) 0 rfl [.slice A2 n2 c2] _ (range1 (cell_of_one (one_setCell q3))) Try.underlying24 rfl (by kernel_rfl)) rfl ?_
  exact ⟨_, rfl, HO, HB1.setCell (by show w.heap.size ≤ w.heap.size + 1; omega) _⟩

set_option maxRecDepth 100000 in
set_option maxHeartbeats 2000000 in
theorem refNextA_any (s1 : Array Value) (l : List Trm) (u : Int) (A n c) (t : List Int) (w : World) (g1 : lay_Arena.rep w (· < w.heap.size) l s1.toList) (hk : (Lit.int .i64 u).wf = true) (hr : Rd w w.heap.size .u8 A n c t) :
    Calls Try.prog 43 #[.agg s1, .int .i64 u, .slice A n c] w fun e w' => ∃ v', e = .returned (.tuple #[.agg #[v'], .int .i64 (nextI l u t), .int .i64 (nextE l u t)]) ∧ OwnL lay_Term w' w.heap.size (some w.heap.size) 62 v' (nextL l u t) ∧ Below w.heap.size w w' := by
  obtain ⟨A1, n1, c1, rfl, hA⟩ := agg_Arena g1
  clear g1
  have hz : ((w.alloc (Obj.cells #[.slice A1 n1 c1] 24)).alloc (Obj.cells #[.slice none 0 0] 24)).heap.size = w.heap.size + 2 := by simp
  have hb0 : Below w.heap.size w ((w.alloc (Obj.cells #[.slice A1 n1 c1] 24)).alloc (Obj.cells #[.slice none 0 0] 24)) := bel_alloc (bel_alloc (Below.refl _ _) _) _
  have hB2 := fun (W : World) (h : Below (w.heap.size + 2) ((w.alloc (Obj.cells #[.slice A1 n1 c1] 24)).alloc (Obj.cells #[.slice none 0 0] 24)) W) => two_blocks2 h
  have hB0 := hB2 ((w.alloc (Obj.cells #[.slice A1 n1 c1] 24)).alloc (Obj.cells #[.slice none 0 0] 24)) (Below.refl _ _)
  have PA := hid (show lay_Arena.rep ((w.alloc (Obj.cells #[.slice A1 n1 c1] 24)).alloc (Obj.cells #[.slice none 0 0] 24)) (· < ((w.alloc (Obj.cells #[.slice A1 n1 c1] 24)).alloc (Obj.cells #[.slice none 0 0] 24)).heap.size) l #[.slice A1 n1 c1].toList from rep_Arena.2 ⟨A1, n1, c1, rfl, (hA.keep fun _ hp => hb0.cell hp).wide fun b hb => Nat.lt_of_lt_of_le hb hb0.size⟩)
  have PX := hid (show lay_Term.rep ((w.alloc (Obj.cells #[.slice A1 n1 c1] 24)).alloc (Obj.cells #[.slice none 0 0] 24)) (· < ((w.alloc (Obj.cells #[.slice A1 n1 c1] 24)).alloc (Obj.cells #[.slice none 0 0] 24)).heap.size) (nextT u t) #[.int .u64 0, .int .i64 u, .slice A n c].toList from rep_Term.2 ⟨A, n, c, rfl, (show (Lit.int .u64 0).wf = true from by decide), hk, (hr.sl.keep fun _ hp => hb0.cell hp).wide fun b hb => Nat.lt_of_lt_of_le hb hb0.size⟩)
  clear hA hr
  by_cases hu : u < 0
  · have hE : nextE l u t = 1 := if_pos hu
    have HI := hid (show nextI l u t = 0 from if_neg (by rw [hE]; decide))
    have HW := hid (show nextL l u t = [] from if_neg (by rw [hE]; decide))
    have HE := hid hE
    clear hE PA PX hB2
    obtain ⟨q2, q3⟩ := hB0
    go_enter Try.func43, Try.ntmps43
    go_wp2
    refine bodyPost_ret_by (results_ctt rfl _ _ (w.heap.size + 1) 0 rfl [.slice none 0 0] _ (range1 (by go_simp)) Try.underlying24 rfl (by kernel_rfl)) rfl ?_
    exact ⟨_, by rw [HE.out, HI.out]; rfl, by rw [HW.out]; exact OwnL.nil _ _ _ _ _, by (repeat (first | exact Below.refl _ _ | refine Below.drew ?_ | refine bel_drewN ?_ _ | refine bel_alloc ?_ _ | refine bel_call ?_ (by assumption)))⟩
  · have hd : decide (u < 0) = false := by simpa using hu
    have hE : nextE l u t = withE l (nextT u t) := if_neg hu
    have HR := hid (show nextE l u t = withE l (nextT u t) ∧ nextI l u t = withI l (nextT u t) ∧ nextL l u t = withL l (nextT u t) from by
      refine ⟨hE, ?_, ?_⟩
      · rw [nextI, hE, withI]
        by_cases h : withE l (nextT u t) = 0
        · rw [if_pos h, if_pos h]
        · rw [if_neg h, if_neg h]
      · rw [nextL, hE, withL]
        by_cases h : withE l (nextT u t) = 0
        · rw [if_pos h, if_pos h]
        · rw [if_neg h, if_neg h])
    clear hE hu hB0
    go_enter Try.func43, Try.ntmps43
    go_wp2_with fail
    generalize ((w.alloc (Obj.cells #[.slice A1 n1 c1] 24)).alloc (Obj.cells #[.slice none 0 0] 24)) = W0 at *
    refine (refWithA_any _ _ l (nextT u t) W0 PA.out PX.out).mono ?_
    rintro e w1 ⟨v1, rfl, ho1, hb1⟩
    obtain ⟨A2, n2, c2, rfl, hs2⟩ := ho1.read
    obtain ⟨q2, q3⟩ := hB2 w1 (by rw [← hz]; exact hb1)
    have HB1 : Below w.heap.size w w1 := bel_call hb0 hb1
    have c3 := cell_of_one q3
    have f3 := free_of_one q3
    have HO := (ho1.setLow (b := w.heap.size + 1) (by omega) (by omega) 0 (.slice A2 n2 c2)).lows (base' := w.heap.size) (lo' := w.heap.size) (by omega) (by omega)
    clear hB2 hb1 hb0 hs2 ho1
    go_wp2
    refine bodyPost_ret_by (results_ctt rfl _ _ (w.heap.size + 1) 0 rfl [.slice A2 n2 c2] _ (range1 (cell_of_one (one_setCell q3))) Try.underlying24 rfl (by kernel_rfl)) rfl ?_
    exact ⟨_, by rw [HR.out.1, HR.out.2.1]; rfl, by rw [HR.out.2.2]; exact HO, HB1.setCell (by show w.heap.size ≤ w.heap.size + 1; omega) _⟩
end Go.Proofs.Ytgiapfenalhleaa
