/-
  The contracts of package arena's Root, Next, and Find.
-/
import Derived.Test.YthcikbmekjmmlaaArena4
import Derived.Test.YthcikbmekjmmlaaArenaRef5
namespace Go.Proofs.Ythcikbmekjmmlaa
open Go.RowKit Go.WalkArith

set_option maxRecDepth 100000 in
set_option maxHeartbeats 2000000 in
theorem aRoot_any (s1 : Array Value) (l : List Trm) (k : Int) (A : Option Addr) (n c : Nat) (t : List Int) (w : World) (g1 : lay_Arena.rep w (· < w.heap.size) l s1.toList) (hk : (Lit.int .u64 k).wf = true) (hr : Rd w w.heap.size .u8 A n c t) :
    Calls Try.prog 12 #[.agg s1, .int .u64 k, .slice A n c] w fun e w' => ∃ v', e = .returned (.tuple #[.agg #[v'], .int .i64 (withI l (rootT k t)), .int .i64 (withE l (rootT k t))]) ∧ OwnL lay_Term w' w.heap.size (some w.heap.size) 39 v' (withL l (rootT k t)) ∧ Below w.heap.size w w' := by
  obtain ⟨A1, n1, c1, rfl, hA⟩ := agg_Arena g1
  clear g1
  have hb0 : Below w.heap.size w ((w.alloc (Obj.cells #[.slice A1 n1 c1] 24)).alloc (Obj.cells #[.slice none 0 0] 24)) := bel_alloc (bel_alloc (Below.refl _ _) _) _
  have hB2 := fun (W : World) (h : Below (w.heap.size + 2) ((w.alloc (Obj.cells #[.slice A1 n1 c1] 24)).alloc (Obj.cells #[.slice none 0 0] 24)) W) => two_blocks2 h
  have hz : ((w.alloc (Obj.cells #[.slice A1 n1 c1] 24)).alloc (Obj.cells #[.slice none 0 0] 24)).heap.size = w.heap.size + 2 := by simp
  have P := hid (Sl.call hA hb0)
  have R := hid (Sl.call hr.sl hb0)
  clear hA hr
  go_enter Try.func12, Try.ntmps12
  go_wp2_with fail
  generalize ((w.alloc (Obj.cells #[.slice A1 n1 c1] 24)).alloc (Obj.cells #[.slice none 0 0] 24)) = W0 at *
  refine (aWith_any _ _ l (rootT k t) W0 (rep_Arena.2 ⟨_, _, _, rfl, P.out⟩) (rep_Term.2 ⟨_, _, _, rfl, hk, (by decide : (Lit.int .i64 (-1)).wf = true), R.out⟩) ⟨by show (-1 : Int) < _; omega, by show (-1 : Int) ≤ -1; omega⟩).mono ?_
  rintro e w1 ⟨v1, rfl, ho1, hb1⟩
  obtain ⟨A2, n2, c2, rfl, hs2⟩ := ho1.read
  obtain ⟨q2, q3⟩ := hB2 w1 (by rw [← hz]; exact hb1)
  have HB1 : Below w.heap.size w w1 := bel_call hb0 hb1
  have c3 := cell_of_one q3
  have f3 := free_of_one q3
  have HO := (ho1.setLow (b := w.heap.size + 1) (by omega) (by omega) 0 (.slice A2 n2 c2)).lows (base' := w.heap.size) (lo' := w.heap.size) (by omega) (by omega)
  clear hB2 hb1 hb0 hs2 ho1
  go_wp2
  refine bodyPost_ret_by (results_ctt rfl _ _ (w.heap.size + 1) 0 rfl [.slice A2 n2 c2] _ (range1 (cell_of_one (one_setCell q3))) Try.underlying24 rfl (by kernel_rfl)) rfl ?_
  exact ⟨_, rfl, HO, HB1.setCell (by show w.heap.size ≤ w.heap.size + 1; omega) _⟩

theorem next_eq {l : List Trm} {u : Int} {t : List Int} (hu : 0 ≤ u) : nextE l u t = withE l (nextT u t) ∧ nextL l u t = withL l (nextT u t) ∧ nextI l u t = withI l (nextT u t) := by
  have h1 : nextE l u t = withE l (nextT u t) := if_neg (by omega)
  refine ⟨h1, ?_, ?_⟩
  · rw [nextL, h1]
    by_cases h : withE l (nextT u t) = 0
    · rw [if_pos h]
    · rw [if_neg h, withL, if_neg h]
  · rw [nextI, h1]
    by_cases h : withE l (nextT u t) = 0
    · rw [if_pos h]
    · rw [if_neg h, withI, if_neg h]
theorem next_no {l : List Trm} {u : Int} {t : List Int} (hu : ¬ (0 ≤ u ∧ u < l.length)) : nextE l u t = 1 ∧ nextL l u t = [] ∧ nextI l u t = 0 := by
  have h1 : nextE l u t = 1 := by
    unfold nextE
    split
    · rfl
    · rw [withE, if_neg]
      rintro ⟨-, h, -⟩
      exact hu ⟨by omega, h⟩
  exact ⟨h1, by rw [nextL, h1]; rfl, by rw [nextI, h1]; rfl⟩

set_option maxRecDepth 100000 in
set_option maxHeartbeats 2000000 in
theorem aNext_any (s1 : Array Value) (l : List Trm) (u : Int) (A : Option Addr) (n c : Nat) (t : List Int) (w : World) (g1 : lay_Arena.rep w (· < w.heap.size) l s1.toList) (hk : (Lit.int .i64 u).wf = true) (hr : Rd w w.heap.size .u8 A n c t) :
    Calls Try.prog 14 #[.agg s1, .int .i64 u, .slice A n c] w fun e w' => ∃ v', e = .returned (.tuple #[.agg #[v'], .int .i64 (nextI l u t), .int .i64 (nextE l u t)]) ∧ OwnL lay_Term w' w.heap.size (some w.heap.size) 39 v' (nextL l u t) ∧ Below w.heap.size w w' := by
  obtain ⟨A1, n1, c1, rfl, hA⟩ := agg_Arena g1
  clear g1
  have hb0 : Below w.heap.size w ((w.alloc (Obj.cells #[.slice A1 n1 c1] 24)).alloc (Obj.cells #[.slice none 0 0] 24)) := bel_alloc (bel_alloc (Below.refl _ _) _) _
  have hB2 := fun (W : World) (h : Below (w.heap.size + 2) ((w.alloc (Obj.cells #[.slice A1 n1 c1] 24)).alloc (Obj.cells #[.slice none 0 0] 24)) W) => two_blocks2 h
  have hz : ((w.alloc (Obj.cells #[.slice A1 n1 c1] 24)).alloc (Obj.cells #[.slice none 0 0] 24)).heap.size = w.heap.size + 2 := by simp
  have P := hid (fun (W : World) (h : Below w.heap.size w W) => Sl.call hA h)
  have R := hid (fun (W : World) (h : Below w.heap.size w W) => Sl.call hr.sl h)
  have HIT := hid (isTag_any _ l u _ (rep_Arena.2 ⟨_, _, _, rfl, P.out _ hb0⟩) hk)
  clear hA hr
  by_cases hu : 0 ≤ u ∧ u < l.length
  · obtain ⟨x1, x2, x3⟩ := next_eq (l := l) (t := t) hu.1
    rw [decide_eq_true hu.1, decide_eq_true hu.2, Bool.and_true] at HIT
    rw [x1, x2, x3]
    clear x1 x2 x3
    go_enter Try.func14, Try.ntmps14
    go_wp2_with fail
    generalize ((w.alloc (Obj.cells #[.slice A1 n1 c1] 24)).alloc (Obj.cells #[.slice none 0 0] 24)) = W0 at *
    refine HIT.out.mono ?_
    rintro e w1 ⟨rfl, hb1⟩
    obtain ⟨q2, q3⟩ := hB2 w1 (by rw [← hz]; exact hb1)
    have HB1 : Below w.heap.size w w1 := bel_call hb0 hb1
    have hz1 := hb1.size
    have c2 := cell_of_one q2
    clear hB2 hb1 hb0
    go_wp2_with fail
    refine (aWith_any _ _ l (nextT u t) w1 (rep_Arena.2 ⟨_, _, _, rfl, P.out _ HB1⟩) (rep_Term.2 ⟨_, _, _, rfl, (by decide : (Lit.int .u64 0).wf = true), hk, R.out _ HB1⟩) ⟨hu.2, by show -1 ≤ u; omega⟩).mono ?_
    rintro e w2 ⟨v2, rfl, ho2, hb2⟩
    obtain ⟨A2, n2, c2', rfl, hs2⟩ := ho2.read
    have Q3 := (hb2.block _ (lt_of_block q3)).trans q3
    have HB2 := bel_call HB1 hb2
    have c3 := cell_of_one Q3
    have f3 := free_of_one Q3
    have HO := hid ((ho2.setLow (b := w.heap.size + 1) (by omega) (by omega) 0 (.slice A2 n2 c2')).lows (base' := w.heap.size) (lo' := w.heap.size) (by omega) (by omega))
    have HB9 := hid (HB2.setCell (p := ⟨w.heap.size + 1, 0, none⟩) (by show w.heap.size ≤ w.heap.size + 1; omega) (.slice A2 n2 c2'))
    clear hs2 ho2 hb2
    go_wp2
    refine bodyPost_ret_by (results_ctt rfl _ _ (w.heap.size + 1) 0 rfl [.slice A2 n2 c2'] _ (range1 (cell_of_one (one_setCell Q3))) Try.underlying24 rfl (by kernel_rfl)) rfl ?_
    exact ⟨_, rfl, HO.out, HB9.out⟩
  · obtain ⟨x1, x2, x3⟩ := next_no (l := l) (t := t) hu
    have hff : (decide (0 ≤ u) && decide (u < (l.length : Int))) = false := by
      rw [Bool.and_eq_false_iff, decide_eq_false_iff_not, decide_eq_false_iff_not]
      by_cases h : 0 ≤ u
      · exact .inr fun h2 => hu ⟨h, h2⟩
      · exact .inl h
    rw [hff] at HIT
    rw [x1, x2, x3]
    clear x1 x2 x3 hff
    go_enter Try.func14, Try.ntmps14
    go_wp2_with fail
    generalize ((w.alloc (Obj.cells #[.slice A1 n1 c1] 24)).alloc (Obj.cells #[.slice none 0 0] 24)) = W0 at *
    refine HIT.out.mono ?_
    rintro e w1 ⟨rfl, hb1⟩
    obtain ⟨q2, q3⟩ := hB2 w1 (by rw [← hz]; exact hb1)
    have HB1 : Below w.heap.size w w1 := bel_call hb0 hb1
    have c3 := cell_of_one q3
    have f3 := free_of_one q3
    clear hB2 hb1 hb0
    go_wp2
    refine bodyPost_ret_by (results_ctt rfl _ _ (w.heap.size + 1) 0 rfl [.slice none 0 0] _ (range1 (cell_of_one (one_setCell q3))) Try.underlying24 rfl (by kernel_rfl)) rfl ?_
    exact ⟨_, rfl, OwnL.nil _ _ _ _ _, HB1.setCell (by show w.heap.size ≤ w.heap.size + 1; omega) _⟩
end Go.Proofs.Ythcikbmekjmmlaa
