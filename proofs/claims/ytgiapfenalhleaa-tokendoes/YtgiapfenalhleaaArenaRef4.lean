/-
  The contracts of the document's with, Root, and Next.
-/
import Derived.Test.YtgiapfenalhleaaArenaRef3
namespace Go.Proofs.Ytgiapfenalhleaa
open Go.RowKit Go.WalkArith

theorem three_blocks {w W : World} {a b c : Obj} (h : Below (w.heap.size + 3) (((w.alloc a).alloc b).alloc c) W) : W.heap[w.heap.size]? = some a ∧ W.heap[w.heap.size + 1]? = some b ∧ W.heap[w.heap.size + 1 + 1]? = some c := by
  refine ⟨(h.block _ (by omega)).trans ?_, (h.block _ (by omega)).trans ?_, (h.block _ (by omega)).trans ?_⟩
  · rw [heap_alloc_old _ _ (by simp <;> omega)]; exact heap_alloc2_old _ _ _
  · rw [heap_alloc_old _ _ (by simp)]; exact heap_alloc2_new _ _ _
  · have := heap_alloc2_new (w.alloc a) b c
    simpa using this

theorem OwnL.readS {α : Type} {L : Lay α} {w : World} {base : Nat} {lo : Option Nat} {e : TypeId} {A : Option Addr} {n c : Nat} {xs : List α} (h : OwnL L w base lo e (.slice A n c) xs) : Sl L w (· < w.heap.size) A n c xs := by
  obtain ⟨A', n', c', he, h'⟩ := h.read
  injection he with h1 h2 h3
  subst h1 h2 h3
  exact h'

set_option maxRecDepth 100000 in
set_option maxHeartbeats 4000000 in
theorem refWithA_any (s1 s2 : Array Value) (l : List Trm) (x : Trm) (w : World) (g1 : lay_Arena.rep w (· < w.heap.size) l s1.toList) (g2 : lay_Term.rep w (· < w.heap.size) x s2.toList) :
    Calls Try.prog 69 #[.agg s1, .agg s2] w fun e w' => ∃ v', e = .returned (.tuple #[.agg #[v'], .int .i64 (withI l x), .int .i64 (withE l x)]) ∧ OwnL lay_Term w' w.heap.size (some w.heap.size) 62 v' (withL l x) ∧ Below w.heap.size w w' := by
  obtain ⟨A, n, c, rfl, hA⟩ := agg_Arena g1
  obtain ⟨Ax, nx, cx, rfl, e1, e2, hX⟩ := agg_Term g2
  clear g1 g2
  have HL := hid hA.len
  have hcap := hA.cap
  have hcx := hX.cap
  unfold maxLen at hcap hcx
  have HLX := hid hX.len
  have bU := bounds_i64 e2
  have hz3 : (((w.alloc (Obj.cells #[.slice A n c] 24)).alloc (Obj.cells #[.int .u64 x.Key, .int .i64 x.Up, .slice Ax nx cx] 62)).alloc (Obj.cells #[.slice none 0 0] 24)).heap.size = w.heap.size + 3 := by simp
  have hb0 : Below w.heap.size w (((w.alloc (Obj.cells #[.slice A n c] 24)).alloc (Obj.cells #[.int .u64 x.Key, .int .i64 x.Up, .slice Ax nx cx] 62)).alloc (Obj.cells #[.slice none 0 0] 24)) := bel_alloc (bel_alloc (bel_alloc (Below.refl _ _) _) _) _
  have hB3 := fun (W : World) (h : Below (w.heap.size + 3) (((w.alloc (Obj.cells #[.slice A n c] 24)).alloc (Obj.cells #[.int .u64 x.Key, .int .i64 x.Up, .slice Ax nx cx] 62)).alloc (Obj.cells #[.slice none 0 0] 24)) W) => three_blocks h
  have PA := hid (fun (W : World) (h : Below w.heap.size w W) => (show lay_Arena.rep W (· < W.heap.size) l #[.slice A n c].toList from rep_Arena.2 ⟨A, n, c, rfl, (hA.keep fun _ hp => h.cell hp).wide fun b hb => Nat.lt_of_lt_of_le hb h.size⟩))
  have PX := hid (fun (W : World) (h : Below w.heap.size w W) => (show lay_Term.rep W (· < W.heap.size) x #[.int .u64 x.Key, .int .i64 x.Up, .slice Ax nx cx].toList from rep_Term.2 ⟨Ax, nx, cx, rfl, e1, e2, (hX.keep fun _ hp => h.cell hp).wide fun b hb => Nat.lt_of_lt_of_le hb h.size⟩))
  have RX := hid (hX.rd (B := w.heap.size) fun _ h => h)
  go_enter Try.func69, Try.ntmps69
  go_wp2_with fail
  generalize (((w.alloc (Obj.cells #[.slice A n c] 24)).alloc (Obj.cells #[.int .u64 x.Key, .int .i64 x.Up, .slice Ax nx cx] 62)).alloc (Obj.cells #[.slice none 0 0] 24)) = W0 at *
  have hz0 : w.heap.size ≤ W0.heap.size := hb0.size
  refine (refCheckA_any _ l W0 (PA.out W0 hb0)).mono ?_
  rintro e w1 ⟨rfl, hb1⟩
  have HB1 : Below w.heap.size w w1 := bel_call hb0 hb1
  have hz1 := hb1.size
  obtain ⟨q2, q3, q4⟩ := hB3 w1 (by rw [← hz3]; exact hb1)
  clear hB3 hb1 hb0
  have c2 := cell_of_one q2
  have c30 : w1.cell? ⟨w.heap.size + 1, 0, none⟩ = some (.int .u64 x.Key) := by simp [World.cell?, q3]
  have c31 : w1.cell? ⟨w.heap.size + 1, 1, none⟩ = some (.int .i64 x.Up) := by simp [World.cell?, q3]
  have c32 : w1.cell? ⟨w.heap.size + 1, 2, none⟩ = some (.slice Ax nx cx) := by simp [World.cell?, q3]
  have c4 := cell_of_one q4
  have f4 := free_of_one q4
  rcases with_cases (l := l) x with ⟨hE, hok, hU, hU1, hT, hin, hLs, hI⟩ | ⟨hE, hok, hU, hU1, hT, hin, hlt, hLs, hI⟩ | ⟨hE, hok, hU, hU1, hT, hin, hlt, hLs, hI⟩ | ⟨hE, hok, hU, hU1, hT, hLs, hI⟩ | ⟨hE, hno, hLs, hI⟩
  all_goals
    have HE := hid hE
    have HI := hid hI
    have HW := hid hLs
    clear hE hI hLs
  rotate_left 3
  · -- too long
    have har : arE l = 0 := if_pos hok
    rw [har]
    rw [HL.out] at hU
    have d1 : decide ((n : Int) ≤ x.Up) = false := by simp; omega
    have d2 : decide (x.Up < -1) = false := by simp; omega
    rw [HLX.out] at hT
    have d3 : decide ((4096 : Int) < (nx : Int)) = true := by simp; omega
    clear har hU hU1 hT
    go_wp2
    refine bodyPost_ret_by (results_ctt rfl _ _ (w.heap.size + 1 + 1) 0 rfl [.slice none 0 0] _ (range1 (cell_of_one (one_setCell q4))) Try.underlying24 rfl (by kernel_rfl)) rfl ?_
    exact ⟨_, by rw [HE.out, HI.out]; rfl, by rw [HW.out]; exact OwnL.nil _ _ _ _ _, HB1.setCell (by show w.heap.size ≤ w.heap.size + 1 + 1; omega) _⟩
  · -- no such
    by_cases hok : ArOk l
    · have har : arE l = 0 := if_pos hok
      rw [har]
      by_cases h1 : (n : Int) ≤ x.Up
      · clear har
        go_wp2
        refine bodyPost_ret_by (results_ctt rfl _ _ (w.heap.size + 1 + 1) 0 rfl [.slice none 0 0] _ (range1 (cell_of_one (one_setCell q4))) Try.underlying24 rfl (by kernel_rfl)) rfl ?_
        exact ⟨_, by rw [HE.out, HI.out]; rfl, by rw [HW.out]; exact OwnL.nil _ _ _ _ _, HB1.setCell (by show w.heap.size ≤ w.heap.size + 1 + 1; omega) _⟩
      · have d1 : decide ((n : Int) ≤ x.Up) = false := by simp; omega
        have d2 : decide (x.Up < -1) = true := by
          simp only [decide_eq_true_eq]
          rcases Int.lt_or_le x.Up (-1) with h | h
          · exact h
          · exact absurd ⟨hok, by rw [HL.out]; omega, h⟩ hno
        clear har hno h1
        go_wp2
        refine bodyPost_ret_by (results_ctt rfl _ _ (w.heap.size + 1 + 1) 0 rfl [.slice none 0 0] _ (range1 (cell_of_one (one_setCell q4))) Try.underlying24 rfl (by kernel_rfl)) rfl ?_
        exact ⟨_, by rw [HE.out, HI.out]; rfl, by rw [HW.out]; exact OwnL.nil _ _ _ _ _, HB1.setCell (by show w.heap.size ≤ w.heap.size + 1 + 1; omega) _⟩
    · have har : arE l = 1 := if_neg hok
      rw [har]
      clear har hno
      go_wp2
      refine bodyPost_ret_by (results_ctt rfl _ _ (w.heap.size + 1 + 1) 0 rfl [.slice none 0 0] _ (range1 (cell_of_one (one_setCell q4))) Try.underlying24 rfl (by kernel_rfl)) rfl ?_
      exact ⟨_, by rw [HE.out, HI.out]; rfl, by rw [HW.out]; exact OwnL.nil _ _ _ _ _, HB1.setCell (by show w.heap.size ≤ w.heap.size + 1 + 1; omega) _⟩
  all_goals
    have har : arE l = 0 := if_pos hok
    rw [har]
    rw [HL.out] at hU
    have d1 : decide ((n : Int) ≤ x.Up) = false := by simp; omega
    have d2 : decide (x.Up < -1) = false := by simp; omega
    rw [HLX.out] at hT
    have d3 : decide ((4096 : Int) < (nx : Int)) = false := by simp; omega
    clear har
    go_wp2_with fail
    refine (refCopy_any _ l w1 (PA.out w1 HB1) hok.1 (fun y hy => by obtain ⟨i, hi, rfl⟩ := List.getElem_of_mem hy; exact (hok.fit hi).2.2.2)).mono ?_
    rintro e w2 ⟨v2, rfl, ho2, hb2⟩
    obtain ⟨A2, n2, c2', rfl, hs2⟩ := ho2.read
    have hn2 : n2 = n := by rw [← hs2.len, HL.out]
    subst hn2
    have hz2 := hb2.size
    have Q2 := (hb2.block _ (lt_of_block q2)).trans q2
    have Q3 := (hb2.block _ (lt_of_block q3)).trans q3
    have Q4 := (hb2.block _ (lt_of_block q4)).trans q4
    have g2 := cell_of_one Q2
    have g2f := free_of_one Q2
    have g30 : w2.cell? ⟨w.heap.size + 1, 0, none⟩ = some (.int .u64 x.Key) := by simp [World.cell?, Q3]
    have g31 : w2.cell? ⟨w.heap.size + 1, 1, none⟩ = some (.int .i64 x.Up) := by simp [World.cell?, Q3]
    have g32 : w2.cell? ⟨w.heap.size + 1, 2, none⟩ = some (.slice Ax nx cx) := by simp [World.cell?, Q3]
    clear c2 c30 c31 c32 c4 f4 q2 q3 q4
    have hq2 := one_setCell (u := .slice A2 n2 c2') Q2
    have hq3 : (w2.setCell ⟨w.heap.size, 0, none⟩ (.slice A2 n2 c2')).heap[w.heap.size + 1]? = _ := (heap_setCell_other _ _ _ _ (by simp)).trans Q3
    have hq4 : (w2.setCell ⟨w.heap.size, 0, none⟩ (.slice A2 n2 c2')).heap[w.heap.size + 1 + 1]? = _ := (heap_setCell_other _ _ _ _ (by simp <;> omega)).trans Q4
    have ho3 := ho2.setLow (b := w.heap.size) (by omega) (by omega) 0 (.slice A2 n2 c2')
    have HB3 : Below w.heap.size w (w2.setCell ⟨w.heap.size, 0, none⟩ (.slice A2 n2 c2')) := (bel_call HB1 hb2).setCell (Nat.le_refl _) _
    have hs3 : (w2.setCell ⟨w.heap.size, 0, none⟩ (.slice A2 n2 c2')).heap.size = w2.heap.size := by simp
    go_wp2_with fail
    generalize w2.setCell ⟨w.heap.size, 0, none⟩ (.slice A2 n2 c2') = W3 at *
    refine (refPlace_any _ _ _ _ l x W3 ho3.readS (PX.out W3 HB3)).mono ?_
    rintro e w4 ⟨rfl, hb4⟩
    have HB4 : Below w.heap.size w w4 := bel_call HB3 hb4
    have hz4 := hb4.size
    have P2 := (hb4.block _ (lt_of_block hq2)).trans hq2
    have P3 := (hb4.block _ (lt_of_block hq3)).trans hq3
    have P4 := (hb4.block _ (lt_of_block hq4)).trans hq4
    have ho4 := ho3.keep hb4
    have k2 := cell_of_one P2
    have k4 := cell_of_one P4
    have k4f := free_of_one P4
    clear hq2 hq3 hq4 ho3 hb4 hb2 ho2 hs2 Q2 Q3 Q4 g2 g2f g30 g31 g32
  rotate_left 2
  · -- full
    rw [seat, if_neg hin]
    have hfull : n2 = 1048576 := by rw [← HL.out]; exact hlt
    have d5 : ((n2 : Int) == 1048576) = true := by simp; omega
    go_wp2
    refine bodyPost_ret_by (results_ctt rfl _ _ (w.heap.size + 1 + 1) 0 rfl [.slice none 0 0] _ (range1 (cell_of_one (one_setCell P4))) Try.underlying24 rfl (by kernel_rfl)) rfl ?_
    exact ⟨_, by rw [HE.out, HI.out]; rfl, by rw [HW.out]; exact OwnL.nil _ _ _ _ _, HB4.setCell (by show w.heap.size ≤ w.heap.size + 1 + 1; omega) _⟩
  · -- there
    rw [seat, if_pos hin]
    have HI' := HI.out
    generalize plc x l = pl at *
    have HO := (ho4.setLow (b := w.heap.size + 1 + 1) (by omega) (by omega) 0 (.slice A2 n2 c2')).lows (base' := w.heap.size) (lo' := w.heap.size) (by omega) (by omega)
    go_wp2
    refine bodyPost_ret_by (results_ctt rfl _ _ (w.heap.size + 1 + 1) 0 rfl [.slice A2 n2 c2'] _ (range1 (cell_of_one (one_setCell P4))) Try.underlying24 rfl (by kernel_rfl)) rfl ?_
    exact ⟨_, by rw [HE.out, HI']; rfl, by rw [HW.out]; exact HO, HB4.setCell (by show w.heap.size ≤ w.heap.size + 1 + 1; omega) _⟩
  · -- new
    rw [seat, if_neg hin]
    have hlt2 : n2 < 1048576 := by rw [← HL.out]; exact hlt
    have d5 : ((n2 : Int) == 1048576) = false := by simp; omega
    have k30 : w4.cell? ⟨w.heap.size + 1, 0, none⟩ = some (.int .u64 x.Key) := by simp [World.cell?, P3]
    have k31 : w4.cell? ⟨w.heap.size + 1, 1, none⟩ = some (.int .i64 x.Up) := by simp [World.cell?, P3]
    have k32 : w4.cell? ⟨w.heap.size + 1, 2, none⟩ = some (.slice Ax nx cx) := by simp [World.cell?, P3]
    have RX4 := RX.out.below HB4
    have hnl : (l.length + 1) * 40 ≤ 140737488355328 := by rw [HL.out]; omega
    have hnm : l.length + 1 ≤ maxLen := by rw [HL.out]; unfold maxLen; omega
    have hgl : ∀ g, (Value.slice A2 n2 c2').ownBlock = some g → g < w4.heap.size := fun g hg => ho4.lt hg
    go_wp2_with (first | (at_builtin; refine wpList_cat rfl (.const (.slice none 0 0)) (.tmp 46) 46 rfl w4.heap.size 5 .u8 1 Try.underlying46 Try.infoU8 (.slice none 0 0) [] w.heap.size Ax nx cx x.Text rfl rfl (Own.nil _ _ _ _) RX4 (Nat.le_refl _) (by simp; omega) (by simp; omega) ?_; intro v5 w5 hown5 hext5; (simp only [List.nil_append] at hown5); obtain ⟨A5, n5, c5, rfl, hs5⟩ := hown5.slI; have hb5 : Below w4.heap.size w4 w5 := hext5.of_nil; have hz5 := hb5.size; have L2 := (hb5.block _ (lt_of_block P2)).trans P2; have L3 := (hb5.block _ (lt_of_block P3)).trans P3; have L4 := (hb5.block _ (lt_of_block P4)).trans P4; have z2 := cell_of_one L2; have z2f := free_of_one L2; have z30 : w5.cell? ⟨w.heap.size + 1, 0, none⟩ = some (.int .u64 x.Key) := (by simp [World.cell?, L3]); have z31 : w5.cell? ⟨w.heap.size + 1, 1, none⟩ = some (.int .i64 x.Up) := (by simp [World.cell?, L3]); have z32 : w5.cell? ⟨w.heap.size + 1, 2, none⟩ = some (.slice Ax nx cx) := (by simp [World.cell?, L3]); have z3f : w5.frozen? ⟨w.heap.size + 1, 2, none⟩ = false := (by simp [World.frozen?, L3]); have ho5 := (ho4.keep hb5).setLow (b := w.heap.size + 1) (by omega) (by omega) 2 (.slice A5 n5 c5); have hs6 := hs5.setLow (b := w.heap.size + 1) (by omega) 2 (.slice A5 n5 c5)) | (at_builtin; refine wpList_pushL (w := w5.setCell ⟨w.heap.size + 1, 2, none⟩ (.slice A5 n5 c5)) rfl (.tmp 50) (.tmp 52) 22 rfl w1.heap.size (some w1.heap.size) 62 _ 40 Try.underlying22 Try.infoTerm rfl (by decide) (.slice A2 n2 c2') l x #[.int .u64 x.Key, .int .i64 x.Up, .slice A5 n5 c5] (From (w5.setCell ⟨w.heap.size + 1, 2, none⟩ (.slice A5 n5 c5)) w4.heap.size) rfl (by rw [show (w5.setCell ⟨w.heap.size + 1, 2, none⟩ (.slice A5 n5 c5)).heap.size = w5.heap.size from by simp]; rfl) ho5 (rep_Term.2 ⟨A5, n5, c5, rfl, e1, e2, hs6⟩) (fun b hb => ⟨⟨by have := hb.1; omega, hb.2.2⟩, hb.2.1, fun he => by have := hgl b he.symm; have := hb.1; omega⟩) (by simp; omega) hnl hnm ?_; intro v7 w7 ho7 hext7; obtain ⟨A7, n7, c7, rfl, hs7⟩ := ho7.read; have hb7 : Below w1.heap.size (w5.setCell ⟨w.heap.size + 1, 2, none⟩ (.slice A5 n5 c5)) w7 := ho5.below hext7 (by simp; omega); have M2 := (hb7.block w.heap.size (by omega)).trans ((heap_setCell_other _ _ _ _ (by simp)).trans L2); have M4 := (hb7.block (w.heap.size + 1 + 1) (by omega)).trans ((heap_setCell_other _ _ _ _ (by simp)).trans L4); have m2 := cell_of_one M2; have m2f := free_of_one M2))
    have N2 := one_setCell (u := .slice A7 n7 c7) M2
    have N4 : (w7.setCell ⟨w.heap.size, 0, none⟩ (.slice A7 n7 c7)).heap[w.heap.size + 1 + 1]? = _ := (heap_setCell_other _ _ _ _ (by simp <;> omega)).trans M4
    have ho8 := ho7.setLow (b := w.heap.size) (by omega) (by omega) 0 (.slice A7 n7 c7)
    have HB8 : Below w.heap.size w (w7.setCell ⟨w.heap.size, 0, none⟩ (.slice A7 n7 c7)) := (((HB4.trans (hb5.mono HB4.size)).setCell (p := ⟨w.heap.size + 1, 2, none⟩) (by show w.heap.size ≤ w.heap.size + 1; omega) (.slice A5 n5 c5)).trans (hb7.mono (by omega))).setCell (Nat.le_refl _) _
    have hn7 : n7 = n2 + 1 := by have := hs7.len; simp at this; rw [HL.out] at this; omega
    subst hn7
    generalize w7.setCell ⟨w.heap.size, 0, none⟩ (.slice A7 (n2 + 1) c7) = W8 at *
    have x2 := cell_of_one N2
    clear m2 m2f z2 z2f z30 z31 z32 z3f k2 k4 k4f k30 k31 k32
    have ws : IntKind.i64.wrap (((n2 + 1 : Nat) : Int) - 1) = (n2 : Int) := by rw [show ((n2 + 1 : Nat) : Int) - 1 = (n2 : Int) by omega]; exact IntWalk.i64_in _ (by omega)
    have ws2 : IntKind.i64.wrap (n2 : Int) = (n2 : Int) := IntWalk.i64_in _ (by omega)
    have y4c := cell_of_one N4
    have y4f := free_of_one N4
    have hw4 : ∀ k : Nat, ((W8.drewN k).setCell ⟨w.heap.size + 1 + 1, 0, none⟩ (.slice A7 (n2 + 1) c7)).cell? ⟨w.heap.size, 0, none⟩ = some (.slice A7 (n2 + 1) c7) := fun k => cell_of_one ((heap_setCell_other _ _ _ _ (by simp <;> omega)).trans N2)
    have hw5 : ∀ k : Nat, (((W8.drewN k).setCell ⟨w.heap.size + 1 + 1, 0, none⟩ (.slice A7 (n2 + 1) c7)).cell? ⟨w.heap.size + 1 + 1, 0, none⟩).isSome = true := fun k => by rw [cell_of_one (one_setCell (w := W8.drewN k) N4)]; rfl
    have hw6 : ∀ k : Nat, ((W8.drewN k).setCell ⟨w.heap.size + 1 + 1, 0, none⟩ (.slice A7 (n2 + 1) c7)).frozen? ⟨w.heap.size + 1 + 1, 0, none⟩ = false := fun k => free_of_one (one_setCell (w := W8.drewN k) N4)
    go_region_held3 (fun w' => w'.cell? ⟨w.heap.size, 0, none⟩ = some (.slice A7 (n2 + 1) c7) ∧ (w'.cell? ⟨w.heap.size + 1 + 1, 0, none⟩).isSome = true ∧ w'.frozen? ⟨w.heap.size + 1 + 1, 0, none⟩ = false) (first | exact ⟨x2, by simp [y4c], y4f⟩ | exact ⟨hw4 1, hw5 1, hw6 1⟩ | go_keep) (fail)
    all_goals
      have y4 : (W8.drewN 1).heap[w.heap.size + 1 + 1]? = _ := N4
      have ho9 : OwnL lay_Term (W8.drewN 1) w1.heap.size (some w1.heap.size) 62 (.slice A7 (n2 + 1) c7) (l ++ [x]) := ho8.keep (bel_drewN (Below.refl _ _) 1)
      have HO := hid ((ho9.setLow (b := w.heap.size + 1 + 1) (by omega) (by omega) 0 (.slice A7 (n2 + 1) c7)).lows (base' := w.heap.size) (lo' := w.heap.size) (by omega) (by omega))
      have HB9 := hid ((bel_drewN HB8 1).setCell (p := ⟨w.heap.size + 1 + 1, 0, none⟩) (by show w.heap.size ≤ w.heap.size + 1 + 1; omega) (.slice A7 (n2 + 1) c7))
      go_wp2
      refine bodyPost_ret_by (results_ctt rfl _ _ (w.heap.size + 1 + 1) 0 rfl [.slice A7 (n2 + 1) c7] _ (range1 (cell_of_one (one_setCell y4))) Try.underlying24 rfl (by kernel_rfl)) rfl ?_
      exact ⟨_, by rw [HE.out, HI.out, HL.out]; rfl, by rw [HW.out]; exact HO.out, HB9.out⟩
end Go.Proofs.Ytgiapfenalhleaa
