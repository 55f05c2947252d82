/-
  The contracts of the document's State and open of layer 12.
-/
import Derived.Test.YtannjlejghmfpaaInvoiceRef4
import Derived.Deep.Cut
import Derived.Deep.CutRange
namespace Go.Proofs.Ytannjlejghmfpaa
open Go.RowKit Go.WalkArith

set_option maxRecDepth 100000 in
set_option maxHeartbeats 4000000 in
theorem refState12_any (A : Option Addr) (n c : Nat) (l : List Inv) (id t : Int) (w : World) (h0 : Sl lay_Invoice w (· < w.heap.size) A n c l) :
    Calls Try.prog 20 #[.slice A n c, .int .u64 id, .int .u64 t] w fun e w' => e = .returned (.tuple #[.int .i64 (stV l id t), .int .i64 (stE l id)]) ∧ Below w.heap.size w w' := by
  have KA := hid (fun (W : World) (h : Below w.heap.size w W) => Sl.call h0 h)
  clear h0
  have HB := Below.refl w.heap.size w
  go_enter Try.func20, Try.ntmps20
  by_cases hg : InOk l
  rotate_left
  · have QI := hid (show inE l = 1 from if_neg hg)
    have Q1 := hid (st_bad hg id t).1
    have Q2 := hid (st_bad hg id t).2
    clear hg
    go_wp2_with fail
    with_reducible refine (refCheck12_any _ _ _ l _ (KA.out _ HB)).mono ?_
    rw [QI.out]
    rintro e w1 ⟨rfl, hb⟩
    replace HB := bel_call HB hb
    clear hb
    go_wp2
    go_ret2
    exact ⟨by rw [Q1.out, Q2.out]; rfl, HB⟩
  have QI := hid (show inE l = 0 from if_pos hg)
  have HG := hid hg
  clear hg
  go_wp2_with fail
  with_reducible refine (refCheck12_any _ _ _ l _ (KA.out _ HB)).mono ?_
  rw [QI.out]
  rintro e w1 ⟨rfl, hb⟩
  replace HB := bel_call HB hb
  clear hb
  cases hf : invF l id with
  | none =>
    have Q1 := hid (st_none HG.out hf t).1
    have Q2 := hid (st_none HG.out hf t).2
    have HF := hid hf
    clear hf
    go_wp2_with fail
    with_reducible refine (refFind12_any _ _ _ l id _ (KA.out _ HB)).mono ?_
    rw [HF.out]
    rintro e w2 ⟨rfl, hb⟩
    replace HB := bel_call HB hb
    clear hb
    have hba := bel_alloc HB (Obj.cells #[.int .u64 zeroI.Hash, .int .u64 zeroI.N, .int .u64 zeroI.Till, .int .i64 zeroI.State] 37)
    go_wp2
    go_ret2
    exact ⟨by rw [Q1.out, Q2.out]; rfl, hba⟩
  | some x =>
    have Q1 := hid (show stE l id = 0 from by unfold stE; rw [if_pos HG.out, hf])
    have Q2 := hid (show stV l id t = stateI x t from by unfold stV; rw [if_pos HG.out, hf])
    have HF := hid hf
    clear hf
    go_wp2_with fail
    with_reducible refine (refFind12_any _ _ _ l id _ (KA.out _ HB)).mono ?_
    rw [HF.out, Option.getD_some, Option.isSome_some]
    rintro e w2 ⟨rfl, hb⟩
    replace HB := bel_call HB hb
    clear hb
    have hba := bel_alloc (Below.refl w2.heap.size w2) (Obj.cells #[.int .u64 x.Hash, .int .u64 x.N, .int .u64 x.Till, .int .i64 x.State] 37)
    have B5 : Box (w2.alloc (Obj.cells #[.int .u64 x.Hash, .int .u64 x.N, .int .u64 x.Till, .int .i64 x.State] 37)) w2.heap.size 37 [.int .u64 x.Hash, .int .u64 x.N, .int .u64 x.Till, .int .i64 x.State] := Box.new w2 _ _
    replace HB := bel_call HB hba
    clear hba
    go_upto_region 4 with (fail)
    generalize w2.alloc (Obj.cells #[.int .u64 x.Hash, .int .u64 x.N, .int .u64 x.Till, .int .i64 x.State] 37) = W5 at *
    generalize hg : w2.heap.size = g5 at *
    clear hg
    have K5 := hid (fun (W : World) (h : Below W5.heap.size W5 W) => (show W.cell? ⟨g5, 0, none⟩ = some (.int .u64 x.Hash) ∧ W.cell? ⟨g5, 1, none⟩ = some (.int .u64 x.N) ∧ W.cell? ⟨g5, 2, none⟩ = some (.int .u64 x.Till) ∧ W.cell? ⟨g5, 3, none⟩ = some (.int .i64 x.State) from ⟨(B5.call h).at_ 0 rfl, (B5.call h).at_ 1 rfl, (B5.call h).at_ 2 rfl, (B5.call h).at_ 3 rfl⟩))
    have HB5 := Below.refl W5.heap.size W5
    clear B5
    obtain ⟨p5x0, p5x1, p5x2, p5x3⟩ := K5.out _ HB5
    cases hl : lateI x t
    · have Q3 := hid (show stateI x t = x.State from by unfold stateI; rw [hl]; rfl)
      have QL := hid hl
      clear hl
      go_wp2_with fail
      with_reducible refine (refLate12_any x t _).mono ?_
      rw [QL.out]
      rintro e w3 ⟨rfl, hb⟩
      replace HB := bel_call HB hb
      replace HB5 := bel_call HB5 hb
      clear p5x0 p5x1 p5x2 p5x3
      clear hb
      obtain ⟨p5x0, p5x1, p5x2, p5x3⟩ := K5.out _ HB5
      go_wp2
      go_ret2
      exact ⟨by rw [Q1.out, Q2.out, Q3.out]; rfl, HB⟩
    · have Q3 := hid (show stateI x t = 4 from by unfold stateI; rw [hl]; rfl)
      have QL := hid hl
      clear hl
      go_wp2_with fail
      with_reducible refine (refLate12_any x t _).mono ?_
      rw [QL.out]
      rintro e w3 ⟨rfl, hb⟩
      replace HB := bel_call HB hb
      replace HB5 := bel_call HB5 hb
      clear p5x0 p5x1 p5x2 p5x3
      clear hb
      obtain ⟨p5x0, p5x1, p5x2, p5x3⟩ := K5.out _ HB5
      go_wp2
      go_ret2
      exact ⟨by rw [Q1.out, Q2.out, Q3.out]; rfl, HB⟩

set_option maxRecDepth 100000 in
set_option maxHeartbeats 4000000 in
theorem refOpen12_any (A : Option Addr) (n c : Nat) (l : List Inv) (id t : Int) (w : World) (h0 : Sl lay_Invoice w (· < w.heap.size) A n c l) :
    Calls Try.prog 33 #[.slice A n c, .int .u64 id, .int .u64 t] w fun e w' => e = .returned (.tuple #[invV (onI l id t), .int .i64 (onE l id t)]) ∧ Below w.heap.size w w' := by
  have KA := hid (fun (W : World) (h : Below w.heap.size w W) => Sl.call h0 h)
  clear h0
  have HB : Below w.heap.size w (w.alloc (Obj.cells #[.int .u64 zeroI.Hash, .int .u64 zeroI.N, .int .u64 zeroI.Till, .int .i64 zeroI.State] 37)) := bel_alloc (Below.refl _ _) _
  have V : Box (w.alloc (Obj.cells #[.int .u64 zeroI.Hash, .int .u64 zeroI.N, .int .u64 zeroI.Till, .int .i64 zeroI.State] 37)) w.heap.size 37 [.int .u64 0, .int .u64 0, .int .u64 0, .int .i64 0] := Box.new w _ _
  go_enter Try.func33, Try.ntmps33
  obtain ⟨se, hse⟩ : ∃ z, stE l id = z := ⟨_, rfl⟩
  have Qse := hid hse
  clear hse
  obtain ⟨sv, hsv⟩ : ∃ z, stV l id t = z := ⟨_, rfl⟩
  have Qsv := hid hsv
  clear hsv
  by_cases e1 : se = 0
  rotate_left
  · have d1 : (se != 0) = true := by simpa using e1
    have Q1 := hid (show onE l id t = se from by unfold onE; rw [Qse.out, if_pos e1])
    have Q2 := hid (show onI l id t = zeroI from if_neg (by rw [Q1.out]; exact e1))
    clear e1
    go_wp2_with fail
    with_reducible refine (refState12_any _ _ _ l id t _ (KA.out _ HB)).mono ?_
    rw [Qse.out, Qsv.out]
    rintro e w1 ⟨rfl, hb⟩
    replace HB := bel_call HB hb
    replace V := V.call hb
    clear hb
    have k0 := V.at_ 0 rfl
    have k1 := V.at_ 1 rfl
    have k2 := V.at_ 2 rfl
    have k3 := V.at_ 3 rfl
    have f0 := V.f 0
    have f1 := V.f 1
    have f2 := V.f 2
    have f3 := V.f 3
    have V9 := hid (show Box _ w.heap.size 37 [.int .u64 0, .int .u64 0, .int .u64 0, .int .i64 0] from ((((V.put 0 (.int .u64 0)).put 1 (.int .u64 0)).put 2 (.int .u64 0)).put 3 (.int .i64 0)))
    have HB9 := hid (((((HB.setCell (p := ⟨w.heap.size, 0, none⟩) (Nat.le_refl _) (.int .u64 0)).setCell (p := ⟨w.heap.size, 1, none⟩) (Nat.le_refl _) (.int .u64 0)).setCell (p := ⟨w.heap.size, 2, none⟩) (Nat.le_refl _) (.int .u64 0)).setCell (p := ⟨w.heap.size, 3, none⟩) (Nat.le_refl _) (.int .i64 0)))
    clear V
    go_wp2
    refine bodyPost_ret_by (results_ct rfl _ _ w.heap.size 0 rfl [.int .u64 0, .int .u64 0, .int .u64 0, .int .i64 0] _ V9.out.range Try.underlying37 rfl (by kernel_rfl)) rfl ?_
    exact ⟨by rw [Q1.out, Q2.out]; rfl, HB9.out⟩
  subst e1
  by_cases e2 : sv = 4
  · have Q1 := hid (show onE l id t = 13 from by unfold onE; rw [Qse.out, Qsv.out, if_neg (by decide), if_pos e2])
    have Q2 := hid (show onI l id t = zeroI from if_neg (by rw [Q1.out]; decide))
    subst e2
    go_wp2_with fail
    with_reducible refine (refState12_any _ _ _ l id t _ (KA.out _ HB)).mono ?_
    rw [Qse.out, Qsv.out]
    rintro e w1 ⟨rfl, hb⟩
    replace HB := bel_call HB hb
    replace V := V.call hb
    clear hb
    have k0 := V.at_ 0 rfl
    have k1 := V.at_ 1 rfl
    have k2 := V.at_ 2 rfl
    have k3 := V.at_ 3 rfl
    have f0 := V.f 0
    have f1 := V.f 1
    have f2 := V.f 2
    have f3 := V.f 3
    have V9 := hid (show Box _ w.heap.size 37 [.int .u64 0, .int .u64 0, .int .u64 0, .int .i64 0] from ((((V.put 0 (.int .u64 0)).put 1 (.int .u64 0)).put 2 (.int .u64 0)).put 3 (.int .i64 0)))
    have HB9 := hid (((((HB.setCell (p := ⟨w.heap.size, 0, none⟩) (Nat.le_refl _) (.int .u64 0)).setCell (p := ⟨w.heap.size, 1, none⟩) (Nat.le_refl _) (.int .u64 0)).setCell (p := ⟨w.heap.size, 2, none⟩) (Nat.le_refl _) (.int .u64 0)).setCell (p := ⟨w.heap.size, 3, none⟩) (Nat.le_refl _) (.int .i64 0)))
    clear V
    go_wp2
    refine bodyPost_ret_by (results_ct rfl _ _ w.heap.size 0 rfl [.int .u64 0, .int .u64 0, .int .u64 0, .int .i64 0] _ V9.out.range Try.underlying37 rfl (by kernel_rfl)) rfl ?_
    exact ⟨by rw [Q1.out, Q2.out]; rfl, HB9.out⟩
  have d2 : (sv == 4) = false := by simpa using e2
  by_cases e3 : sv = 1
  rotate_left
  · have d3 : (sv != 1) = true := by simpa using e3
    have Q1 := hid (show onE l id t = 10 from by unfold onE; rw [Qse.out, Qsv.out, if_neg (by decide), if_neg e2, if_pos e3])
    have Q2 := hid (show onI l id t = zeroI from if_neg (by rw [Q1.out]; decide))
    clear e2 e3
    go_wp2_with fail
    with_reducible refine (refState12_any _ _ _ l id t _ (KA.out _ HB)).mono ?_
    rw [Qse.out, Qsv.out]
    rintro e w1 ⟨rfl, hb⟩
    replace HB := bel_call HB hb
    replace V := V.call hb
    clear hb
    have k0 := V.at_ 0 rfl
    have k1 := V.at_ 1 rfl
    have k2 := V.at_ 2 rfl
    have k3 := V.at_ 3 rfl
    have f0 := V.f 0
    have f1 := V.f 1
    have f2 := V.f 2
    have f3 := V.f 3
    have V9 := hid (show Box _ w.heap.size 37 [.int .u64 0, .int .u64 0, .int .u64 0, .int .i64 0] from ((((V.put 0 (.int .u64 0)).put 1 (.int .u64 0)).put 2 (.int .u64 0)).put 3 (.int .i64 0)))
    have HB9 := hid (((((HB.setCell (p := ⟨w.heap.size, 0, none⟩) (Nat.le_refl _) (.int .u64 0)).setCell (p := ⟨w.heap.size, 1, none⟩) (Nat.le_refl _) (.int .u64 0)).setCell (p := ⟨w.heap.size, 2, none⟩) (Nat.le_refl _) (.int .u64 0)).setCell (p := ⟨w.heap.size, 3, none⟩) (Nat.le_refl _) (.int .i64 0)))
    clear V
    go_wp2
    refine bodyPost_ret_by (results_ct rfl _ _ w.heap.size 0 rfl [.int .u64 0, .int .u64 0, .int .u64 0, .int .i64 0] _ V9.out.range Try.underlying37 rfl (by kernel_rfl)) rfl ?_
    exact ⟨by rw [Q1.out, Q2.out]; rfl, HB9.out⟩
  subst e3
  clear e2
  have Q1 := hid (show onE l id t = 0 from by unfold onE; rw [Qse.out, Qsv.out, if_neg (by decide), if_neg (by decide), if_neg (by decide)])
  obtain ⟨-, x, hx1, hx2, -⟩ := on_is Q1.out
  have Q2 := hid hx2
  have HF := hid hx1
  clear hx1 hx2
  go_wp2_with fail
  with_reducible refine (refState12_any _ _ _ l id t _ (KA.out _ HB)).mono ?_
  rw [Qse.out, Qsv.out]
  rintro e w1 ⟨rfl, hb⟩
  replace HB := bel_call HB hb
  replace V := V.call hb
  clear hb
  go_wp2_with fail
  with_reducible refine (refFind12_any _ _ _ l id _ (KA.out _ HB)).mono ?_
  rw [HF.out, Option.getD_some, Option.isSome_some]
  rintro e w2 ⟨rfl, hb⟩
  replace HB := bel_call HB hb
  replace V := V.call hb
  clear hb
  have hba := bel_alloc (Below.refl w2.heap.size w2) (Obj.cells #[.int .u64 x.Hash, .int .u64 x.N, .int .u64 x.Till, .int .i64 x.State] 37)
  have B5 : Box (w2.alloc (Obj.cells #[.int .u64 x.Hash, .int .u64 x.N, .int .u64 x.Till, .int .i64 x.State] 37)) w2.heap.size 37 [.int .u64 x.Hash, .int .u64 x.N, .int .u64 x.Till, .int .i64 x.State] := Box.new w2 _ _
  replace V := V.call hba
  replace HB := bel_call HB hba
  clear hba
  go_upto_region 9 with (fail)
  generalize w2.alloc (Obj.cells #[.int .u64 x.Hash, .int .u64 x.N, .int .u64 x.Till, .int .i64 x.State] 37) = W5 at *
  generalize hg : w2.heap.size = g5 at *
  clear hg
  have K5 := hid (fun (W : World) (h : Below W5.heap.size W5 W) => (show W.cell? ⟨g5, 0, none⟩ = some (.int .u64 x.Hash) ∧ W.cell? ⟨g5, 1, none⟩ = some (.int .u64 x.N) ∧ W.cell? ⟨g5, 2, none⟩ = some (.int .u64 x.Till) ∧ W.cell? ⟨g5, 3, none⟩ = some (.int .i64 x.State) from ⟨(B5.call h).at_ 0 rfl, (B5.call h).at_ 1 rfl, (B5.call h).at_ 2 rfl, (B5.call h).at_ 3 rfl⟩))
  have HB5 := Below.refl W5.heap.size W5
  clear B5
  obtain ⟨p5x0, p5x1, p5x2, p5x3⟩ := K5.out _ HB5
  have k0 := V.at_ 0 rfl
  have k1 := V.at_ 1 rfl
  have k2 := V.at_ 2 rfl
  have k3 := V.at_ 3 rfl
  have f0 := V.f 0
  have f1 := V.f 1
  have f2 := V.f 2
  have f3 := V.f 3
  have V9 := hid (show Box _ w.heap.size 37 [.int .u64 x.Hash, .int .u64 x.N, .int .u64 x.Till, .int .i64 x.State] from ((((V.put 0 (.int .u64 x.Hash)).put 1 (.int .u64 x.N)).put 2 (.int .u64 x.Till)).put 3 (.int .i64 x.State)))
  have HB9 := hid (((((HB.setCell (p := ⟨w.heap.size, 0, none⟩) (Nat.le_refl _) (.int .u64 x.Hash)).setCell (p := ⟨w.heap.size, 1, none⟩) (Nat.le_refl _) (.int .u64 x.N)).setCell (p := ⟨w.heap.size, 2, none⟩) (Nat.le_refl _) (.int .u64 x.Till)).setCell (p := ⟨w.heap.size, 3, none⟩) (Nat.le_refl _) (.int .i64 x.State)))
  clear V
  go_wp2
  refine bodyPost_ret_by (results_ct rfl _ _ w.heap.size 0 rfl [.int .u64 x.Hash, .int .u64 x.N, .int .u64 x.Till, .int .i64 x.State] _ V9.out.range Try.underlying37 rfl (by kernel_rfl)) rfl ?_
  exact ⟨by rw [Q1.out, Q2.out]; rfl, HB9.out⟩
end Go.Proofs.Ytannjlejghmfpaa
