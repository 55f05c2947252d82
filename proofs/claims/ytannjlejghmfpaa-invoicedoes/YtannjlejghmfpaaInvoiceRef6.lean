/-
  The contracts of the document's Cancel and Pay of layer 12.
-/
import Derived.Test.YtannjlejghmfpaaInvoiceRef5
import Derived.Deep.Cut
import Derived.Deep.CutRange
namespace Go.Proofs.Ytannjlejghmfpaa
open Go.RowKit Go.WalkArith

set_option maxRecDepth 100000 in
set_option maxHeartbeats 4000000 in
theorem refCancel12_any (A : Option Addr) (n c : Nat) (l : List Inv) (id t : Int) (w : World) (h0 : Sl lay_Invoice w (· < w.heap.size) A n c l) :
    Calls Try.prog 14 #[.slice A n c, .int .u64 id, .int .u64 t] w fun e w' => ∃ v, e = .returned (.tuple #[v, .int .i64 (onE l id t)]) ∧ OwnL lay_Invoice w' w.heap.size (some w.heap.size) 37 v (cnL l id t) ∧ Below w.heap.size w w' := by
  have HL := hid h0.len
  have hcap := h0.cap
  unfold maxLen at hcap
  have KA := hid (fun (W : World) (h : Below w.heap.size w W) => Sl.call h0 h)
  have HWF := hid (wfs_Invoice h0)
  clear h0
  have HB := Below.refl w.heap.size w
  go_enter Try.func14, Try.ntmps14
  obtain ⟨ce, hce⟩ : ∃ z, onE l id t = z := ⟨_, rfl⟩
  have Qce := hid hce
  clear hce
  by_cases e1 : ce = 0
  rotate_left
  · have d1 : (ce != 0) = true := by simpa using e1
    have Q1 := hid (show onE l id t = ce from Qce.out)
    have Q2 := hid (show cnL l id t = [] from if_neg (by rw [Qce.out]; exact e1))
    clear e1
    obtain ⟨ci, hci⟩ : ∃ z, onI l id t = z := ⟨_, rfl⟩
    have Qci := hid hci
    clear hci
    go_wp2_with fail
    with_reducible refine (refOpen12_any _ _ _ l id t _ (KA.out _ HB)).mono ?_
    rw [Qce.out, Qci.out]
    rintro e w1 ⟨rfl, hb⟩
    replace HB := bel_call HB hb
    clear hb
    have hba := bel_alloc (Below.refl w1.heap.size w1) (Obj.cells #[.int .u64 ci.Hash, .int .u64 ci.N, .int .u64 ci.Till, .int .i64 ci.State] 37)
    have B5 : Box (w1.alloc (Obj.cells #[.int .u64 ci.Hash, .int .u64 ci.N, .int .u64 ci.Till, .int .i64 ci.State] 37)) w1.heap.size 37 [.int .u64 ci.Hash, .int .u64 ci.N, .int .u64 ci.Till, .int .i64 ci.State] := Box.new w1 _ _
    replace HB := bel_call HB hba
    clear hba
    go_upto_region 2 with (fail)
    generalize w1.alloc (Obj.cells #[.int .u64 ci.Hash, .int .u64 ci.N, .int .u64 ci.Till, .int .i64 ci.State] 37) = W5 at *
    generalize hg : w1.heap.size = g5 at *
    clear hg
    have K5 := hid (fun (W : World) (h : Below W5.heap.size W5 W) => (show W.cell? ⟨g5, 0, none⟩ = some (.int .u64 ci.Hash) ∧ W.cell? ⟨g5, 1, none⟩ = some (.int .u64 ci.N) ∧ W.cell? ⟨g5, 2, none⟩ = some (.int .u64 ci.Till) ∧ W.cell? ⟨g5, 3, none⟩ = some (.int .i64 ci.State) from ⟨(B5.call h).at_ 0 rfl, (B5.call h).at_ 1 rfl, (B5.call h).at_ 2 rfl, (B5.call h).at_ 3 rfl⟩))
    have HB5 := Below.refl W5.heap.size W5
    clear B5
    obtain ⟨p5x0, p5x1, p5x2, p5x3⟩ := K5.out _ HB5
    go_wp2
    go_ret2
    exact ⟨.slice none 0 0, by rw [Q1.out]; rfl, by rw [Q2.out]; exact OwnL.nil _ _ _ _ _, HB⟩
  subst e1
  obtain ⟨hg, x, -, hx2, hx3, hxh, hx5, -⟩ := on_is Qce.out
  have hn : n ≤ 1000 := by have := hg.1; rw [HL.out] at this; omega
  have hxw := HWF.out x hx3
  have HOI := hid hx2
  clear hx2
  have Q1 := hid (show onE l id t = 0 from Qce.out)
  have Q2 := hid (show cnL l id t = withI l ⟨x.Hash, x.N, x.Till, 3⟩ from by unfold cnL; rw [if_pos Q1.out, HOI.out])
  clear hxh hx5 hx3 hg
  go_wp2_with fail
  with_reducible refine (refOpen12_any _ _ _ l id t _ (KA.out _ HB)).mono ?_
  rw [Qce.out, HOI.out]
  rintro e w1 ⟨rfl, hb⟩
  replace HB := bel_call HB hb
  clear hb
  have hba := bel_alloc (Below.refl w1.heap.size w1) (Obj.cells #[.int .u64 x.Hash, .int .u64 x.N, .int .u64 x.Till, .int .i64 x.State] 37)
  have B5 : Box (w1.alloc (Obj.cells #[.int .u64 x.Hash, .int .u64 x.N, .int .u64 x.Till, .int .i64 x.State] 37)) w1.heap.size 37 [.int .u64 x.Hash, .int .u64 x.N, .int .u64 x.Till, .int .i64 x.State] := Box.new w1 _ _
  have HLOW := hid (show w.heap.size ≤ w1.heap.size from HB.size)
  replace HB := bel_call HB hba
  clear hba
  go_upto_region 2 with (fail)
  generalize w1.alloc (Obj.cells #[.int .u64 x.Hash, .int .u64 x.N, .int .u64 x.Till, .int .i64 x.State] 37) = W5 at *
  generalize hg5 : w1.heap.size = g5 at *
  clear hg5
  have k0 := B5.at_ 0 rfl
  have k1 := B5.at_ 1 rfl
  have k2 := B5.at_ 2 rfl
  have k3 := B5.at_ 3 rfl
  have f3 := B5.f 3
  have B6 := hid (show Box _ g5 37 [.int .u64 x.Hash, .int .u64 x.N, .int .u64 x.Till, .int .i64 3] from B5.put 3 (.int .i64 3))
  have HB6 := hid (HB.setCell (p := ⟨g5, 3, none⟩) HLOW.out (.int .i64 3))
  clear B5 HB
  go_upto_region 5 with (fail)
  generalize hW6 : W5.setCell ⟨g5, 3, none⟩ (.int .i64 3) = W6 at *
  clear hW6 k0 k1 k2 k3 f3
  have HB := HB6.out
  have k0 := B6.out.at_ 0 rfl
  have k1 := B6.out.at_ 1 rfl
  have k2 := B6.out.at_ 2 rfl
  have k3 := B6.out.at_ 3 rfl
  have HLOW2 := hid HB.size
  go_wp2_with fail
  with_reducible refine (refWith12_any _ _ _ l _ ⟨x.Hash, x.N, x.Till, 3⟩ _ (KA.out _ HB) hn (rep_Invoice.2 ⟨rfl, ⟨hxw.w0, hxw.w1, hxw.w2, (by decide : (Lit.int .i64 3).wf = true)⟩⟩)).mono ?_
  rintro e w2 ⟨v, rfl, hv, hb⟩
  replace HB := bel_call HB hb
  clear hb
  have HVO := hid (hv.lows HLOW2.out HLOW2.out)
  clear hv k0 k1 k2 k3
  go_wp2
  go_ret2
  exact ⟨v, by rw [Q1.out]; rfl, by rw [Q2.out]; exact HVO.out, HB⟩

set_option maxRecDepth 100000 in
set_option maxHeartbeats 4000000 in
theorem refPay12_any (A : Option Addr) (n c : Nat) (l : List Inv) (id m t : Int) (w : World) (h0 : Sl lay_Invoice w (· < w.heap.size) A n c l) :
    Calls Try.prog 16 #[.slice A n c, .int .u64 id, .int .u64 m, .int .u64 t] w fun e w' => ∃ v, e = .returned (.tuple #[v, .int .i64 (pyE l id m t)]) ∧ OwnL lay_Invoice w' w.heap.size (some w.heap.size) 37 v (pyL l id m t) ∧ Below w.heap.size w w' := by
  have HL := hid h0.len
  have hcap := h0.cap
  unfold maxLen at hcap
  have KA := hid (fun (W : World) (h : Below w.heap.size w W) => Sl.call h0 h)
  have HWF := hid (wfs_Invoice h0)
  clear h0
  have HB := Below.refl w.heap.size w
  go_enter Try.func16, Try.ntmps16
  obtain ⟨ce, hce⟩ : ∃ z, onE l id t = z := ⟨_, rfl⟩
  have Qce := hid hce
  clear hce
  by_cases e1 : ce = 0
  rotate_left
  · have d1 : (ce != 0) = true := by simpa using e1
    have Q1 := hid (show pyE l id m t = ce from by unfold pyE; rw [Qce.out, if_pos e1])
    have Q2 := hid (show pyL l id m t = [] from if_neg (by rw [Q1.out]; exact e1))
    clear e1
    obtain ⟨ci, hci⟩ : ∃ z, onI l id t = z := ⟨_, rfl⟩
    have Qci := hid hci
    clear hci
    go_wp2_with fail
    with_reducible refine (refOpen12_any _ _ _ l id t _ (KA.out _ HB)).mono ?_
    rw [Qce.out, Qci.out]
    rintro e w1 ⟨rfl, hb⟩
    replace HB := bel_call HB hb
    clear hb
    have hba := bel_alloc (Below.refl w1.heap.size w1) (Obj.cells #[.int .u64 ci.Hash, .int .u64 ci.N, .int .u64 ci.Till, .int .i64 ci.State] 37)
    have B5 : Box (w1.alloc (Obj.cells #[.int .u64 ci.Hash, .int .u64 ci.N, .int .u64 ci.Till, .int .i64 ci.State] 37)) w1.heap.size 37 [.int .u64 ci.Hash, .int .u64 ci.N, .int .u64 ci.Till, .int .i64 ci.State] := Box.new w1 _ _
    replace HB := bel_call HB hba
    clear hba
    go_upto_region 2 with (fail)
    generalize w1.alloc (Obj.cells #[.int .u64 ci.Hash, .int .u64 ci.N, .int .u64 ci.Till, .int .i64 ci.State] 37) = W5 at *
    generalize hg : w1.heap.size = g5 at *
    clear hg
    have K5 := hid (fun (W : World) (h : Below W5.heap.size W5 W) => (show W.cell? ⟨g5, 0, none⟩ = some (.int .u64 ci.Hash) ∧ W.cell? ⟨g5, 1, none⟩ = some (.int .u64 ci.N) ∧ W.cell? ⟨g5, 2, none⟩ = some (.int .u64 ci.Till) ∧ W.cell? ⟨g5, 3, none⟩ = some (.int .i64 ci.State) from ⟨(B5.call h).at_ 0 rfl, (B5.call h).at_ 1 rfl, (B5.call h).at_ 2 rfl, (B5.call h).at_ 3 rfl⟩))
    have HB5 := Below.refl W5.heap.size W5
    clear B5
    obtain ⟨p5x0, p5x1, p5x2, p5x3⟩ := K5.out _ HB5
    go_wp2
    go_ret2
    exact ⟨.slice none 0 0, by rw [Q1.out]; rfl, by rw [Q2.out]; exact OwnL.nil _ _ _ _ _, HB⟩
  subst e1
  obtain ⟨hg, x, -, hx2, hx3, hxh, hx5, -⟩ := on_is Qce.out
  have hn : n ≤ 1000 := by have := hg.1; rw [HL.out] at this; omega
  have hxw := HWF.out x hx3
  have HOI := hid hx2
  clear hx2
  by_cases e2 : m < x.N
  · have d2 : decide (m < x.N) = true := decide_eq_true e2
    have Q1 := hid (show pyE l id m t = 9 from by unfold pyE; rw [Qce.out, if_neg (by decide), HOI.out, if_pos e2])
    have Q2 := hid (show pyL l id m t = [] from if_neg (by rw [Q1.out]; decide))
    clear e2 hxh hx5 hx3 hg
    go_wp2_with fail
    with_reducible refine (refOpen12_any _ _ _ l id t _ (KA.out _ HB)).mono ?_
    rw [Qce.out, HOI.out]
    rintro e w1 ⟨rfl, hb⟩
    replace HB := bel_call HB hb
    clear hb
    have hba := bel_alloc (Below.refl w1.heap.size w1) (Obj.cells #[.int .u64 x.Hash, .int .u64 x.N, .int .u64 x.Till, .int .i64 x.State] 37)
    have B5 : Box (w1.alloc (Obj.cells #[.int .u64 x.Hash, .int .u64 x.N, .int .u64 x.Till, .int .i64 x.State] 37)) w1.heap.size 37 [.int .u64 x.Hash, .int .u64 x.N, .int .u64 x.Till, .int .i64 x.State] := Box.new w1 _ _
    replace HB := bel_call HB hba
    clear hba
    go_upto_region 2 with (fail)
    generalize w1.alloc (Obj.cells #[.int .u64 x.Hash, .int .u64 x.N, .int .u64 x.Till, .int .i64 x.State] 37) = W5 at *
    generalize hg : w1.heap.size = g5 at *
    clear hg
    have K5 := hid (fun (W : World) (h : Below W5.heap.size W5 W) => (show W.cell? ⟨g5, 0, none⟩ = some (.int .u64 x.Hash) ∧ W.cell? ⟨g5, 1, none⟩ = some (.int .u64 x.N) ∧ W.cell? ⟨g5, 2, none⟩ = some (.int .u64 x.Till) ∧ W.cell? ⟨g5, 3, none⟩ = some (.int .i64 x.State) from ⟨(B5.call h).at_ 0 rfl, (B5.call h).at_ 1 rfl, (B5.call h).at_ 2 rfl, (B5.call h).at_ 3 rfl⟩))
    have HB5 := Below.refl W5.heap.size W5
    clear B5
    obtain ⟨p5x0, p5x1, p5x2, p5x3⟩ := K5.out _ HB5
    go_wp2
    go_ret2
    exact ⟨.slice none 0 0, by rw [Q1.out]; rfl, by rw [Q2.out]; exact OwnL.nil _ _ _ _ _, HB⟩
  have d2 : decide (m < x.N) = false := decide_eq_false e2
  have Q1 := hid (show pyE l id m t = 0 from by unfold pyE; rw [Qce.out, if_neg (by decide), HOI.out, if_neg e2])
  have Q2 := hid (show pyL l id m t = withI l ⟨x.Hash, x.N, x.Till, 2⟩ from by unfold pyL; rw [if_pos Q1.out, HOI.out])
  clear e2
  clear hxh hx5 hx3 hg
  go_wp2_with fail
  with_reducible refine (refOpen12_any _ _ _ l id t _ (KA.out _ HB)).mono ?_
  rw [Qce.out, HOI.out]
  rintro e w1 ⟨rfl, hb⟩
  replace HB := bel_call HB hb
  clear hb
  have hba := bel_alloc (Below.refl w1.heap.size w1) (Obj.cells #[.int .u64 x.Hash, .int .u64 x.N, .int .u64 x.Till, .int .i64 x.State] 37)
  have B5 : Box (w1.alloc (Obj.cells #[.int .u64 x.Hash, .int .u64 x.N, .int .u64 x.Till, .int .i64 x.State] 37)) w1.heap.size 37 [.int .u64 x.Hash, .int .u64 x.N, .int .u64 x.Till, .int .i64 x.State] := Box.new w1 _ _
  have HLOW := hid (show w.heap.size ≤ w1.heap.size from HB.size)
  replace HB := bel_call HB hba
  clear hba
  go_upto_region 2 with (fail)
  generalize w1.alloc (Obj.cells #[.int .u64 x.Hash, .int .u64 x.N, .int .u64 x.Till, .int .i64 x.State] 37) = W5 at *
  generalize hg5 : w1.heap.size = g5 at *
  clear hg5
  have k0 := B5.at_ 0 rfl
  have k1 := B5.at_ 1 rfl
  have k2 := B5.at_ 2 rfl
  have k3 := B5.at_ 3 rfl
  have f3 := B5.f 3
  have B6 := hid (show Box _ g5 37 [.int .u64 x.Hash, .int .u64 x.N, .int .u64 x.Till, .int .i64 2] from B5.put 3 (.int .i64 2))
  have HB6 := hid (HB.setCell (p := ⟨g5, 3, none⟩) HLOW.out (.int .i64 2))
  clear B5 HB
  go_upto_region 7 with (fail)
  generalize hW6 : W5.setCell ⟨g5, 3, none⟩ (.int .i64 2) = W6 at *
  clear hW6 k0 k1 k2 k3 f3
  have HB := HB6.out
  have k0 := B6.out.at_ 0 rfl
  have k1 := B6.out.at_ 1 rfl
  have k2 := B6.out.at_ 2 rfl
  have k3 := B6.out.at_ 3 rfl
  have HLOW2 := hid HB.size
  go_wp2_with fail
  with_reducible refine (refWith12_any _ _ _ l _ ⟨x.Hash, x.N, x.Till, 2⟩ _ (KA.out _ HB) hn (rep_Invoice.2 ⟨rfl, ⟨hxw.w0, hxw.w1, hxw.w2, (by decide : (Lit.int .i64 2).wf = true)⟩⟩)).mono ?_
  rintro e w2 ⟨v, rfl, hv, hb⟩
  replace HB := bel_call HB hb
  clear hb
  have HVO := hid (hv.lows HLOW2.out HLOW2.out)
  clear hv k0 k1 k2 k3
  go_wp2
  go_ret2
  exact ⟨v, by rw [Q1.out]; rfl, by rw [Q2.out]; exact HVO.out, HB⟩
end Go.Proofs.Ytannjlejghmfpaa
