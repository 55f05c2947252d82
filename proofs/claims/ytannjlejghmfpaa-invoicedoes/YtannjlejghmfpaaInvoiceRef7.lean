/-
  The contracts of the document's Create and Sweep of layer 12.
-/
import Derived.Test.YtannjlejghmfpaaInvoiceRef5
import Derived.Deep.Cut
import Derived.Deep.CutRange
namespace Go.Proofs.Ytannjlejghmfpaa
open Go.RowKit Go.WalkArith

set_option maxRecDepth 100000 in
set_option maxHeartbeats 4000000 in
theorem refCreate12_any (A : Option Addr) (n c : Nat) (l : List Inv) (id m t : Int) (w : World) (h0 : Sl lay_Invoice w (· < w.heap.size) A n c l) (hid0 : (Lit.int .u64 id).wf = true) (hm : (Lit.int .u64 m).wf = true) (ht : (Lit.int .u64 t).wf = true) :
    Calls Try.prog 12 #[.slice A n c, .int .u64 id, .int .u64 m, .int .u64 t] w fun e w' => ∃ v, e = .returned (.tuple #[v, .int .i64 (crE l id m)]) ∧ OwnL lay_Invoice w' w.heap.size (some w.heap.size) 37 v (crL l id m t) ∧ Below w.heap.size w w' := by
  have HL := hid h0.len
  have hcap := h0.cap
  unfold maxLen at hcap
  have KA := hid (fun (W : World) (h : Below w.heap.size w W) => Sl.call h0 h)
  have HWF := hid (wfs_Invoice h0)
  clear h0
  have HB := Below.refl w.heap.size w
  go_enter Try.func12, Try.ntmps12
  by_cases hg : InOk l
  rotate_left
  · have QI := hid (show inE l = 1 from if_neg hg)
    have Q1 := hid (show crE l id m = 1 from if_neg fun q => hg q.1)
    have Q2 := hid (show crL l id m t = [] from if_neg (by rw [Q1.out]; decide))
    clear hg
    go_wp2_with fail
    with_reducible refine (refCheck12_any _ _ _ l _ (KA.out _ HB)).mono ?_
    rw [QI.out]
    rintro e w1 ⟨rfl, hb⟩
    replace HB := bel_call HB hb
    clear hb
    go_wp2
    go_ret2
    exact ⟨.slice none 0 0, by rw [Q1.out]; rfl, by rw [Q2.out]; exact OwnL.nil _ _ _ _ _, HB⟩
  have QI := hid (show inE l = 0 from if_pos hg)
  have HG := hid hg
  have hn : n ≤ 256 := by have := hg.1; rw [HL.out] at this; exact this
  clear hg
  by_cases h1 : m = 0
  · have d1 : (m == 0) = true := by simpa using h1
    have Q1 := hid (show crE l id m = 1 from if_neg fun q => q.2.1 h1)
    have Q2 := hid (show crL l id m t = [] from if_neg (by rw [Q1.out]; decide))
    clear h1
    go_wp2_with fail
    with_reducible refine (refCheck12_any _ _ _ l _ (KA.out _ HB)).mono ?_
    rw [QI.out]
    rintro e w1 ⟨rfl, hb⟩
    replace HB := bel_call HB hb
    clear hb
    go_wp2
    go_ret2
    exact ⟨.slice none 0 0, by rw [Q1.out]; rfl, by rw [Q2.out]; exact OwnL.nil _ _ _ _ _, HB⟩
  have d1 : (m == 0) = false := by simpa using h1
  go_wp2_with fail
  with_reducible refine (refCheck12_any _ _ _ l _ (KA.out _ HB)).mono ?_
  rw [QI.out]
  rintro e w1 ⟨rfl, hb⟩
  replace HB := bel_call HB hb
  clear hb
  have HBM := hid (bel_alloc HB (Obj.cells #[.int .u64 m] 23))
  have R1 := rd_oneB w1 m _ rfl hm
  by_cases h2 : m ≤ mMax
  rotate_left
  · have Q1 := hid (show crE l id m = 1 from if_neg fun q => h2 q.2.2)
    have Q2 := hid (show crL l id m t = [] from if_neg (by rw [Q1.out]; decide))
    have QC := hid (show chkM [m] = 1 from by rw [chkM_one, if_neg h2])
    clear h1 h2
    go_wp2_with fail
    refine (rmCheck_any _ _ _ _ [m] _ R1).mono ?_
    rw [QC.out]
    rintro e w5 ⟨rfl, rfl⟩
    have HB := HBM.out
    go_wp2
    go_ret2
    exact ⟨.slice none 0 0, by rw [Q1.out]; rfl, by rw [Q2.out]; exact OwnL.nil _ _ _ _ _, HB⟩
  have QC := hid (show chkM [m] = 0 from by rw [chkM_one, if_pos h2])
  have HC := hid (show InOk l ∧ m ≠ 0 ∧ m ≤ mMax from ⟨HG.out, h1, h2⟩)
  clear h1 h2
  go_wp2_with fail
  refine (rmCheck_any _ _ _ _ [m] _ R1).mono ?_
  rw [QC.out]
  rintro e w5 ⟨rfl, rfl⟩
  replace HB := HBM.out
  clear HBM R1
  cases hf : invF l id with
  | some x =>
    have Q1 := hid (show crE l id m = 6 from by unfold crE; rw [if_pos HC.out, hf]; rfl)
    have Q2 := hid (show crL l id m t = [] from if_neg (by rw [Q1.out]; decide))
    have HF := hid hf
    clear hf
    go_wp2_with fail
    with_reducible refine (refFind12_any _ _ _ l id _ (KA.out _ HB)).mono ?_
    rw [HF.out, Option.getD_some, Option.isSome_some]
    rintro e w2 ⟨rfl, hb⟩
    replace HB := bel_call HB hb
    clear hb
    replace HB := bel_alloc HB (Obj.cells #[.int .u64 x.Hash, .int .u64 x.N, .int .u64 x.Till, .int .i64 x.State] 37)
    go_wp2
    go_ret2
    exact ⟨.slice none 0 0, by rw [Q1.out]; rfl, by rw [Q2.out]; exact OwnL.nil _ _ _ _ _, HB⟩
  | none =>
    have HF := hid hf
    by_cases h3 : n = 256
    · have Q1 := hid (show crE l id m = 7 from by unfold crE; rw [if_pos HC.out, hf, if_neg (by decide), if_pos (by rw [HL.out]; exact h3)])
      have Q2 := hid (show crL l id m t = [] from if_neg (by rw [Q1.out]; decide))
      have d3 : ((n : Int) == 256) = true := by simp; omega
      clear hf h3
      go_wp2_with fail
      with_reducible refine (refFind12_any _ _ _ l id _ (KA.out _ HB)).mono ?_
      rw [HF.out]
      rintro e w2 ⟨rfl, hb⟩
      replace HB := bel_call HB hb
      clear hb
      replace HB := bel_alloc HB (Obj.cells #[.int .u64 zeroI.Hash, .int .u64 zeroI.N, .int .u64 zeroI.Till, .int .i64 zeroI.State] 37)
      go_wp2
      go_ret2
      exact ⟨.slice none 0 0, by rw [Q1.out]; rfl, by rw [Q2.out]; exact OwnL.nil _ _ _ _ _, HB⟩
    have Q1 := hid (show crE l id m = 0 from by unfold crE; rw [if_pos HC.out, hf, if_neg (by decide), if_neg (by rw [HL.out]; exact h3)])
    have Q2 := hid (show crL l id m t = withI l ⟨id, m, t, 1⟩ from if_pos Q1.out)
    have d3 : ((n : Int) == 256) = false := by simp; omega
    clear hf h3
    go_wp2_with fail
    with_reducible refine (refFind12_any _ _ _ l id _ (KA.out _ HB)).mono ?_
    rw [HF.out]
    rintro e w2 ⟨rfl, hb⟩
    replace HB := bel_call HB hb
    clear hb
    replace HB := bel_alloc HB (Obj.cells #[.int .u64 zeroI.Hash, .int .u64 zeroI.N, .int .u64 zeroI.Till, .int .i64 zeroI.State] 37)
    have hn2 : n ≤ 1000 := by omega
    go_upto_region 8 with (fail)
    generalize w2.alloc (Obj.cells #[.int .u64 zeroI.Hash, .int .u64 zeroI.N, .int .u64 zeroI.Till, .int .i64 zeroI.State] 37) = W8 at *
    have HLOW2 := hid HB.size
    go_wp2_with fail
    with_reducible refine (refWith12_any _ _ _ l _ ⟨id, m, t, 1⟩ _ (KA.out _ HB) hn2 (rep_Invoice.2 ⟨rfl, ⟨hid0, hm, ht, (by decide : (Lit.int .i64 1).wf = true)⟩⟩)).mono ?_
    rintro e w3 ⟨v, rfl, hv, hb⟩
    replace HB := bel_call HB hb
    clear hb
    have HVO := hid (hv.lows HLOW2.out HLOW2.out)
    clear hv
    go_wp2
    go_ret2
    exact ⟨v, by rw [Q1.out]; rfl, by rw [Q2.out]; exact HVO.out, HB⟩

set_option maxRecDepth 100000 in
set_option maxHeartbeats 4000000 in
theorem refSweep12_any (A : Option Addr) (n c : Nat) (l : List Inv) (t : Int) (w : World) (h0 : Sl lay_Invoice w (· < w.heap.size) A n c l) :
    Calls Try.prog 18 #[.slice A n c, .int .u64 t] w fun e w' => ∃ v, e = .returned (.tuple #[v, .int .i64 (inE l)]) ∧ OwnL lay_Invoice w' w.heap.size (some w.heap.size) 37 v (swL l t) ∧ Below w.heap.size w w' := by
  have HL := hid h0.len
  have hcap := h0.cap
  unfold maxLen at hcap
  have KA := hid (fun (W : World) (h : Below w.heap.size w W) => Sl.call h0 h)
  have HWF := hid (wfs_Invoice h0)
  clear h0
  have HB := Below.refl w.heap.size w
  go_enter Try.func18, Try.ntmps18
  by_cases hg : InOk l
  rotate_left
  · have QI := hid (show inE l = 1 from if_neg hg)
    have Q2 := hid (show swL l t = [] from if_neg hg)
    clear hg
    go_wp2_with fail
    with_reducible refine (refCheck12_any _ _ _ l _ (KA.out _ HB)).mono ?_
    rw [QI.out]
    rintro e w1 ⟨rfl, hb⟩
    replace HB := bel_call HB hb
    clear hb
    go_wp2
    go_ret2
    exact ⟨.slice none 0 0, by rw [QI.out]; rfl, by rw [Q2.out]; exact OwnL.nil _ _ _ _ _, HB⟩
  have QI := hid (show inE l = 0 from if_pos hg)
  have Q2 := hid (show swL l t = l.filter (keepI t) from if_pos hg)
  have hn : n ≤ 256 := by have := hg.1; rw [HL.out] at this; exact this
  clear hg
  go_wp2_with fail
  with_reducible refine (refCheck12_any _ _ _ l _ (KA.out _ HB)).mono ?_
  rw [QI.out]
  rintro e w1 ⟨rfl, hb⟩
  replace HB := bel_call HB hb
  clear hb
  obtain ⟨F1, hF1⟩ : ∃ f : Inv → Bool, f = keepI t := ⟨_, rfl⟩
  have G1 := hid (fun x => congrFun hF1 x)
  rw [← hF1] at Q2
  clear hF1
  go_wp2
  go_loopw [6, 14] (fun u i wr => ∃ j : Nat, j ≤ n ∧ i = .int .i64 j ∧ OwnL lay_Invoice wr w.heap.size (some w.heap.size) 37 u ((l.take j).filter F1) ∧ Below w.heap.size w wr) (fun _ i _ => n - (intOf i).toNat)
  case atStart => exact ⟨0, Nat.zero_le _, rfl, by simpa using OwnL.nil _ _ _ _ _, HB⟩
  case round =>
    obtain ⟨j, hj, rfl, hown, hbel⟩ := hrel
    clear HB
    by_cases hlt : j < n
    rotate_left
    · rw [List.take_of_length_le (by rw [HL.out]; omega)] at hown
      go_wp2
      go_ret2
      exact ⟨_, by rw [QI.out]; rfl, by rw [Q2.out]; exact hown, hbel⟩
    obtain ⟨b1, o1, hx1, rfl, hb1, t1, t2, t3, t4, hw⟩ := at_Invoice (KA.out w (Below.refl _ _)) hlt
    have q1 := (hbel.cell (p := ⟨b1, o1 + j * 4, none⟩) hb1).trans t1
    have q2 := (hbel.cell (p := ⟨b1, o1 + j * 4 + 1, none⟩) hb1).trans t2
    have q3 := (hbel.cell (p := ⟨b1, o1 + j * 4 + 2, none⟩) hb1).trans t3
    have q4 := (hbel.cell (p := ⟨b1, o1 + j * 4 + 3, none⟩) hb1).trans t4
    have HFT := hid (filterF_take (p := F1) hx1)
    have hfl := filterF_len (p := F1) l j
    rw [HL.out] at hfl
    have hbw := bel_alloc (Below.refl wr.heap.size wr) (Obj.cells #[.int .u64 l[j].Hash, .int .u64 l[j].N, .int .u64 l[j].Till, .int .i64 l[j].State] 37)
    have hba := bel_call hbel hbw
    have ho2 := hown.keep hbw
    have B5 : Box (wr.alloc (Obj.cells #[.int .u64 l[j].Hash, .int .u64 l[j].N, .int .u64 l[j].Till, .int .i64 l[j].State] 37)) wr.heap.size 37 [.int .u64 l[j].Hash, .int .u64 l[j].N, .int .u64 l[j].Till, .int .i64 l[j].State] := Box.new wr _ _
    have hz2 := hba.size
    clear t1 t2 t3 t4 hown
    go_upto_region 7 with (fail)
    generalize wr.alloc (Obj.cells #[.int .u64 l[j].Hash, .int .u64 l[j].N, .int .u64 l[j].Till, .int .i64 l[j].State] 37) = W5 at *
    generalize hg5 : wr.heap.size = g5 at *
    clear hg5 q1 q2 q3 q4 hbw hbel
    have HX := hid hba
    have HB5 := Below.refl W5.heap.size W5
    have k0 := B5.at_ 0 rfl
    have k1 := B5.at_ 1 rfl
    have k2 := B5.at_ 2 rfl
    have k3 := B5.at_ 3 rfl
    obtain ⟨lt, hlt2⟩ : ∃ z, lateI l[j] t = z := ⟨_, rfl⟩
    have QL := hid hlt2
    clear hlt2
    go_wp2_with fail
    with_reducible refine (refLate12_any l[j] t _).mono ?_
    rw [QL.out]
    rintro e w6 ⟨rfl, hb⟩
    replace B5 := B5.call hb
    replace hba := bel_call hba hb
    replace ho2 := ho2.keep hb
    replace hz2 := hba.size
    clear hb k0 k1 k2 k3
    have k0 := B5.at_ 0 rfl
    have k1 := B5.at_ 1 rfl
    have k2 := B5.at_ 2 rfl
    have k3 := B5.at_ 3 rfl
    cases lt
    rotate_left
    · rw [if_neg (by rw [G1.out]; unfold keepI; rw [QL.out]; simp), List.append_nil] at HFT
      go_wp2
      go_roundw
      case rel => exact ⟨j + 1, by omega, by go_num, by rw [HFT.out]; exact ho2, hba⟩
      case measure => simp [intOf]; omega
    by_cases h3 : l[j].State = 3
    · have d3 : (l[j].State != 3) = false := by simpa using h3
      have HD := hid d3
      clear h3
      rw [if_neg (by rw [G1.out]; unfold keepI; rw [QL.out]; rw [HD.out]; simp), List.append_nil] at HFT
      go_wp2
      go_roundw
      case rel => exact ⟨j + 1, by omega, by go_num, by rw [HFT.out]; exact ho2, hba⟩
      case measure => simp [intOf]; omega
    have d3 : (l[j].State != 3) = true := by simpa using h3
    have HD := hid d3
    clear h3
    rw [if_pos (by rw [G1.out]; unfold keepI; rw [QL.out, HD.out]; rfl)] at HFT
    have hlen1 : (((l.take j).filter F1).length + 1) * 32 ≤ 140737488355328 := by omega
    have hlen2 : ((l.take j).filter F1).length + 1 ≤ maxLen := by unfold maxLen; omega
    go_wp2_with (at_builtin; go_must (refine wpList_pushL (w := w6) rfl (.tmp 27) (.tmp 29) 22 rfl w.heap.size (some w.heap.size) 37 _ 32 Try.underlying22 Try.infoInv rfl (by decide) u6 ((l.take j).filter F1) l[j] #[.int .u64 l[j].Hash, .int .u64 l[j].N, .int .u64 l[j].Till, .int .i64 l[j].State] (fun _ => False) rfl (rfl) ho2 (rep_Invoice.2 ⟨rfl, hw⟩) (fun b hb => hb.elim) (by omega) hlen1 hlen2 ?_; intro v7 w7 ho7 hx7))
    have HB7 := hba.trans (ho2.below hx7 hz2)
    clear ho2 hx7 k0 k1 k2 k3 B5
    go_wp2
    go_roundw
    case rel => exact ⟨j + 1, by omega, by go_num, by rw [HFT.out]; exact ho7, HB7⟩
    case measure => simp [intOf]; omega
end Go.Proofs.Ytannjlejghmfpaa
