/-
  The contract of the document's find of layer 12.
-/
import Derived.Test.YtannjlejghmfpaaInvoiceRef1
namespace Go.Proofs.Ytannjlejghmfpaa
open Go.RowKit Go.WalkArith

abbrev zeroI : Inv := ⟨0, 0, 0, 0⟩
set_option maxRecDepth 100000 in
set_option maxHeartbeats 2000000 in
theorem refFind12_any (A : Option Addr) (n c : Nat) (l : List Inv) (id : Int) (w : World) (h : Sl lay_Invoice w (· < w.heap.size) A n c l) :
    Calls Try.prog 29 #[.slice A n c, .int .u64 id] w fun e w' => e = .returned (.tuple #[invV ((invF l id).getD zeroI), .bool (invF l id).isSome]) ∧ Below w.heap.size w w' := by
  have HL := hid h.len
  have hcap := h.cap
  unfold maxLen at hcap
  have hb0 : Below w.heap.size w (w.alloc (Obj.cells #[.int .u64 0, .int .u64 0, .int .u64 0, .int .i64 0] 37)) := bel_alloc (Below.refl _ _) _
  have V0 : Box (w.alloc (Obj.cells #[.int .u64 0, .int .u64 0, .int .u64 0, .int .i64 0] 37)) w.heap.size 37 [.int .u64 0, .int .u64 0, .int .u64 0, .int .i64 0] := Box.new w _ _
  go_enter Try.func29, Try.ntmps29
  go_wp2
  go_loopw [10] (fun i wr => ∃ j : Nat, j ≤ n ∧ i = .int .i64 j ∧ fndF Inv.Hash (l.take j) id = none ∧ Box wr w.heap.size 37 [.int .u64 0, .int .u64 0, .int .u64 0, .int .i64 0] ∧ Below w.heap.size w wr) (fun i _ => n - (intOf i).toNat)
  case atStart => exact ⟨0, Nat.zero_le _, rfl, by simp [fndF], V0, hb0⟩
  case round =>
    obtain ⟨j, hj, rfl, hpre, V, hbel⟩ := hrel
    clear V0 hb0
    have HP := hid hpre
    clear hpre
    by_cases hlt : j < n
    · obtain ⟨b1, o1, hx1, rfl, hb1, t1, t2, t3, t4, hw⟩ := at_Invoice h hlt
      have q1 := (hbel.cell (p := ⟨b1, o1 + j * 4, none⟩) hb1).trans t1
      have q2 := (hbel.cell (p := ⟨b1, o1 + j * 4 + 1, none⟩) hb1).trans t2
      have q3 := (hbel.cell (p := ⟨b1, o1 + j * 4 + 2, none⟩) hb1).trans t3
      have q4 := (hbel.cell (p := ⟨b1, o1 + j * 4 + 3, none⟩) hb1).trans t4
      have hbw := bel_alloc (Below.refl wr.heap.size wr) (Obj.cells #[.int .u64 l[j].Hash, .int .u64 l[j].N, .int .u64 l[j].Till, .int .i64 l[j].State] 37)
      have hba := bel_call hbel hbw
      have V2 := V.call hbw
      have hg := V.lt
      clear t1 t2 t3 t4 hw
      by_cases he : l[j].Hash = id
      · have HF := hid (show invF l id = some l[j] from fnd_hit (f := Inv.Hash) hx1 HP.out he)
        subst he
        have d1 : (l[j].Hash == l[j].Hash) = true := by simp
        have VB : Box (wr.alloc (Obj.cells #[.int .u64 l[j].Hash, .int .u64 l[j].N, .int .u64 l[j].Till, .int .i64 l[j].State] 37)) wr.heap.size 37 [.int .u64 l[j].Hash, .int .u64 l[j].N, .int .u64 l[j].Till, .int .i64 l[j].State] := Box.new wr _ _
        go_upto_region 5 with (fail)
        generalize wr.alloc (Obj.cells #[.int .u64 l[j].Hash, .int .u64 l[j].N, .int .u64 l[j].Till, .int .i64 l[j].State] 37) = W1 at *
        generalize wr.heap.size = gr at *
        have m0 := VB.at_ 0 rfl
        have m1 := VB.at_ 1 rfl
        have m2 := VB.at_ 2 rfl
        have m3 := VB.at_ 3 rfl
        have k0 := V2.at_ 0 rfl
        have k1 := V2.at_ 1 rfl
        have k2 := V2.at_ 2 rfl
        have k3 := V2.at_ 3 rfl
        have f0 := V2.f 0
        have f1 := V2.f 1
        have f2 := V2.f 2
        have f3 := V2.f 3
        have V9 := hid (show Box _ w.heap.size 37 [.int .u64 l[j].Hash, .int .u64 l[j].N, .int .u64 l[j].Till, .int .i64 l[j].State] from ((((V2.put 0 (.int .u64 l[j].Hash)).put 1 (.int .u64 l[j].N)).put 2 (.int .u64 l[j].Till)).put 3 (.int .i64 l[j].State)))
        have HB9 := hid (((((hba.setCell (p := ⟨w.heap.size, 0, none⟩) (Nat.le_refl _) (.int .u64 l[j].Hash)).setCell (p := ⟨w.heap.size, 1, none⟩) (Nat.le_refl _) (.int .u64 l[j].N)).setCell (p := ⟨w.heap.size, 2, none⟩) (Nat.le_refl _) (.int .u64 l[j].Till)).setCell (p := ⟨w.heap.size, 3, none⟩) (Nat.le_refl _) (.int .i64 l[j].State)))
        clear V V2 VB
        go_wp2
        refine bodyPost_ret_by (results_ct rfl _ _ w.heap.size 0 rfl [.int .u64 l[j].Hash, .int .u64 l[j].N, .int .u64 l[j].Till, .int .i64 l[j].State] _ V9.out.range Try.underlying37 rfl (by kernel_rfl)) rfl ?_
        exact ⟨by rw [HF.out]; rfl, HB9.out⟩
      · have HF := hid (show fndF Inv.Hash (l.take (j + 1)) id = none from by rw [fnd_take (f := Inv.Hash) hx1 id HP.out, if_neg he])
        have d1 : (l[j].Hash == id) = false := by simpa using he
        clear he V
        go_wp2
        go_roundw
        case rel => exact ⟨j + 1, by omega, by go_num, HF.out, V2, hba⟩
        case measure => simp [intOf]; omega
    · have HF := hid (show invF l id = none from by have := HP.out; rwa [List.take_of_length_le (by rw [HL.out]; omega)] at this)
      have k0 := V.at_ 0 rfl
      have k1 := V.at_ 1 rfl
      have k2 := V.at_ 2 rfl
      have k3 := V.at_ 3 rfl
      have f0 := V.f 0
      have f1 := V.f 1
      have f2 := V.f 2
      have f3 := V.f 3
      have V9 := hid (show Box _ w.heap.size 37 [.int .u64 0, .int .u64 0, .int .u64 0, .int .i64 0] from ((((V.put 0 (.int .u64 0)).put 1 (.int .u64 0)).put 2 (.int .u64 0)).put 3 (.int .i64 0)))
      have HB9 := hid (((((hbel.setCell (p := ⟨w.heap.size, 0, none⟩) (Nat.le_refl _) (.int .u64 0)).setCell (p := ⟨w.heap.size, 1, none⟩) (Nat.le_refl _) (.int .u64 0)).setCell (p := ⟨w.heap.size, 2, none⟩) (Nat.le_refl _) (.int .u64 0)).setCell (p := ⟨w.heap.size, 3, none⟩) (Nat.le_refl _) (.int .i64 0)))
      clear V
      go_wp2
      refine bodyPost_ret_by (results_ct rfl _ _ w.heap.size 0 rfl [.int .u64 0, .int .u64 0, .int .u64 0, .int .i64 0] _ V9.out.range Try.underlying37 rfl (by kernel_rfl)) rfl ?_
      exact ⟨by rw [HF.out]; rfl, HB9.out⟩
end Go.Proofs.Ytannjlejghmfpaa
