/-
  The contract of the document's with of layer 12.
-/
import Derived.Test.YtannjlejghmfpaaInvoiceRef2
import Derived.Test.YtannjlejghmfpaaOwn3
namespace Go.Proofs.Ytannjlejghmfpaa
open Go.RowKit Go.WalkArith

theorem Try.infoInv : (Try.prog.info? 37).map (fun i => (i.zero, i.size, i.bytes)) = some (some (.agg #[.int .u64 0, .int .u64 0, .int .u64 0, .int .i64 0]), lay_Invoice.size, 32) := by kernel_rfl

set_option maxRecDepth 100000 in
set_option maxHeartbeats 2000000 in
theorem refWith12_any (A : Option Addr) (n c : Nat) (l : List Inv) (s : Array Value) (r : Inv) (w : World) (h : Sl lay_Invoice w (· < w.heap.size) A n c l) (hn : n ≤ 1000) (hr : lay_Invoice.rep w (fun _ => True) r s.toList) :
    Calls Try.prog 30 #[.slice A n c, .agg s] w fun e w' => ∃ v', e = .returned v' ∧ OwnL lay_Invoice w' w.heap.size (some w.heap.size) 37 v' (withI l r) ∧ Below w.heap.size w w' := by
  obtain ⟨rfl, hrw⟩ := agg_Invoice hr
  clear hr
  have HL := hid h.len
  have hcap := h.cap
  unfold maxLen at hcap
  have hb0 : Below w.heap.size w (w.alloc (Obj.cells #[.int .u64 r.Hash, .int .u64 r.N, .int .u64 r.Till, .int .i64 r.State] 37)) := bel_alloc (Below.refl _ _) _
  have V0 : Box (w.alloc (Obj.cells #[.int .u64 r.Hash, .int .u64 r.N, .int .u64 r.Till, .int .i64 r.State] 37)) w.heap.size 37 [.int .u64 r.Hash, .int .u64 r.N, .int .u64 r.Till, .int .i64 r.State] := Box.new w _ _
  have hz0 : w.heap.size + 1 ≤ (w.alloc (Obj.cells #[.int .u64 r.Hash, .int .u64 r.N, .int .u64 r.Till, .int .i64 r.State] 37)).heap.size := by simp
  obtain ⟨F1, hF1⟩ : ∃ f : Inv → Bool, f = fun x => decide (x.Hash < r.Hash) := ⟨_, rfl⟩
  obtain ⟨F2, hF2⟩ : ∃ f : Inv → Bool, f = fun x => decide (r.Hash < x.Hash) := ⟨_, rfl⟩
  have G1 := hid (fun x => congrFun hF1 x)
  have G2 := hid (fun x => congrFun hF2 x)
  have HWK := hid (show withI l r = l.filter F1 ++ [r] ++ l.filter F2 from by rw [hF1, hF2]; rfl)
  clear hF1 hF2
  go_enter Try.func30, Try.ntmps30
  go_wp2
  go_loopw [5, 12] (fun u i wr => ∃ j : Nat, j ≤ n ∧ i = .int .i64 j ∧ OwnL lay_Invoice wr (w.heap.size + 1) (some (w.heap.size + 1)) 37 u ((l.take j).filter F1) ∧ Box wr w.heap.size 37 [.int .u64 r.Hash, .int .u64 r.N, .int .u64 r.Till, .int .i64 r.State] ∧ w.heap.size + 1 ≤ wr.heap.size ∧ Below w.heap.size w wr) (fun _ i _ => n - (intOf i).toNat)
  case atStart => exact ⟨0, Nat.zero_le _, rfl, by simpa using OwnL.nil _ _ _ _ _, V0, hz0, hb0⟩
  case round =>
    obtain ⟨j, hj, rfl, hown, V, hz, hbel⟩ := hrel
    clear V0 hb0 hz0
    by_cases hlt : j < n
    · obtain ⟨b1, o1, hx1, rfl, hb1, t1, t2, t3, t4, hw⟩ := at_Invoice h hlt
      have q1 := (hbel.cell (p := ⟨b1, o1 + j * 4, none⟩) hb1).trans t1
      have q2 := (hbel.cell (p := ⟨b1, o1 + j * 4 + 1, none⟩) hb1).trans t2
      have q3 := (hbel.cell (p := ⟨b1, o1 + j * 4 + 2, none⟩) hb1).trans t3
      have q4 := (hbel.cell (p := ⟨b1, o1 + j * 4 + 3, none⟩) hb1).trans t4
      have hbw := bel_alloc (Below.refl wr.heap.size wr) (Obj.cells #[.int .u64 l[j].Hash, .int .u64 l[j].N, .int .u64 l[j].Till, .int .i64 l[j].State] 37)
      have hba := bel_call hbel hbw
      have V2 := V.call hbw
      have k0 := V2.at_ 0 rfl
      have ho2 := hown.keep hbw
      have HFT := hid (filterF_take (p := F1) hx1)
      have hfl := filterF_len (p := F1) l j
      rw [HL.out] at hfl
      have HSZ := hid (show wr.heap.size + 1 = (wr.alloc (Obj.cells #[.int .u64 l[j].Hash, .int .u64 l[j].N, .int .u64 l[j].Till, .int .i64 l[j].State] 37)).heap.size from by simp)
      have hz2 : w.heap.size + 1 ≤ (wr.alloc (Obj.cells #[.int .u64 l[j].Hash, .int .u64 l[j].N, .int .u64 l[j].Till, .int .i64 l[j].State] 37)).heap.size := by rw [← HSZ.out]; omega
      clear t1 t2 t3 t4 hown V
      by_cases he : l[j].Hash < r.Hash
      · have d1 : decide (l[j].Hash < r.Hash) = true := by simpa using he
        rw [if_pos (by rw [G1.out]; exact d1)] at HFT
        have hlen1 : (((l.take j).filter F1).length + 1) * 32 ≤ 140737488355328 := by omega
        have hlen2 : ((l.take j).filter F1).length + 1 ≤ maxLen := by unfold maxLen; omega
        clear he
        go_wp2_with (at_builtin; go_must (refine wpList_pushL (w := wr.alloc (Obj.cells #[.int .u64 l[j].Hash, .int .u64 l[j].N, .int .u64 l[j].Till, .int .i64 l[j].State] 37)) rfl (.tmp 21) (.tmp 23) 22 rfl (w.heap.size + 1) (some (w.heap.size + 1)) 37 _ 32 Try.underlying22 Try.infoInv rfl (by decide) u5 ((l.take j).filter F1) l[j] #[.int .u64 l[j].Hash, .int .u64 l[j].N, .int .u64 l[j].Till, .int .i64 l[j].State] (fun _ => False) rfl (congrArg (fun z => Value.slice (some ⟨z, 0, none⟩) 1 1) HSZ.out) ho2 (rep_Invoice.2 ⟨rfl, hw⟩) (fun b hb => hb.elim) (by omega) hlen1 hlen2 ?_; intro v7 w7 ho7 hx7))
        have hb7 : Below (w.heap.size + 1) (wr.alloc (Obj.cells #[.int .u64 l[j].Hash, .int .u64 l[j].N, .int .u64 l[j].Till, .int .i64 l[j].State] 37)) w7 := ho2.below hx7 hz2
        have V7 := V2.keep hb7 (by omega)
        have HB7 := hba.trans (hb7.mono (Nat.le_succ _))
        have hz7 := Nat.le_trans hz2 hb7.size
        clear V2 ho2 hx7 hb7 k0
        go_wp2
        go_roundw
        case rel => exact ⟨j + 1, by omega, by go_num, by rw [HFT.out]; exact ho7, V7, hz7, HB7⟩
        case measure => simp [intOf]; omega
      · have d1 : decide (l[j].Hash < r.Hash) = false := by simpa using he
        rw [if_neg (by rw [G1.out]; simp [he]), List.append_nil] at HFT
        clear he
        go_wp2
        go_roundw
        case rel => exact ⟨j + 1, by omega, by go_num, by rw [HFT.out]; exact ho2, V2, hz2, hba⟩
        case measure => simp [intOf]; omega
    · rw [List.take_of_length_le (by rw [HL.out]; omega)] at hown
      have k0 := V.at_ 0 rfl
      have k1 := V.at_ 1 rfl
      have k2 := V.at_ 2 rfl
      have k3 := V.at_ 3 rfl
      have hfl := filterF_len (p := F1) l l.length
      rw [List.take_length, HL.out] at hfl
      have hlen1 : ((l.filter F1).length + 1) * 32 ≤ 140737488355328 := by omega
      have hlen2 : (l.filter F1).length + 1 ≤ maxLen := by unfold maxLen; omega
      go_wp2_with (at_builtin; go_must (refine wpList_pushL (w := wr) rfl (.tmp 26) (.tmp 28) 22 rfl (w.heap.size + 1) (some (w.heap.size + 1)) 37 _ 32 Try.underlying22 Try.infoInv rfl (by decide) u5 (l.filter F1) r #[.int .u64 r.Hash, .int .u64 r.N, .int .u64 r.Till, .int .i64 r.State] (fun _ => False) rfl (rfl) hown (rep_Invoice.2 ⟨rfl, hrw⟩) (fun b hb => hb.elim) (by omega) hlen1 hlen2 ?_; intro v7 w7 ho7 hx7))
      have hb7 : Below (w.heap.size + 1) wr w7 := hown.below hx7 hz
      have V7 := V.keep hb7 (by omega)
      have HB7 := hbel.trans (hb7.mono (Nat.le_succ _))
      have hz7 := Nat.le_trans hz hb7.size
      clear V hown hx7 hb7 k0 k1 k2 k3 hbel hz
      obtain ⟨wq, hwq⟩ : ∃ z, z = wr := ⟨_, rfl⟩
      subst hwq
      go_wp2
      go_loopw [5, 32] (fun u i wr => ∃ j : Nat, j ≤ n ∧ i = .int .i64 j ∧ OwnL lay_Invoice wr (w.heap.size + 1) (some (w.heap.size + 1)) 37 u (l.filter F1 ++ [r] ++ (l.take j).filter F2) ∧ Box wr w.heap.size 37 [.int .u64 r.Hash, .int .u64 r.N, .int .u64 r.Till, .int .i64 r.State] ∧ w.heap.size + 1 ≤ wr.heap.size ∧ Below w.heap.size w wr) (fun _ i _ => n - (intOf i).toNat)
      case atStart => exact ⟨0, Nat.zero_le _, rfl, by simpa using ho7, V7, hz7, HB7⟩
      case round =>
        obtain ⟨j, hj, rfl, hown, V, hz, hbel⟩ := hrel
        clear ho7 V7 hz7 HB7
        by_cases hlt : j < n
        · obtain ⟨b1, o1, hx1, rfl, hb1, t1, t2, t3, t4, hw⟩ := at_Invoice h hlt
          have q1 := (hbel.cell (p := ⟨b1, o1 + j * 4, none⟩) hb1).trans t1
          have q2 := (hbel.cell (p := ⟨b1, o1 + j * 4 + 1, none⟩) hb1).trans t2
          have q3 := (hbel.cell (p := ⟨b1, o1 + j * 4 + 2, none⟩) hb1).trans t3
          have q4 := (hbel.cell (p := ⟨b1, o1 + j * 4 + 3, none⟩) hb1).trans t4
          have hbw := bel_alloc (Below.refl wr.heap.size wr) (Obj.cells #[.int .u64 l[j].Hash, .int .u64 l[j].N, .int .u64 l[j].Till, .int .i64 l[j].State] 37)
          have hba := bel_call hbel hbw
          have V2 := V.call hbw
          have k0 := V2.at_ 0 rfl
          have ho2 := hown.keep hbw
          have HFT := hid (filterF_take (p := F2) hx1)
          have hfl2 := filterF_len (p := F2) l j
          rw [HL.out] at hfl2
          have HSZ := hid (show wr.heap.size + 1 = (wr.alloc (Obj.cells #[.int .u64 l[j].Hash, .int .u64 l[j].N, .int .u64 l[j].Till, .int .i64 l[j].State] 37)).heap.size from by simp)
          have hz2 : w.heap.size + 1 ≤ (wr.alloc (Obj.cells #[.int .u64 l[j].Hash, .int .u64 l[j].N, .int .u64 l[j].Till, .int .i64 l[j].State] 37)).heap.size := by rw [← HSZ.out]; omega
          clear t1 t2 t3 t4 hown V
          by_cases he : r.Hash < l[j].Hash
          · have d1 : decide (r.Hash < l[j].Hash) = true := by simpa using he
            rw [if_pos (by rw [G2.out]; exact d1)] at HFT
            have hlx : (l.filter F1 ++ [r] ++ (l.take j).filter F2).length ≤ 2001 := by rw [List.length_append, List.length_append, List.length_singleton]; omega
            have HLX : ∀ q : Nat, q ≤ 2001 → (q + 1) * 32 ≤ 140737488355328 ∧ q + 1 ≤ maxLen := fun q hq => ⟨by omega, by unfold maxLen; omega⟩
            have hlen1 := (HLX _ hlx).1
            have hlen2 := (HLX _ hlx).2
            clear HLX hlx
            clear he
            go_wp2_with (at_builtin; go_must (refine wpList_pushL (w := wr.alloc (Obj.cells #[.int .u64 l[j].Hash, .int .u64 l[j].N, .int .u64 l[j].Till, .int .i64 l[j].State] 37)) rfl (.tmp 41) (.tmp 43) 22 rfl (w.heap.size + 1) (some (w.heap.size + 1)) 37 _ 32 Try.underlying22 Try.infoInv rfl (by decide) u5 (l.filter F1 ++ [r] ++ (l.take j).filter F2) l[j] #[.int .u64 l[j].Hash, .int .u64 l[j].N, .int .u64 l[j].Till, .int .i64 l[j].State] (fun _ => False) rfl (congrArg (fun z => Value.slice (some ⟨z, 0, none⟩) 1 1) HSZ.out) ho2 (rep_Invoice.2 ⟨rfl, hw⟩) (fun b hb => hb.elim) (by omega) hlen1 hlen2 ?_; intro v7 w7 ho7 hx7))
            have hb7 : Below (w.heap.size + 1) (wr.alloc (Obj.cells #[.int .u64 l[j].Hash, .int .u64 l[j].N, .int .u64 l[j].Till, .int .i64 l[j].State] 37)) w7 := ho2.below hx7 hz2
            have V7 := V2.keep hb7 (by omega)
            have HB7 := hba.trans (hb7.mono (Nat.le_succ _))
            have hz7 := Nat.le_trans hz2 hb7.size
            clear V2 ho2 hx7 hb7 k0
            go_wp2
            go_roundw
            case rel => exact ⟨j + 1, by omega, by go_num, by rw [HFT.out, ← List.append_assoc]; exact ho7, V7, hz7, HB7⟩
            case measure => simp [intOf]; omega
          · have d1 : decide (r.Hash < l[j].Hash) = false := by simpa using he
            rw [if_neg (by rw [G2.out]; simp [he]), List.append_nil] at HFT
            clear he
            go_wp2
            go_roundw
            case rel => exact ⟨j + 1, by omega, by go_num, by rw [HFT.out]; exact ho2, V2, hz2, hba⟩
            case measure => simp [intOf]; omega
        · rw [List.take_of_length_le (by rw [HL.out]; omega)] at hown
          go_wp2
          go_ret
          exact ⟨_, rfl, by rw [HWK.out]; exact hown.lows (Nat.le_succ _) (Nat.le_succ _), hbel⟩
end Go.Proofs.Ytannjlejghmfpaa
