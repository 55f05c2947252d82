/-
  The contracts of the document's find and with of layer 8.
-/
import Derived.Test.YtlenoiaepanejaaRootsRef1
namespace Go.Proofs.Ytlenoiaepanejaa
open Go.RowKit Go.WalkArith

abbrev zeroR : Rtk := ⟨0, 0, false⟩
theorem rootF_take {l : List Rtk} {j : Nat} (hj : j < l.length) (id : Int) (h : rootF (l.take j) id = none) : rootF (l.take (j + 1)) id = if l[j].Id = id then some l[j] else none := by
  unfold rootF at h ⊢
  rw [List.take_succ_eq_append_getElem hj, List.find?_append, h]
  by_cases e : l[j].Id = id
  · rw [if_pos e]; simp [e]
  · rw [if_neg e]; simp [e]
theorem rootF_hit {l : List Rtk} {j : Nat} (hj : j < l.length) {id : Int} (h : rootF (l.take j) id = none) (e : l[j].Id = id) : rootF l id = some l[j] := by
  have h1 := rootF_take hj id h
  rw [if_pos e] at h1
  unfold rootF at h1 ⊢
  have e2 : List.find? (fun r => r.Id == id) l = List.find? (fun r => r.Id == id) (l.take (j + 1) ++ l.drop (j + 1)) := by rw [List.take_append_drop]
  rw [e2, List.find?_append, h1]
  rfl

set_option maxRecDepth 100000 in
set_option maxHeartbeats 2000000 in
theorem refFind8_any (A : Option Addr) (n c : Nat) (l : List Rtk) (id : Int) (w : World) (h : Sl lay_RootKey w (· < w.heap.size) A n c l) :
    Calls Try.prog 24 #[.slice A n c, .int .u64 id] w fun e w' => e = .returned (.tuple #[rtkV ((rootF l id).getD zeroR), .bool (rootF l id).isSome]) ∧ Below w.heap.size w w' := by
  have HL := hid h.len
  have hcap := h.cap
  unfold maxLen at hcap
  have hb0 : Below w.heap.size w (w.alloc (Obj.cells #[.int .u64 0, .int .u64 0, .bool false] 34)) := bel_alloc (Below.refl _ _) _
  have V0 := Var3.new w 34 (.int .u64 0) (.int .u64 0) (.bool false)
  go_enter Try.func24, Try.ntmps24
  go_wp2
  go_loopw [10] (fun i wr => ∃ j : Nat, j ≤ n ∧ i = .int .i64 j ∧ rootF (l.take j) id = none ∧ Var3 wr w.heap.size 34 (.int .u64 0) (.int .u64 0) (.bool false) ∧ Below w.heap.size w wr) (fun i _ => n - (intOf i).toNat)
  case atStart => exact ⟨0, Nat.zero_le _, rfl, by simp [rootF], V0, hb0⟩
  case round =>
    obtain ⟨j, hj, rfl, hpre, V, hbel⟩ := hrel
    clear V0 hb0
    have HP := hid hpre
    clear hpre
    by_cases hlt : j < n
    · obtain ⟨b1, o1, hx1, rfl, hb1, t1, t2, t3, hw⟩ := rtk_at h hlt
      have q1 := (hbel.cell (p := ⟨b1, o1 + j * 3, none⟩) hb1).trans t1
      have q2 := (hbel.cell (p := ⟨b1, o1 + j * 3 + 1, none⟩) hb1).trans t2
      have q3 := (hbel.cell (p := ⟨b1, o1 + j * 3 + 2, none⟩) hb1).trans t3
      have hbw := bel_alloc (Below.refl wr.heap.size wr) (Obj.cells #[.int .u64 l[j].Id, .int .u64 l[j].Key, .bool l[j].Gone] 34)
      have hba := bel_call hbel hbw
      have V2 := V.call hbw
      have hg := V.lt
      clear t1 t2 t3 hw
      by_cases he : l[j].Id = id
      · have HF := hid (rootF_hit hx1 HP.out he)
        subst he
        have d1 : (l[j].Id == l[j].Id) = true := by simp
        have VB := Var3.new wr 34 (.int .u64 l[j].Id) (.int .u64 l[j].Key) (.bool l[j].Gone)
        go_upto_region 5 with (fail)
        generalize wr.alloc (Obj.cells #[.int .u64 l[j].Id, .int .u64 l[j].Key, .bool l[j].Gone] 34) = W1 at *
        generalize wr.heap.size = gr at *
        have m0 := VB.c0
        have m1 := VB.c1
        have m2 := VB.c2
        have k0 := V2.c0
        have k1 := V2.c1
        have k2 := V2.c2
        have f0 := V2.f 0
        have f1 := V2.f 1
        have f2 := V2.f 2
        have V9 := hid (V2.set (.int .u64 l[j].Id) (.int .u64 l[j].Key) (.bool l[j].Gone))
        have HB9 := hid (((hba.setCell (p := ⟨w.heap.size, 0, none⟩) (Nat.le_refl _) (.int .u64 l[j].Id)).setCell (p := ⟨w.heap.size, 1, none⟩) (Nat.le_refl _) (.int .u64 l[j].Key)).setCell (p := ⟨w.heap.size, 2, none⟩) (Nat.le_refl _) (.bool l[j].Gone))
        clear V V2 VB
        go_wp2
        refine bodyPost_ret_by (results_ct rfl _ _ w.heap.size 0 rfl [.int .u64 l[j].Id, .int .u64 l[j].Key, .bool l[j].Gone] _ (range3 V9.out.c0 V9.out.c1 V9.out.c2) Try.underlying34 rfl (by kernel_rfl)) rfl ?_
        exact ⟨by rw [HF.out]; rfl, HB9.out⟩
      · have HF := hid (show rootF (l.take (j + 1)) id = none from by rw [rootF_take hx1 id HP.out, if_neg he])
        have d1 : (l[j].Id == id) = false := by simpa using he
        clear he V
        go_wp2
        go_roundw
        case rel => exact ⟨j + 1, by omega, by go_num, HF.out, V2, hba⟩
        case measure => simp [intOf]; omega
    · have HF := hid (show rootF l id = none from by have := HP.out; rwa [List.take_of_length_le (by rw [HL.out]; omega)] at this)
      have k0 := V.c0
      have k1 := V.c1
      have k2 := V.c2
      have f0 := V.f 0
      have f1 := V.f 1
      have f2 := V.f 2
      have V9 := hid (V.set (.int .u64 0) (.int .u64 0) (.bool false))
      have HB9 := hid (((hbel.setCell (p := ⟨w.heap.size, 0, none⟩) (Nat.le_refl _) (.int .u64 0)).setCell (p := ⟨w.heap.size, 1, none⟩) (Nat.le_refl _) (.int .u64 0)).setCell (p := ⟨w.heap.size, 2, none⟩) (Nat.le_refl _) (.bool false))
      clear V
      go_wp2
      refine bodyPost_ret_by (results_ct rfl _ _ w.heap.size 0 rfl [.int .u64 0, .int .u64 0, .bool false] _ (range3 V9.out.c0 V9.out.c1 V9.out.c2) Try.underlying34 rfl (by kernel_rfl)) rfl ?_
      exact ⟨by rw [HF.out]; rfl, HB9.out⟩
end Go.Proofs.Ytlenoiaepanejaa
