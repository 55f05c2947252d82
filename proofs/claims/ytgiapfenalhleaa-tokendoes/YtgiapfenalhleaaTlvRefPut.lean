/-
  The contract of the document's own Put of layer 2.
-/
import Derived.Test.YtgiapfenalhleaaTlvRef
import Derived.Test.YtgiapfenalhleaaStep
namespace Go.Proofs.Ytgiapfenalhleaa
open Go.RowKit Go.WalkArith

set_option maxRecDepth 100000 in
set_option maxHeartbeats 2000000 in
theorem refPutR_ok (A : Option Addr) (n c : Nat) (l : List Rec) (w : World) (hr : Sl lay_Record w (· < w.heap.size) A n c l) (hm : MayBe l) :
    Calls Try.prog 52 #[.slice A n c] w fun e w' => ∃ v', e = .returned (.tuple #[v', .int .i64 (putE l)]) ∧ Own w' w.heap.size 5 .u8 v' (putO l) ∧ Below w.heap.size w w' := by
  have hcap := hr.cap
  unfold maxLen at hcap
  have HL := hid hr.len
  have hn64 : n ≤ 64 := by rw [← HL.out]; exact hm.1
  have HM := hid hm
  have HC := hid (chk_ok hm)
  clear hm
  go_enter Try.func52, Try.ntmps52
  go_wp2_with (go_at_call 80; go_must (refine (check_any _ _ _ _ _ hr).mono ?_; rw [HC.out]; rintro e w1 ⟨rfl, hb1⟩))
  go_loopw [4, 12] (fun u i wr => ∃ j : Nat, j ≤ n ∧ i = .int .i64 j ∧ Own wr w.heap.size 5 .u8 u (octsR (l.take j)) ∧ Below w.heap.size w wr) (fun _ i _ => n - (intOf i).toNat)
  case atStart => exact ⟨0, Nat.zero_le _, rfl, Own.nil _ _ _ _, hb1⟩
  case round =>
    obtain ⟨j, hj, rfl, hown, hbel⟩ := hrel
    have hsz := hbel.size
    have hlen := octsR_len (l := l.take j) fun r h => HM.out.small r (List.mem_of_mem_take h)
    have hlt64 : (l.take j).length ≤ 64 := Nat.le_trans (List.length_take_le _ _) (by omega)
    by_cases hlt : j < n
    · obtain ⟨b, off, A', n', c', hx, rfl, hb, h1, h2, hT, hV⟩ := rec_at hr hlt
      have q1 := (hbel.cell (p := ⟨b, off + j * 2, none⟩) hb).trans h1
      have q2 := (hbel.cell (p := ⟨b, off + j * 2 + 1, none⟩) hb).trans h2
      have R := (hV.rd (B := w.heap.size) fun _ h => h).below hbel
      have HT := hid (octsR_take hx)
      have hVl := hid hV.len
      have hn' : n' ≤ 4096 := by rw [← hVl.out]; exact HM.out.small _ (List.getElem_mem hx)
      have hWT := wf_u64 hT
      have hWN : (Lit.int .u64 (n' : Int)).wf = true := wf_u64 (by omega)
      have hR : octR l[j] = octs [l[j].T, (n' : Int)] ++ l[j].V := by simp [octR, octs, hVl.out]
      have HR := hid hR
      have ho2 := octs_len_le [l[j].T, (n' : Int)]
      have ho3 : (octs [l[j].T, (n' : Int)]).length ≤ 18 := by simpa using ho2
      have hol : (octsR (l.take j)).length ≤ 263296 := by omega
      clear h1 h2 hV hR ho2 hlen
      generalize l[j].T = x at *
      generalize l[j].V = xs at *
      have HNN := hid (hown.not_new (Nat.le_refl _))
      go_wp2_with (first | (go_at_call 36; go_must (refine (refPut_any _ _ _ [x, (n' : Int)] _ (Rd.lit2 ?_ ?_ hWT hWN) (by omega)).mono ?_; go_simp; go_simp; rintro e w2 ⟨v2, rfl, hown2, hb2⟩; obtain ⟨A2, n2, c2, rfl, hr2⟩ := hown2.formN; have hl2 : n2 ≤ 18 := (by rw [← hr2.len]; exact ho3); have hz2 : w.heap.size ≤ w2.heap.size := by (have h9 := hb2.size; simp at h9; omega))) | (at_builtin; refine wpList_cat rfl (.tmp 16) (.tmp 24) 46 rfl w.heap.size 5 .u8 1 Try.underlying46 Try.infoU8 u4 (octsR (l.take j)) _ A2 n2 c2 (octs [x, (n' : Int)]) rfl rfl (((hown.alloc _).alloc _).below_all hb2) hr2 hz2 (by omega) (by omega) ?_; intro v3 w3 hown3 hext3; have q5 := var_kept (i := 1) hb2 hext3 HNN.out rfl) | (at_builtin; go_must (refine wpList_cat rfl (.tmp 26) (.tmp 28) 46 rfl w.heap.size 5 .u8 1 Try.underlying46 Try.infoU8 v3 (octsR (l.take j) ++ octs [x, (n' : Int)]) _ A' n' c' xs rfl rfl hown3 (R.below (bel3 hsz hb2 (((hown.alloc _).alloc _).below_all hb2) hext3)) (Nat.le_trans hz2 hext3.size) (by rw [List.length_append]; omega) (by rw [List.length_append]; omega) ?_; intro v4 w4 hown4 hext4)))
      go_roundw
      case rel => exact ⟨j + 1, by omega, by go_num, by rw [HT.out, HR.out, ← List.append_assoc]; exact hown4, (hbel.trans (bel3 hsz hb2 (((hown.alloc _).alloc _).below_all hb2) hext3)).trans (hown3.below hext4 (Nat.le_trans hz2 hext3.size))⟩
      case measure => simp [intOf]; omega
    · have HE := hid (show l.take j = l from List.take_of_length_le (by rw [HL.out]; omega))
      rw [HE.out] at hown hlen
      obtain ⟨A4, c4, rfl, hr4⟩ := hown.form
      have hl4 : (octsR l).length ≤ 263296 := by rw [HL.out] at hlen; omega
      by_cases hbig : (octsR l).length ≤ 65535
      · have HO := hid (show putO l = octsR l from if_pos hbig)
        have HPE := hid (show putE l = 0 from if_pos hbig)
        have d5 : decide ((65535 : Int) < ((octsR l).length : Nat)) = false := by simp; omega
        go_wp2
        go_ret2
        exact ⟨_, by rw [HPE.out]; rfl, by rw [HO.out]; exact hown, hbel⟩
      · have HO := hid (show putO l = [] from if_neg hbig)
        have HPE := hid (show putE l = 4 from if_neg hbig)
        have d5 : decide ((65535 : Int) < ((octsR l).length : Nat)) = true := by simp; omega
        go_wp2
        go_ret2
        exact ⟨_, by rw [HPE.out]; rfl, by rw [HO.out]; exact Own.nil _ _ _ _, hbel⟩

set_option maxHeartbeats 400000 in
theorem refPutR_no (A : Option Addr) (n c : Nat) (l : List Rec) (w : World) (hr : Sl lay_Record w (· < w.heap.size) A n c l) (hm : ¬ MayBe l) :
    Calls Try.prog 52 #[.slice A n c] w fun e w' => e = .returned (.tuple #[.slice none 0 0, .int .i64 1]) ∧ Below w.heap.size w w' := by
  have HC := hid (chk_no hm)
  go_enter Try.func52, Try.ntmps52
  go_wp2_with (go_at_call 80; go_must (refine (check_any _ _ _ _ _ hr).mono ?_; rw [HC.out]; rintro e w1 ⟨rfl, hb1⟩))
  go_ret2
  exact ⟨rfl, hb1⟩
end Go.Proofs.Ytgiapfenalhleaa
