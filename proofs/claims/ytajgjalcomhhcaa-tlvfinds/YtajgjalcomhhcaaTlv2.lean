/-
  The contracts of package tlv's Put, place, Find, Number.
-/
import Derived.Test.YtajgjalcomhhcaaTlv1
namespace Go.Proofs.Ytajgjalcomhhcaa
open Go.RowKit Go.WalkArith

set_option maxRecDepth 100000 in
set_option maxHeartbeats 2000000 in
theorem tlvPut_ok (A : Option Addr) (n c : Nat) (l : List Rec) (w : World) (hr : Sl lay_Record w (· < w.heap.size) A n c l) (hm : MayBe l) :
    Calls Try.prog 11 #[.slice A n c] w fun e w' => ∃ v', e = .returned (.tuple #[v', .int .i64 (putE l)]) ∧ Own w' w.heap.size 5 .u8 v' (putO l) ∧ Below w.heap.size w w' := by
  have hcap := hr.cap
  unfold maxLen at hcap
  have HL := hid hr.len
  have hn64 : n ≤ 64 := by rw [← HL.out]; exact hm.1
  have HM := hid hm
  have HC := hid (chk_ok hm)
  clear hm
  go_enter Try.func11, Try.ntmps11
  go_wp2_with (go_at_call 17; go_must (refine (tlvCheck_any _ _ _ _ _ hr).mono ?_; rw [HC.out]; rintro e w1 ⟨rfl, hb1⟩))
  go_loopw [5, 15] (fun u i wr => ∃ j : Nat, j ≤ n ∧ i = .int .i64 j ∧ Own wr w.heap.size 5 .u8 u (octsR (l.take j)) ∧ Below w.heap.size w wr) (fun _ i _ => n - (intOf i).toNat)
  case atStart => exact ⟨0, Nat.zero_le _, rfl, Own.nil _ _ _ _, hb1⟩
  case round =>
    obtain ⟨j, hj, rfl, hown, hbel⟩ := hrel
    have hsz := hbel.size
    have hlen := octsR_len (l := l.take j) fun r h => HM.out.small r (List.mem_of_mem_take h)
    have hlt64 : (l.take j).length ≤ 64 := Nat.le_trans (List.length_take_le _ _) (by omega)
    by_cases hlt : j < n
    · obtain ⟨b, off, A', n', c', hx, rfl, hb, h1, h2, hT, hV⟩ := rec_at hr hlt
      have q1 := (hbel.cell (p := ⟨b, off + j * 2, none⟩) hb).trans h1
      have q2 := (hbel.cell (p := ⟨b, off + j * 2 + 1, none⟩) hb).trans h2
      have R := (hV.rd (B := w.heap.size) fun _ h => h).below hbel
      have HT := hid (octsR_take hx)
      have hVl := hid hV.len
      have hn' : n' ≤ 4096 := by rw [← hVl.out]; exact HM.out.small _ (List.getElem_mem hx)
      have hWT := wf_u64 hT
      have hWN : (Lit.int .u64 (n' : Int)).wf = true := wf_u64 (by omega)
      have hR : octR l[j] = octs [l[j].T, (n' : Int)] ++ l[j].V := by simp [octR, octs, hVl.out]
      have HR := hid hR
      have ho2 := octs_len_le [l[j].T, (n' : Int)]
      have ho3 : (octs [l[j].T, (n' : Int)]).length ≤ 18 := by simpa using ho2
      have hol : (octsR (l.take j)).length ≤ 263296 := by omega
      clear h1 h2 hV hR ho2 hlen
      generalize l[j].T = x at *
      generalize l[j].V = xs at *
      have HNN := hid (hown.not_new (Nat.le_refl _))
      go_wp2_with (first | (go_at_call 26; go_must (refine (put_any _ _ _ [x, (n' : Int)] _ (Rd.lit2 ?_ ?_ hWT hWN) (by omega)).mono ?_; go_simp; go_simp; rintro e w2 ⟨v2, rfl, hown2, hb2⟩; obtain ⟨A2, n2, c2, rfl, hr2⟩ := hown2.formN; have hl2 : n2 ≤ 18 := (by rw [← hr2.len]; exact ho3); have hz2 : w.heap.size ≤ w2.heap.size := by (have h9 := hb2.size; simp at h9; omega))) | (at_builtin; refine wpList_cat rfl (.tmp 19) (.tmp 27) 23 rfl w.heap.size 5 .u8 1 Try.underlying23 Try.infoU8 u5 (octsR (l.take j)) _ A2 n2 c2 (octs [x, (n' : Int)]) rfl rfl (((hown.alloc _).alloc _).below_all hb2) hr2 hz2 (by omega) (by omega) ?_; intro v3 w3 hown3 hext3; have q5 := var_kept (i := 1) hb2 hext3 HNN.out rfl) | (at_builtin; go_must (refine wpList_cat rfl (.tmp 29) (.tmp 31) 23 rfl w.heap.size 5 .u8 1 Try.underlying23 Try.infoU8 v3 (octsR (l.take j) ++ octs [x, (n' : Int)]) _ A' n' c' xs rfl rfl hown3 (R.below (bel3 hsz hb2 (((hown.alloc _).alloc _).below_all hb2) hext3)) (Nat.le_trans hz2 hext3.size) (by rw [List.length_append]; omega) (by rw [List.length_append]; omega) ?_; intro v4 w4 hown4 hext4)))
      go_roundw
      case rel => exact ⟨j + 1, by omega, by go_num, by rw [HT.out, HR.out, ← List.append_assoc]; exact hown4, (hbel.trans (bel3 hsz hb2 (((hown.alloc _).alloc _).below_all hb2) hext3)).trans (hown3.below hext4 (Nat.le_trans hz2 hext3.size))⟩
      case measure => simp [intOf]; omega
    · have HE := hid (show l.take j = l from List.take_of_length_le (by rw [HL.out]; omega))
      rw [HE.out] at hown hlen
      obtain ⟨A4, c4, rfl, hr4⟩ := hown.form
      have hl4 : (octsR l).length ≤ 263296 := by rw [HL.out] at hlen; omega
      by_cases hbig : (octsR l).length ≤ 65535
      · have HO := hid (show putO l = octsR l from if_pos hbig)
        have HPE := hid (show putE l = 0 from if_pos hbig)
        have d5 : decide ((65535 : Int) < ((octsR l).length : Nat)) = false := by simp; omega
        go_wp2
        go_ret2
        exact ⟨_, by rw [HPE.out]; rfl, by rw [HO.out]; exact hown, hbel⟩
      · have HO := hid (show putO l = [] from if_neg hbig)
        have HPE := hid (show putE l = 4 from if_neg hbig)
        have d5 : decide ((65535 : Int) < ((octsR l).length : Nat)) = true := by simp; omega
        go_wp2
        go_ret2
        exact ⟨_, by rw [HPE.out]; rfl, by rw [HO.out]; exact Own.nil _ _ _ _, hbel⟩

set_option maxHeartbeats 400000 in
theorem tlvPut_no (A : Option Addr) (n c : Nat) (l : List Rec) (w : World) (hr : Sl lay_Record w (· < w.heap.size) A n c l) (hm : ¬ MayBe l) :
    Calls Try.prog 11 #[.slice A n c] w fun e w' => e = .returned (.tuple #[.slice none 0 0, .int .i64 1]) ∧ Below w.heap.size w w' := by
  have HC := hid (chk_no hm)
  go_enter Try.func11, Try.ntmps11
  go_wp2_with (go_at_call 17; go_must (refine (tlvCheck_any _ _ _ _ _ hr).mono ?_; rw [HC.out]; rintro e w1 ⟨rfl, hb1⟩))
  go_ret2
  exact ⟨rfl, hb1⟩

theorem tlvPut_any (A : Option Addr) (n c : Nat) (l : List Rec) (w : World) (hr : Sl lay_Record w (· < w.heap.size) A n c l) :
    Calls Try.prog 11 #[.slice A n c] w fun e w' => ∃ v', e = .returned (.tuple #[v', .int .i64 (pE l)]) ∧ Own w' w.heap.size 5 .u8 v' (pO l) ∧ Below w.heap.size w w' := by
  by_cases hm : MayBe l
  · rw [pE_ok hm, pO_ok hm]; exact tlvPut_ok A n c l w hr hm
  · rw [pE_no hm, pO_no hm]
    exact (tlvPut_no A n c l w hr hm).mono fun e w' h => ⟨_, h.1, Own.nil _ _ _ _, h.2⟩
theorem refPutR_any (A : Option Addr) (n c : Nat) (l : List Rec) (w : World) (hr : Sl lay_Record w (· < w.heap.size) A n c l) :
    Calls Try.prog 12 #[.slice A n c] w fun e w' => ∃ v', e = .returned (.tuple #[v', .int .i64 (pE l)]) ∧ Own w' w.heap.size 5 .u8 v' (pO l) ∧ Below w.heap.size w w' := by
  by_cases hm : MayBe l
  · rw [pE_ok hm, pO_ok hm]; exact refPutR_ok A n c l w hr hm
  · rw [pE_no hm, pO_no hm]
    exact (refPutR_no A n c l w hr hm).mono fun e w' h => ⟨_, h.1, Own.nil _ _ _ _, h.2⟩

/-- How two numbers stand to each other. -/
def cmpI (x y : Int) : Int := if x < y then -1 else if y < x then 1 else 0
theorem isNaN_any (x : Int) (w : World) : Calls Try.prog 48 #[.int .u64 x] w fun e w' => e = .returned (.bool false) ∧ w = w' := by
  have h : (x != x) = false := by simp
  go_enter Try.func48, Try.ntmps48
  go_wp2
  go_ret
  exact ⟨rfl, rfl⟩
theorem compare_any (x y : Int) (w : World) : Calls Try.prog 42 #[.int .u64 x, .int .u64 y] w fun e w' => e = .returned (.int .i64 (cmpI x y)) ∧ w = w' := by
  go_enter Try.func42, Try.ntmps42
  go_wp2_with (go_at_call 48; refine (isNaN_any _ _).mono ?_; rintro e w' ⟨rfl, rfl⟩)
  all_goals (go_ret; exact ⟨ret_num (by unfold cmpI; (repeat' split) <;> omega), rfl⟩)
theorem place1_any (s : Array Value) (S : Nat → Prop) (r : Rec) (t : Int) (w : World) (hs : lay_Record.rep w S r s.toList) :
    Calls Try.prog 41 #[.agg s, .int .u64 t] w fun e w' => e = .returned (.int .i64 (cmpI r.T t)) ∧ Below w.heap.size w w' := by
  obtain ⟨A1, n1, c1, hc1, hT1, hV1⟩ := rep_Record.1 hs
  obtain rfl : s = #[.int .u64 r.T, .slice A1 n1 c1] := Array.ext' hc1
  go_enter Try.func41, Try.ntmps41
  go_wp2_with (go_at_call 42; refine (compare_any _ _ _).mono ?_; rintro e w' ⟨rfl, rfl⟩)
  go_ret
  exact ⟨rfl, by (repeat (first | exact Below.refl _ _ | refine Below.drew ?_ | refine bel_drewN ?_ _ | refine bel_alloc ?_ _ | refine bel_call ?_ (by assumption)))⟩
end Go.Proofs.Ytajgjalcomhhcaa
