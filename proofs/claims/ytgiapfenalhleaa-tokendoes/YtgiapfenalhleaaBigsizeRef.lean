/-
  The contracts of the document's own answers of layer 1.
-/
import Derived.Test.YtgiapfenalhleaaBigsizeLaws
import Derived.Deep.RegionHeld3
namespace Go.Proofs.Ytgiapfenalhleaa
open Go.RowKit Go.WalkArith

def longN (c : Int) : Nat := 1 + bhd c
set_option maxHeartbeats 400000 in
theorem long_any (f : Int) (w : World) (h : 0 ≤ f ∧ f ≤ 255) :
    Calls Try.prog 98 #[.int .u8 f] w fun e w' => e = .returned (.int .i64 (longN f : Nat)) ∧ w = w' := by
  go_enter Try.func98, Try.ntmps98
  go_wp2
  all_goals (go_ret; refine ⟨ret_num ?_, rfl⟩; unfold longN bhd; (try simp only [beq_iff_eq, beq_eq_false_iff_ne] at *); (repeat' split) <;> omega)

theorem high_any (k : Nat) (hk : k ≤ 8) (n : Int) (w : World) (h0 : 0 ≤ n) (h1 : n ≤ 18446744073709551615) :
    Calls Try.prog 89 #[.int .u64 n, .int .i64 (k : Nat)] w fun e w' => ∃ v', e = .returned v' ∧ Own w' w.heap.size 5 .u8 v' (high n k) ∧ Below w.heap.size w w' := by
  induction k generalizing n w with
  | zero =>
    go_enter Try.func89, Try.ntmps89
    go_wp2
    go_ret
    exact ⟨_, rfl, Own.nil _ _ _ _, Below.refl _ _⟩
  | succ k ih =>
    have IH := hid ih
    have HS := hid (high_snoc n k)
    have hz : (((k : Int) + 1) == 0) = false := by simp; omega
    have hl := high_len (n / 256) k
    have hl' : (high (n / 256) k).length ≤ 8 := by omega
    clear ih hl
    go_enter Try.func89, Try.ntmps89
    go_wp2_with fail
    with_reducible refine (IH.out (by omega) (n / 256) _ (by omega) (by omega)).mono ?_
    rintro e w2 ⟨v2, rfl, hown2, hb2⟩
    have hz2 := hb2.size
    go_wp2_with (at_builtin; go_must (refine wpList_push rfl _ _ 46 rfl w.heap.size 5 .u8 1 Try.underlying46 Try.infoU8 v2 (high (n / 256) k) (n % 256) rfl rfl hown2 (wf_u8 (by omega)) hz2 (by omega) (by omega) ?_; intro v3 w3 hown3 hext3))
    go_ret
    exact ⟨_, rfl, by rw [HS.out]; exact hown3, hb2.trans (hown2.below hext3 hz2)⟩

theorem one_oct {n : Int} : oct n = if n < 253 then [n] else if n < 65536 then 253 :: high n 2 else if n < 4294967296 then 254 :: high n 4 else 255 :: high n 8 := by
  unfold oct fst
  split
  · rename_i h
    have : bhd n = 0 := by unfold bhd; (repeat' split) <;> omega
    rw [this]; rfl
  · split
    · rfl
    · split <;> rfl

set_option maxHeartbeats 1000000 in
theorem one_any (n : Int) (w : World) (h0 : 0 ≤ n) (h1 : n ≤ 18446744073709551615) :
    Calls Try.prog 70 #[.int .u64 n] w fun e w' => ∃ v', e = .returned v' ∧ Own w' w.heap.size 5 .u8 v' (oct n) ∧ Below w.heap.size w w' := by
  by_cases g1 : n < 253
  · have HO := hid (show oct n = [n] from by rw [one_oct, if_pos g1])
    go_enter Try.func70, Try.ntmps70
    go_wp2
    go_ret
    exact ⟨_, rfl, by rw [HO.out]; exact Own.lit1 _ _ _ _ (wf_u8 (by omega)), by (repeat (first | exact Below.refl _ _ | refine Below.drew ?_ | refine bel_drewN ?_ _ | refine bel_alloc ?_ _ | refine bel_call ?_ (by assumption)))⟩
  · have hl := fun k => high_len n k
    have HL := hid hl
    clear hl
    rcases (show n < 65536 ∨ (65536 ≤ n ∧ n < 4294967296) ∨ 4294967296 ≤ n from by omega) with g2 | g2 | g2
    · have HO := hid (show oct n = 253 :: high n 2 from by rw [one_oct, if_neg g1, if_pos g2])
      go_enter Try.func70, Try.ntmps70
      go_wp2_with (first | (go_at_call 89; go_must (refine (high_any 2 (by omega) n _ h0 h1).mono ?_; rintro e w2 ⟨v2, rfl, hown2, hb2⟩; obtain ⟨A2, n2, c2, rfl, hr2⟩ := hown2.formN; obtain rfl : n2 = 2 := by rw [← hr2.len, HL.out])) | (at_builtin; go_must (refine wpList_cat rfl _ _ 46 rfl w.heap.size 5 .u8 1 Try.underlying46 Try.infoU8 (.slice (some ⟨w.heap.size, 0, none⟩) 1 1) [253] _ A2 2 c2 (high n 2) rfl rfl ((Own.lit1 w 5 .u8 253 (wf_u8 (by omega))).below_all hb2) hr2 (by have := hb2.size; simp at this; omega) (by simp) (by simp) ?_; intro v3 w3 hown3 hext3)))
      go_ret
      have hz2 : w.heap.size ≤ w2.heap.size := by have := hb2.size; simp at this; omega
      exact ⟨_, rfl, by rw [HO.out]; exact hown3, (show Below w.heap.size w w2 from by (repeat (first | exact Below.refl _ _ | refine Below.drew ?_ | refine bel_drewN ?_ _ | refine bel_alloc ?_ _ | refine bel_call ?_ (by assumption)))).trans (((Own.lit1 w 5 .u8 253 (wf_u8 (by omega))).below_all hb2).below hext3 hz2)⟩
    · have HO := hid (show oct n = 254 :: high n 4 from by rw [one_oct, if_neg g1, if_neg (by omega), if_pos g2.2])
      go_enter Try.func70, Try.ntmps70
      go_wp2_with (first | (go_at_call 89; go_must (refine (high_any 4 (by omega) n _ h0 h1).mono ?_; rintro e w2 ⟨v2, rfl, hown2, hb2⟩; obtain ⟨A2, n2, c2, rfl, hr2⟩ := hown2.formN; obtain rfl : n2 = 4 := by rw [← hr2.len, HL.out])) | (at_builtin; go_must (refine wpList_cat rfl _ _ 46 rfl w.heap.size 5 .u8 1 Try.underlying46 Try.infoU8 (.slice (some ⟨w.heap.size, 0, none⟩) 1 1) [254] _ A2 4 c2 (high n 4) rfl rfl ((Own.lit1 w 5 .u8 254 (wf_u8 (by omega))).below_all hb2) hr2 (by have := hb2.size; simp at this; omega) (by simp) (by simp) ?_; intro v3 w3 hown3 hext3)))
      go_ret
      have hz2 : w.heap.size ≤ w2.heap.size := by have := hb2.size; simp at this; omega
      exact ⟨_, rfl, by rw [HO.out]; exact hown3, (show Below w.heap.size w w2 from by (repeat (first | exact Below.refl _ _ | refine Below.drew ?_ | refine bel_drewN ?_ _ | refine bel_alloc ?_ _ | refine bel_call ?_ (by assumption)))).trans (((Own.lit1 w 5 .u8 254 (wf_u8 (by omega))).below_all hb2).below hext3 hz2)⟩
    · have HO := hid (show oct n = 255 :: high n 8 from by rw [one_oct, if_neg g1, if_neg (by omega), if_neg (by omega)])
      go_enter Try.func70, Try.ntmps70
      go_wp2_with (first | (go_at_call 89; go_must (refine (high_any 8 (by omega) n _ h0 h1).mono ?_; rintro e w2 ⟨v2, rfl, hown2, hb2⟩; obtain ⟨A2, n2, c2, rfl, hr2⟩ := hown2.formN; obtain rfl : n2 = 8 := by rw [← hr2.len, HL.out])) | (at_builtin; go_must (refine wpList_cat rfl _ _ 46 rfl w.heap.size 5 .u8 1 Try.underlying46 Try.infoU8 (.slice (some ⟨w.heap.size, 0, none⟩) 1 1) [255] _ A2 8 c2 (high n 8) rfl rfl ((Own.lit1 w 5 .u8 255 (wf_u8 (by omega))).below_all hb2) hr2 (by have := hb2.size; simp at this; omega) (by simp) (by simp) ?_; intro v3 w3 hown3 hext3)))
      go_ret
      have hz2 : w.heap.size ≤ w2.heap.size := by have := hb2.size; simp at this; omega
      exact ⟨_, rfl, by rw [HO.out]; exact hown3, (show Below w.heap.size w w2 from by (repeat (first | exact Below.refl _ _ | refine Below.drew ?_ | refine bel_drewN ?_ _ | refine bel_alloc ?_ _ | refine bel_call ?_ (by assumption)))).trans (((Own.lit1 w 5 .u8 255 (wf_u8 (by omega))).below_all hb2).below hext3 hz2)⟩

set_option maxHeartbeats 1000000 in
theorem refPut_any (A : Option Addr) (l c : Nat) (xs : List Int) (w : World) (hr : Rd w w.heap.size .u64 A l c xs) (hl : l ≤ 1000) :
    Calls Try.prog 36 #[.slice A l c] w fun e w' => ∃ v', e = .returned v' ∧ Own w' w.heap.size 5 .u8 v' (octs xs) ∧ Below w.heap.size w w' := by
  have hcap := hr.cap
  unfold maxLen at hcap
  go_enter Try.func36, Try.ntmps36
  go_wp2
  go_loopw [3, 8] (fun u i wr => ∃ j : Nat, j ≤ l ∧ i = .int .i64 j ∧ Own wr w.heap.size 5 .u8 u (octs (xs.take j)) ∧ Below w.heap.size w wr) (fun _ i _ => l - (intOf i).toNat)
  case atStart => exact ⟨0, Nat.zero_le _, rfl, Own.nil _ _ _ _, Below.refl _ _⟩
  case round =>
    obtain ⟨j, hj, rfl, hown, hbel⟩ := hrel
    have hsz := hbel.size
    by_cases hlt : j < l
    · obtain ⟨b, off, rfl, hb, hcell⟩ := hr.at_ (by omega)
      have hc := (hbel.cell (p := ⟨b, off + j, none⟩) hb).trans (hcell j hlt)
      have hn := bounds_u64 (hr.wf (nth xs j) (nth_mem (by rw [hr.len]; exact hlt)))
      have hol := octs_len_le (xs.take j)
      have hol2 : (octs (xs.take j)).length ≤ 1000000 := by rw [List.length_take, hr.len] at hol; omega
      have HT := hid (octs_take xs j (by rw [hr.len]; exact hlt))
      clear hcell hol
      generalize nth xs j = x at *
      have hx9 := oct_len x
      have hx8 := bhd_le (fst x)
      go_wp2_with (first | (go_at_call 70; go_must (refine (one_any x _ hn.1 hn.2).mono ?_; rintro e w2 ⟨v2, rfl, hown2, hb2⟩; obtain ⟨A2, n2, c2, rfl, hr2⟩ := hown2.formN; have hn2 : n2 ≤ 9 := by rw [← hr2.len]; omega)) | (at_builtin; go_must (refine wpList_cat rfl _ _ 46 rfl w.heap.size 5 .u8 1 Try.underlying46 Try.infoU8 u3 (octs (xs.take j)) _ A2 n2 c2 (oct x) rfl rfl (hown.below_all hb2) hr2 (Nat.le_trans hsz hb2.size) (by omega) (by omega) ?_; intro v3 w3 hown3 hext3)))
      go_roundw
      case rel => exact ⟨j + 1, by omega, by go_num, by rw [HT.out]; exact hown3, (hbel.trans (hb2.mono hsz)).trans ((hown.below_all hb2).below hext3 (Nat.le_trans hsz hb2.size))⟩
      case measure => simp [intOf]; omega
    · go_wp2
      go_ret
      exact ⟨_, rfl, by rw [List.take_of_length_le (by rw [hr.len]; omega)] at hown; exact hown, hbel⟩
end Go.Proofs.Ytgiapfenalhleaa
