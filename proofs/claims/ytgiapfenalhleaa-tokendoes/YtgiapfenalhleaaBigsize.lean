/-
  The contracts of package bigsize's functions.
-/
import Derived.Test.YtgiapfenalhleaaRows
import Derived.Test.YtgiapfenalhleaaBigsizeMath
import Derived.Deep.QuietTactic
import Derived.BigQuiet
import Derived.OpenShut
namespace Go.Proofs.Ytgiapfenalhleaa
open Go.RowKit Go.WalkArith

theorem Try.infoU8 : (Try.prog.info? 5).map (fun i => (i.zero, i.size, i.bytes)) = some (some (.int .u8 0), 1, 1) := by kernel_rfl
theorem Try.elemU8 : Try.prog.elem 46 = 5 := by kernel_rfl
theorem Try.infoU64 : (Try.prog.info? 25).map (fun i => (i.zero, i.size, i.bytes)) = some (some (.int .u64 0), 1, 8) := by kernel_rfl

set_option maxHeartbeats 400000 in
theorem behind_any (f : Int) (w : World) :
    Calls Try.prog 88 #[.int .u8 f] w fun e w' => e = .returned (.int .i64 (bhd f : Nat)) ∧ w = w' := by
  go_enter Try.func88, Try.ntmps88
  go_wp2
  all_goals (go_ret; simp_all [bhd])

set_option maxHeartbeats 400000 in
theorem first_any (n : Int) (w : World) (h0 : 0 ≤ n) :
    Calls Try.prog 87 #[.int .u64 n] w fun e w' => e = .returned (.int .u8 (fst n)) ∧ w = w' := by
  go_enter Try.func87, Try.ntmps87
  go_wp2
  all_goals (go_ret; exact ⟨ret_num (by unfold fst; (repeat' split) <;> omega), rfl⟩)

set_option maxHeartbeats 400000 in
theorem size_any (n : Int) (w : World) (h0 : 0 ≤ n) :
    Calls Try.prog 102 #[.int .u64 n] w fun e w' => e = .returned (.int .i64 ((oct n).length : Nat)) ∧ w = w' := by
  have hb := bhd_le (fst n)
  go_enter Try.func102, Try.ntmps102
  go_wp2_with (first | (go_at_call 87; refine (first_any n _ h0).mono ?_; rintro e w' ⟨rfl, rfl⟩) | (go_at_call 88; refine (behind_any _ _).mono ?_; rintro e w' ⟨rfl, rfl⟩))
  go_ret
  refine ⟨?_, rfl⟩
  rw [oct_len]
  simp

set_option maxHeartbeats 1000000 in
theorem appendNumber_any (v : Value) (xs : List Int) (n : Int) (w : World) (base : Nat) (h0 : 0 ≤ n) (hown : Own w base 5 .u8 v xs) (hbase : base ≤ w.heap.size) (hlen : xs.length ≤ 1000000) :
    Calls Try.prog 68 #[v, .int .u64 n] w fun e w' => ∃ v', e = .returned v' ∧ Own w' base 5 .u8 v' (xs ++ oct n) ∧ Ext w w' v v' := by
  have hb := bhd_le (fst n)
  have hf := fst_bd n h0
  go_enter Try.func68, Try.ntmps68
  go_wp2_with (first | (go_at_call 87; refine (first_any n _ h0).mono ?_; rintro e w' ⟨rfl, rfl⟩) | (go_at_call 88; refine (behind_any _ _).mono ?_; rintro e w' ⟨rfl, rfl⟩) | (at_builtin; go_must (refine wpList_push rfl _ _ 46 rfl base 5 .u8 1 Try.underlying46 Try.infoU8 v xs (fst n) rfl rfl hown (wf_u8 hf) hbase (by omega) (by omega) ?_; intro v1 w1 hown1 hext1)))
  have hK : (high n (bhd (fst n))).length = bhd (fst n) := high_len _ _
  go_loopw [0, 17] (fun u i wr => ∃ j : Nat, j ≤ bhd (fst n) ∧ i = .int .i64 j ∧ Own wr base 5 .u8 u (xs ++ [fst n] ++ (high n (bhd (fst n))).take j) ∧ Ext w wr v u) (fun _ i _ => bhd (fst n) - (intOf i).toNat)
  case atStart => exact ⟨0, Nat.zero_le _, rfl, by simpa using hown1, hext1⟩
  case round =>
    obtain ⟨j, hj, rfl, hown2, hext2⟩ := hrel
    clear hown1 hext1 hown
    have hs2 := hext2.size
    by_cases hlt : j < bhd (fst n)
    · have hl2 : (xs ++ [fst n] ++ (high n (bhd (fst n))).take j).length ≤ 1000009 := by simp [hK]; omega
      have ht := high_take n (bhd (fst n)) j hlt
      have HT := hid ht
      clear ht hK
      go_wp2_with (at_builtin; go_must (refine wpList_push rfl _ _ 46 rfl base 5 .u8 1 Try.underlying46 Try.infoU8 u0 _ (n / 2 ^ (8 * (bhd (fst n) - 1 - j)) % 256) rfl rfl hown2 (wf_u8 (by omega)) (by omega) (by omega) (by omega) ?_; intro v3 w3 hown3 hext3))
      go_roundw
      case rel => exact ⟨j + 1, by omega, by go_num, by rw [HT.out, ← List.append_assoc]; exact hown3, hext2.trans hext3⟩
      case measure => simp [intOf]; omega
    · go_wp2
      go_ret
      exact ⟨_, rfl, by rw [List.take_of_length_le (by omega)] at hown2; simpa [oct] using hown2, hext2⟩

set_option maxHeartbeats 1000000 in
theorem put_any (A : Option Addr) (l c : Nat) (xs : List Int) (w : World) (hr : Rd w w.heap.size .u64 A l c xs) (hl : l ≤ 1000) :
    Calls Try.prog 34 #[.slice A l c] w fun e w' => ∃ v', e = .returned v' ∧ Own w' w.heap.size 5 .u8 v' (octs xs) ∧ Below w.heap.size w w' := by
  have hcap := hr.cap
  unfold maxLen at hcap
  go_enter Try.func34, Try.ntmps34
  go_wp2
  go_loopw [3, 8] (fun u i wr => ∃ j : Nat, j ≤ l ∧ i = .int .i64 j ∧ Own wr w.heap.size 5 .u8 u (octs (xs.take j)) ∧ Below w.heap.size w wr) (fun _ i _ => l - (intOf i).toNat)
  case atStart => exact ⟨0, Nat.zero_le _, rfl, Own.nil _ _ _ _, Below.refl _ _⟩
  case round =>
    obtain ⟨j, hj, rfl, hown, hbel⟩ := hrel
    have hsz := hbel.size
    by_cases hlt : j < l
    · obtain ⟨b, off, rfl, hb, hcell⟩ := hr.at_ (by omega)
      have hc := (hbel.cell (p := ⟨b, off + j, none⟩) hb).trans (hcell j hlt)
      have hn := bounds_u64 (hr.wf (nth xs j) (nth_mem (by rw [hr.len]; exact hlt)))
      have hol := octs_len_le (xs.take j)
      have hol2 : (octs (xs.take j)).length ≤ 1000000 := by rw [List.length_take, hr.len] at hol; omega
      have HT := hid (octs_take xs j (by rw [hr.len]; exact hlt))
      clear hcell hol
      generalize nth xs j = x at *
      go_wp2_with (go_at_call 68; go_must (refine (appendNumber_any _ _ x _ w.heap.size hn.1 hown hsz hol2).mono ?_; rintro e w2 ⟨v2, rfl, hown2, hext2⟩))
      go_roundw
      case rel => exact ⟨j + 1, by omega, by go_num, by rw [HT.out]; exact hown2, hbel.trans (hown.below hext2 hsz)⟩
      case measure => simp [intOf]; omega
    · go_wp2
      go_ret
      exact ⟨_, rfl, by rw [List.take_of_length_le (by rw [hr.len]; omega)] at hown; exact hown, hbel⟩
end Go.Proofs.Ytgiapfenalhleaa
