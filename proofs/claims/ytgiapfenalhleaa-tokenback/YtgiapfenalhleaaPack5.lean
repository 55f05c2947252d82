/-
  The contracts of the document's own answers of layer 1.
  The contracts of the document's own Get and All.
  The contracts of the document's own Get (short numbers; joined) and All.
-/
import Derived.Deep.RegionHeld3
import Derived.Deep.RegionWith
import Derived.Test.YtgiapfenalhleaaPack1
import Derived.Test.YtgiapfenalhleaaPack2
import Derived.Test.YtgiapfenalhleaaPack3
import Derived.Test.YtgiapfenalhleaaPack4
namespace Go.Proofs.Ytgiapfenalhleaa
open Go.RowKit Go.WalkArith

def longN (c : Int) : Nat := 1 + bhd c
set_option maxHeartbeats 400000 in
theorem long_any (f : Int) (w : World) (h : 0 ≤ f ∧ f ≤ 255) :
    Calls Try.prog 98 #[.int .u8 f] w fun e w' => e = .returned (.int .i64 (longN f : Nat)) ∧ w = w' := by
  go_enter Try.func98, Try.ntmps98
  go_wp2
  all_goals (go_ret; refine ⟨ret_num ?_, rfl⟩; unfold longN bhd; (try simp only [beq_iff_eq, beq_eq_false_iff_ne] at *); (repeat' split) <;> omega)

theorem high_any (k : Nat) (hk : k ≤ 8) (n : Int) (w : World) (h0 : 0 ≤ n) (h1 : n ≤ 18446744073709551615) :
    Calls Try.prog 89 #[.int .u64 n, .int .i64 (k : Nat)] w fun e w' => ∃ v', e = .returned v' ∧ Own w' w.heap.size 5 .u8 v' (high n k) ∧ Below w.heap.size w w' := by
  induction k generalizing n w with
  | zero =>
    go_enter Try.func89, Try.ntmps89
    go_wp2
    go_ret
    exact ⟨_, rfl, Own.nil _ _ _ _, Below.refl _ _⟩
  | succ k ih =>
    have IH := hid ih
    have HS := hid (high_snoc n k)
    have hz : (((k : Int) + 1) == 0) = false := by simp; omega
    have hl := high_len (n / 256) k
    have hl' : (high (n / 256) k).length ≤ 8 := by omega
    clear ih hl
    go_enter Try.func89, Try.ntmps89
    go_wp2_with fail
    with_reducible refine (IH.out (by omega) (n / 256) _ (by omega) (by omega)).mono ?_
    rintro e w2 ⟨v2, rfl, hown2, hb2⟩
    have hz2 := hb2.size
    go_wp2_with (at_builtin; go_must (refine wpList_push rfl _ _ 46 rfl w.heap.size 5 .u8 1 Try.underlying46 Try.infoU8 v2 (high (n / 256) k) (n % 256) rfl rfl hown2 (wf_u8 (by omega)) hz2 (by omega) (by omega) ?_; intro v3 w3 hown3 hext3))
    go_ret
    exact ⟨_, rfl, by rw [HS.out]; exact hown3, hb2.trans (hown2.below hext3 hz2)⟩

theorem one_oct {n : Int} : oct n = if n < 253 then [n] else if n < 65536 then 253 :: high n 2 else if n < 4294967296 then 254 :: high n 4 else 255 :: high n 8 := by
  unfold oct fst
  split
  · rename_i h
    have : bhd n = 0 := by unfold bhd; (repeat' split) <;> omega
    rw [this]; rfl
  · split
    · rfl
    · split <;> rfl

set_option maxHeartbeats 1000000 in
theorem one_any (n : Int) (w : World) (h0 : 0 ≤ n) (h1 : n ≤ 18446744073709551615) :
    Calls Try.prog 70 #[.int .u64 n] w fun e w' => ∃ v', e = .returned v' ∧ Own w' w.heap.size 5 .u8 v' (oct n) ∧ Below w.heap.size w w' := by
  by_cases g1 : n < 253
  · have HO := hid (show oct n = [n] from by rw [one_oct, if_pos g1])
    go_enter Try.func70, Try.ntmps70
    go_wp2
    go_ret
    exact ⟨_, rfl, by rw [HO.out]; exact Own.lit1 _ _ _ _ (wf_u8 (by omega)), by (repeat (first | exact Below.refl _ _ | refine Below.drew ?_ | refine bel_drewN ?_ _ | refine bel_alloc ?_ _ | refine bel_call ?_ (by assumption)))⟩
  · have hl := fun k => high_len n k
    have HL := hid hl
    clear hl
    rcases (show n < 65536 ∨ (65536 ≤ n ∧ n < 4294967296) ∨ 4294967296 ≤ n from by omega) with g2 | g2 | g2
    · have HO := hid (show oct n = 253 :: high n 2 from by rw [one_oct, if_neg g1, if_pos g2])
      go_enter Try.func70, Try.ntmps70
      go_wp2_with (first | (go_at_call 89; go_must (refine (high_any 2 (by omega) n _ h0 h1).mono ?_; rintro e w2 ⟨v2, rfl, hown2, hb2⟩; obtain ⟨A2, n2, c2, rfl, hr2⟩ := hown2.formN; obtain rfl : n2 = 2 := by rw [← hr2.len, HL.out])) | (at_builtin; go_must (refine wpList_cat rfl _ _ 46 rfl w.heap.size 5 .u8 1 Try.underlying46 Try.infoU8 (.slice (some ⟨w.heap.size, 0, none⟩) 1 1) [253] _ A2 2 c2 (high n 2) rfl rfl ((Own.lit1 w 5 .u8 253 (wf_u8 (by omega))).below_all hb2) hr2 (by have := hb2.size; simp at this; omega) (by simp) (by simp) ?_; intro v3 w3 hown3 hext3)))
      go_ret
      have hz2 : w.heap.size ≤ w2.heap.size := by have := hb2.size; simp at this; omega
      exact ⟨_, rfl, by rw [HO.out]; exact hown3, (show Below w.heap.size w w2 from by (repeat (first | exact Below.refl _ _ | refine Below.drew ?_ | refine bel_drewN ?_ _ | refine bel_alloc ?_ _ | refine bel_call ?_ (by assumption)))).trans (((Own.lit1 w 5 .u8 253 (wf_u8 (by omega))).below_all hb2).below hext3 hz2)⟩
    · have HO := hid (show oct n = 254 :: high n 4 from by rw [one_oct, if_neg g1, if_neg (by omega), if_pos g2.2])
      go_enter Try.func70, Try.ntmps70
      go_wp2_with (first | (go_at_call 89; go_must (refine (high_any 4 (by omega) n _ h0 h1).mono ?_; rintro e w2 ⟨v2, rfl, hown2, hb2⟩; obtain ⟨A2, n2, c2, rfl, hr2⟩ := hown2.formN; obtain rfl : n2 = 4 := by rw [← hr2.len, HL.out])) | (at_builtin; go_must (refine wpList_cat rfl _ _ 46 rfl w.heap.size 5 .u8 1 Try.underlying46 Try.infoU8 (.slice (some ⟨w.heap.size, 0, none⟩) 1 1) [254] _ A2 4 c2 (high n 4) rfl rfl ((Own.lit1 w 5 .u8 254 (wf_u8 (by omega))).below_all hb2) hr2 (by have := hb2.size; simp at this; omega) (by simp) (by simp) ?_; intro v3 w3 hown3 hext3)))
      go_ret
      have hz2 : w.heap.size ≤ w2.heap.size := by have := hb2.size; simp at this; omega
      exact ⟨_, rfl, by rw [HO.out]; exact hown3, (show Below w.heap.size w w2 from by (repeat (first | exact Below.refl _ _ | refine Below.drew ?_ | refine bel_drewN ?_ _ | refine bel_alloc ?_ _ | refine bel_call ?_ (by assumption)))).trans (((Own.lit1 w 5 .u8 254 (wf_u8 (by omega))).below_all hb2).below hext3 hz2)⟩
    · have HO := hid (show oct n = 255 :: high n 8 from by rw [one_oct, if_neg g1, if_neg (by omega), if_neg (by omega)])
      go_enter Try.func70, Try.ntmps70
      go_wp2_with (first | (go_at_call 89; go_must (refine (high_any 8 (by omega) n _ h0 h1).mono ?_; rintro e w2 ⟨v2, rfl, hown2, hb2⟩; obtain ⟨A2, n2, c2, rfl, hr2⟩ := hown2.formN; obtain rfl : n2 = 8 := by rw [← hr2.len, HL.out])) | (at_builtin; go_must (refine wpList_cat rfl _ _ 46 rfl w.heap.size 5 .u8 1 Try.underlying46 Try.infoU8 (.slice (some ⟨w.heap.size, 0, none⟩) 1 1) [255] _ A2 8 c2 (high n 8) rfl rfl ((Own.lit1 w 5 .u8 255 (wf_u8 (by omega))).below_all hb2) hr2 (by have := hb2.size; simp at this; omega) (by simp) (by simp) ?_; intro v3 w3 hown3 hext3)))
      go_ret
      have hz2 : w.heap.size ≤ w2.heap.size := by have := hb2.size; simp at this; omega
      exact ⟨_, rfl, by rw [HO.out]; exact hown3, (show Below w.heap.size w w2 from by (repeat (first | exact Below.refl _ _ | refine Below.drew ?_ | refine bel_drewN ?_ _ | refine bel_alloc ?_ _ | refine bel_call ?_ (by assumption)))).trans (((Own.lit1 w 5 .u8 255 (wf_u8 (by omega))).below_all hb2).below hext3 hz2)⟩

set_option maxHeartbeats 1000000 in
theorem refPut_any (A : Option Addr) (l c : Nat) (xs : List Int) (w : World) (hr : Rd w w.heap.size .u64 A l c xs) (hl : l ≤ 1000) :
    Calls Try.prog 36 #[.slice A l c] w fun e w' => ∃ v', e = .returned v' ∧ Own w' w.heap.size 5 .u8 v' (octs xs) ∧ Below w.heap.size w w' := by
  have hcap := hr.cap
  unfold maxLen at hcap
  go_enter Try.func36, Try.ntmps36
  go_wp2
  go_loopw [3, 8] (fun u i wr => ∃ j : Nat, j ≤ l ∧ i = .int .i64 j ∧ Own wr w.heap.size 5 .u8 u (octs (xs.take j)) ∧ Below w.heap.size w wr) (fun _ i _ => l - (intOf i).toNat)
  case atStart => exact ⟨0, Nat.zero_le _, rfl, Own.nil _ _ _ _, Below.refl _ _⟩
  case round =>
    obtain ⟨j, hj, rfl, hown, hbel⟩ := hrel
    have hsz := hbel.size
    by_cases hlt : j < l
    · obtain ⟨b, off, rfl, hb, hcell⟩ := hr.at_ (by omega)
      have hc := (hbel.cell (p := ⟨b, off + j, none⟩) hb).trans (hcell j hlt)
      have hn := bounds_u64 (hr.wf (nth xs j) (nth_mem (by rw [hr.len]; exact hlt)))
      have hol := octs_len_le (xs.take j)
      have hol2 : (octs (xs.take j)).length ≤ 1000000 := by rw [List.length_take, hr.len] at hol; omega
      have HT := hid (octs_take xs j (by rw [hr.len]; exact hlt))
      clear hcell hol
      generalize nth xs j = x at *
      have hx9 := oct_len x
      have hx8 := bhd_le (fst x)
      go_wp2_with (first | (go_at_call 70; go_must (refine (one_any x _ hn.1 hn.2).mono ?_; rintro e w2 ⟨v2, rfl, hown2, hb2⟩; obtain ⟨A2, n2, c2, rfl, hr2⟩ := hown2.formN; have hn2 : n2 ≤ 9 := by rw [← hr2.len]; omega)) | (at_builtin; go_must (refine wpList_cat rfl _ _ 46 rfl w.heap.size 5 .u8 1 Try.underlying46 Try.infoU8 u3 (octs (xs.take j)) _ A2 n2 c2 (oct x) rfl rfl (hown.below_all hb2) hr2 (Nat.le_trans hsz hb2.size) (by omega) (by omega) ?_; intro v3 w3 hown3 hext3)))
      go_roundw
      case rel => exact ⟨j + 1, by omega, by go_num, by rw [HT.out]; exact hown3, (hbel.trans (hb2.mono hsz)).trans ((hown.below_all hb2).below hext3 (Nat.le_trans hsz hb2.size))⟩
      case measure => simp [intOf]; omega
    · go_wp2
      go_ret
      exact ⟨_, rfl, by rw [List.take_of_length_le (by rw [hr.len]; omega)] at hown; exact hown, hbel⟩
end Go.Proofs.Ytgiapfenalhleaa
namespace Go.Proofs.Ytgiapfenalhleaa
open Go.RowKit Go.WalkArith

theorem run_mid1 {P : Program} (t e : TypeId) {b : Nat} {z : Value} (ht : P.underlying t = some (.slice e)) (hel : P.elem t = e) (hi : (P.info? e).map (fun i => (i.zero, i.size, i.bytes)) = some (some z, 1, b)) (A : Option Addr) (n c k : Nat) (h1 : 1 ≤ k) (hk : k ≤ c) (w : World) :
    (Instr.slice t (.slice A n c) (some (.int .i64 1)) (some (.int .i64 (k : Int))) none).run P w = .ok (.slice (cutA A c 1) (k - 1) (c - 1)) w := by
  obtain ⟨i, hi, hz0, hz1, hz2⟩ := info_parts hi
  subst hel
  rw [run_slice_lh w t A n c ht .i64 .i64 1 (k : Int) (by omega) (by omega) (by omega)]
  simp [sizeOf, typeInfo, hi, hz1, sliced, cutA]

theorem oct_take_iff {xs : List Int} (hw : ∀ x ∈ xs, 0 ≤ x ∧ x ≤ 255) (hl : bhd (nth xs 0) < xs.length) : decide (oct (rdN xs) = xs.take (longN (nth xs 0))) = decide (fst (rdN xs) = nth xs 0) := by
  by_cases h : fst (rdN xs) = nth xs 0
  · have he : getE xs = 0 := by unfold getE; rw [if_neg (by omega), if_pos h]
    have := (put_get hw he).1
    rw [oct_len, h] at this
    rw [decide_eq_true h]
    exact decide_eq_true this
  · rw [decide_eq_false h]
    refine decide_eq_false fun e => h ?_
    cases xs with
    | nil => simp at hl
    | cons x xs =>
      unfold longN at e
      rw [Nat.add_comm, List.take_succ_cons] at e
      unfold oct at e
      injection e

set_option maxRecDepth 100000 in
set_option maxHeartbeats 2000000 in
theorem refGet_long (A : Option Addr) (n c : Nat) (xs : List Int) (w : World) (hr : Rd w w.heap.size .u8 A n c xs) (hn : bhd (nth xs 0) < n) (hz : bhd (nth xs 0) ≠ 0) :
    Calls Try.prog 85 #[.slice A n c] w fun e w' => e = .returned (if fst (rdN xs) = nth xs 0 then .tuple #[.int .u64 (rdN xs), .int .i64 (longN (nth xs 0) : Nat), .int .i64 0] else .tuple #[.int .u64 0, .int .i64 0, .int .i64 2]) ∧ Below w.heap.size w w' := by
  obtain ⟨b, off, rfl, hb, hcell⟩ := hr.at_ (by omega)
  have hcap := hr.cap
  unfold maxLen at hcap
  have hlen := hr.len
  have hw := fun x hx => bounds_u8 (hr.wf x hx)
  have hx0 := hw (nth xs 0) (nth_mem (by omega))
  have h0 := hcell 0 (by omega)
  simp only [Nat.add_zero] at h0
  have h8 := bhd_le (nth xs 0)
  have HR := hid (show rdN xs = valTo xs (bhd (nth xs 0)) from by simp [rdN, hz])
  have hrb := rdN_bd xs (by omega) hw
  have HI := hid (oct_take_iff hw (by omega))
  have hk : longN (nth xs 0) = 1 + bhd (nth xs 0) := rfl
  have HQ := hid (hr.upto (i := longN (nth xs 0)) (by omega))
  have hsl := run_mid1 (P := Try.prog) 46 5 Try.underlying46 Try.elemU8 Try.infoU8 (some ⟨b, off, none⟩) n c (longN (nth xs 0)) (by omega) (by omega)
  rw [show cutA (some ⟨b, off, none⟩) c 1 = some ⟨b, off + 1, none⟩ from by unfold cutA; rw [if_neg (by omega)]; simp [Addr.add], show longN (nth xs 0) - 1 = bhd (nth xs 0) from by omega] at hsl
  have hup := run_upto (P := Try.prog) 46 5 Try.underlying46 Try.elemU8 Try.infoU8 (some ⟨b, off, none⟩) n c (longN (nth xs 0)) (by omega)
  have HW := hid hw
  have HL := hid hlen
  have hkn : longN (nth xs 0) ≤ n := by omega
  have hk9 : longN (nth xs 0) ≤ 9 := by omega
  have hk1 : ((longN (nth xs 0) : Int) == 1) = false := by simp; omega
  have hd1 : decide (n < longN (nth xs 0)) = false := by simp; omega
  have hd2 : decide ((n : Int) < (longN (nth xs 0) : Nat)) = false := by simp; omega
  have hnz : ((n : Int) == 0) = false := by simp; omega
  have hp : (0 : Int) < (n : Int) := by omega
  have HRD := hid hr
  clear hw hlen hr hk
  generalize nth xs 0 = x at *
  go_enter Try.func85, Try.ntmps85
  go_wp2_with (go_at_call 98; refine (long_any _ _ hx0).mono ?_; rintro e w' ⟨rfl, rfl⟩)
  go_loop [6, 35] (fun s i => ∃ j : Nat, j ≤ bhd x ∧ i = .int .i64 j ∧ s = .int .u64 (valTo xs j)) (fun _ i => bhd x - (intOf i).toNat)
  case atStart => exact ⟨0, Nat.zero_le _, rfl, rfl⟩
  case round =>
    obtain ⟨j, hj, rfl, rfl⟩ := hrel
    by_cases hlt : j < bhd x
    · have hc := hcell (1 + j) (by omega)
      rw [← Nat.add_assoc] at hc
      have hv := valTo_bd xs j HW.out
      have HS := hid (valTo_succ xs j (by rw [HL.out]; omega))
      have hx := HW.out (nth xs (1 + j)) (nth_mem (by rw [HL.out]; omega))
      generalize nth xs (1 + j) = y at *
      have hpw := pow8_le j (by omega)
      have hv' : valTo xs j < 72057594037927936 := by omega
      have hv0 := hv.1
      clear hpw hv hcell
      go_wp2
      go_round
      case rel => exact ⟨j + 1, by omega, by go_num, by rw [HS.out]; go_num⟩
      case measure => simp [intOf]; omega
    · obtain rfl : j = bhd x := by omega
      rw [← HR.out]
      have hos := oct_bd (rdN xs) hrb.1
      have hse := str_eq (xs := oct (rdN xs)) (ys := xs.take (longN x)) hos fun y hy => HW.out y (List.mem_of_mem_take hy)
      rw [HI.out] at hse
      have karg := HQ.out.drew.str (P := Try.prog) Try.underlying46 Try.underlying5 Try.underlying9
      go_wp2_with fail
      by_cases hf : fst (rdN xs) = x
      · rw [decide_eq_true hf] at hse
        have hsn : ((strOfNums (oct (rdN xs))).toList != (strOfNums (xs.take (longN x))).toList) = false := by rw [bne, hse]; rfl
        have HF := hid hf
        clear hf hcell HI
        go_region_with (first | (go_at_call 70; go_must (refine (one_any (rdN xs) _ hrb.1 hrb.2).mono ?_; rintro e w2 ⟨v2, rfl, hown2, hb2⟩; obtain ⟨A2, n2, c2, rfl, hr2⟩ := hown2.formN; have k2 := hr2.str (P := Try.prog) Try.underlying46 Try.underlying5 Try.underlying9; have karg2 := (HQ.out.drew.below hb2).str (P := Try.prog) Try.underlying46 Try.underlying5 Try.underlying9)))
        all_goals (go_wp2; go_ret3; exact ⟨by first | rfl | (rw [if_pos HF.out]; rfl), by (repeat (first | exact Below.refl _ _ | refine Below.drew ?_ | refine bel_drewN ?_ _ | refine bel_alloc ?_ _ | refine bel_call ?_ (by assumption)))⟩)
      · rw [decide_eq_false hf] at hse
        have hsn : ((strOfNums (oct (rdN xs))).toList != (strOfNums (xs.take (longN x))).toList) = true := by rw [bne, hse]; rfl
        have HF := hid hf
        clear hf hcell HI
        go_region_with (first | (go_at_call 70; go_must (refine (one_any (rdN xs) _ hrb.1 hrb.2).mono ?_; rintro e w2 ⟨v2, rfl, hown2, hb2⟩; obtain ⟨A2, n2, c2, rfl, hr2⟩ := hown2.formN; have k2 := hr2.str (P := Try.prog) Try.underlying46 Try.underlying5 Try.underlying9; have karg2 := (HQ.out.drew.below hb2).str (P := Try.prog) Try.underlying46 Try.underlying5 Try.underlying9)))
        all_goals (go_wp2; go_ret3; exact ⟨by first | rfl | (rw [if_neg HF.out]; rfl), by (repeat (first | exact Below.refl _ _ | refine Below.drew ?_ | refine bel_drewN ?_ _ | refine bel_alloc ?_ _ | refine bel_call ?_ (by assumption)))⟩)
end Go.Proofs.Ytgiapfenalhleaa
namespace Go.Proofs.Ytgiapfenalhleaa
open Go.RowKit Go.WalkArith

theorem bhd_zero_small {x : Int} (h : 0 ≤ x ∧ x ≤ 255) (hz : bhd x = 0) : x < 253 := by
  unfold bhd at hz
  revert hz
  (repeat' split) <;> omega

set_option maxRecDepth 100000 in
set_option maxHeartbeats 2000000 in
theorem refGet_one (A : Option Addr) (n c : Nat) (xs : List Int) (w : World) (hr : Rd w w.heap.size .u8 A n c xs) (hn : bhd (nth xs 0) < n) (hz : bhd (nth xs 0) = 0) :
    Calls Try.prog 85 #[.slice A n c] w fun e w' => e = .returned (.tuple #[.int .u64 (nth xs 0), .int .i64 1, .int .i64 0]) ∧ Below w.heap.size w w' := by
  obtain ⟨b, off, rfl, hb, hcell⟩ := hr.at_ (by omega)
  have hcap := hr.cap
  unfold maxLen at hcap
  have hlen := hr.len
  have hw := fun x hx => bounds_u8 (hr.wf x hx)
  have hx0 := hw (nth xs 0) (nth_mem (by omega))
  have h0 := hcell 0 (by omega)
  simp only [Nat.add_zero] at h0
  have hsm := bhd_zero_small hx0 hz
  have hK : longN (nth xs 0) = 1 := by unfold longN; rw [hz]
  have HQ := hid (hr.upto (i := 1) (by omega))
  have ht1 : xs.take 1 = [nth xs 0] := by
    rw [List.take_succ_eq_append_getElem (show 0 < xs.length by omega), nth_get (by omega)]; rfl
  have ho1 : oct (nth xs 0) = [nth xs 0] := by rw [one_oct, if_pos hsm]
  have hsl : ∀ w, (Instr.slice 46 (.slice (some ⟨b, off, none⟩) n c) (some (.int .i64 1)) (some (.int .i64 1)) none).run Try.prog w = .ok (.slice (cutA (some ⟨b, off, none⟩) c 1) 0 (c - 1)) w :=
    run_mid1 (P := Try.prog) 46 5 Try.underlying46 Try.elemU8 Try.infoU8 (some ⟨b, off, none⟩) n c 1 (by omega) (by omega)
  have hup : ∀ w, (Instr.slice 46 (.slice (some ⟨b, off, none⟩) n c) none (some (.int .i64 1)) none).run Try.prog w = .ok (.slice (some ⟨b, off, none⟩) 1 c) w :=
    run_upto (P := Try.prog) 46 5 Try.underlying46 Try.elemU8 Try.infoU8 (some ⟨b, off, none⟩) n c 1 (by omega)
  rw [ht1] at HQ
  have HO := hid ho1
  have hd1 : decide ((n : Int) < 1) = false := by simp; omega
  have hnz : ((n : Int) == 0) = false := by simp; omega
  have hp : (0 : Int) < (n : Int) := by omega
  have karg := HQ.out.drew.str (P := Try.prog) Try.underlying46 Try.underlying5 Try.underlying9
  clear hw hlen hr ht1 ho1 hcell
  generalize nth xs 0 = x at *
  go_enter Try.func85, Try.ntmps85
  go_wp2_with (go_at_call 98; refine (long_any _ _ hx0).mono ?_; rintro e w' ⟨rfl, rfl⟩)
  refine wp_loop_rounds 1 ?_
  rw [rounds_succ]
  go_wp2_with fail
  go_region_with (first | (go_at_call 70; go_must (refine (one_any x _ hx0.1 (by omega)).mono ?_; rintro e w2 ⟨v2, rfl, hown2, hb2⟩; rw [HO.out] at hown2; obtain ⟨A2, n2, c2, rfl, hr2⟩ := hown2.formN; have k2 := hr2.str (P := Try.prog) Try.underlying46 Try.underlying5 Try.underlying9; have karg2 := (HQ.out.drew.below hb2).str (P := Try.prog) Try.underlying46 Try.underlying5 Try.underlying9)))
  all_goals (go_wp2; go_ret3; exact ⟨rfl, by (repeat (first | exact Below.refl _ _ | refine Below.drew ?_ | refine bel_drewN ?_ _ | refine bel_alloc ?_ _ | refine bel_call ?_ (by assumption)))⟩)

set_option maxHeartbeats 1000000 in
theorem refGet_short (A : Option Addr) (n c : Nat) (xs : List Int) (w : World) (hr : Rd w w.heap.size .u8 A n c xs) (hn : n ≤ bhd (nth xs 0)) :
    Calls Try.prog 85 #[.slice A n c] w fun e w' => e = .returned (.tuple #[.int .u64 0, .int .i64 0, .int .i64 3]) ∧ Below w.heap.size w w' := by
  have hcap := hr.cap
  unfold maxLen at hcap
  have hlen := hr.len
  by_cases hz : n = 0
  · subst hz
    go_enter Try.func85, Try.ntmps85
    go_wp2
    go_ret3
    exact ⟨rfl, Below.refl _ _⟩
  · obtain ⟨b, off, rfl, hb, hcell⟩ := hr.at_ (by omega)
    have h0 := hcell 0 (by omega)
    simp only [Nat.add_zero] at h0
    have hx0 := bounds_u8 (hr.wf (nth xs 0) (nth_mem (by omega)))
    have hnz : ((n : Int) == 0) = false := by simp; omega
    have hp : (0 : Int) < (n : Int) := by omega
    have h8 := bhd_le (nth xs 0)
    have hK : longN (nth xs 0) = 1 + bhd (nth xs 0) := rfl
    have hd1 : decide (n < longN (nth xs 0)) = true := by simp; omega
    have hd2 : decide ((n : Int) < (longN (nth xs 0) : Nat)) = true := by simp; omega
    clear hr hlen hcell hK
    generalize nth xs 0 = x at *
    go_enter Try.func85, Try.ntmps85
    go_wp2_with (go_at_call 98; refine (long_any _ _ hx0).mono ?_; rintro e w' ⟨rfl, rfl⟩)
    go_ret3
    exact ⟨rfl, Below.refl _ _⟩

theorem refGet_ok (A : Option Addr) (n c : Nat) (xs : List Int) (w : World) (hr : Rd w w.heap.size .u8 A n c xs) (he : getE xs = 0) :
    Calls Try.prog 85 #[.slice A n c] w fun e w' => e = .returned (.tuple #[.int .u64 (rdN xs), .int .i64 ((oct (rdN xs)).length : Nat), .int .i64 0]) ∧ Below w.heap.size w w' := by
  obtain ⟨h1, h2⟩ := getE_ok he
  have hl : (oct (rdN xs)).length = longN (nth xs 0) := by rw [oct_len, h2]; rfl
  rw [hl]
  by_cases hz : bhd (nth xs 0) = 0
  · refine (refGet_one A n c xs w hr (by rw [← hr.len]; exact h1) hz).mono fun e w' h => ⟨?_, h.2⟩
    rw [h.1, show rdN xs = nth xs 0 from by simp [rdN, hz], show longN (nth xs 0) = 1 from by unfold longN; rw [hz]]
    rfl
  · refine (refGet_long A n c xs w hr (by rw [← hr.len]; exact h1) hz).mono fun e w' h => ⟨?_, h.2⟩
    rw [h.1, if_pos h2]
theorem refGet_bad (A : Option Addr) (n c : Nat) (xs : List Int) (w : World) (hr : Rd w w.heap.size .u8 A n c xs) (he : getE xs ≠ 0) :
    Calls Try.prog 85 #[.slice A n c] w fun e w' => e = .returned (.tuple #[.int .u64 0, .int .i64 0, .int .i64 (getE xs)]) ∧ Below w.heap.size w w' := by
  by_cases hs : n ≤ bhd (nth xs 0)
  · rw [show getE xs = 3 from by unfold getE; rw [hr.len, if_pos hs]]
    exact refGet_short A n c xs w hr hs
  · have hf : ¬ fst (rdN xs) = nth xs 0 := fun e => he (by unfold getE; rw [hr.len, if_neg hs, if_pos e])
    have hz : bhd (nth xs 0) ≠ 0 := fun hz => hf (by
      have hx0 := bounds_u8 (hr.wf (nth xs 0) (nth_mem (by rw [hr.len]; omega)))
      have := bhd_zero_small hx0 hz
      rw [show rdN xs = nth xs 0 from by simp [rdN, hz]]
      unfold fst
      rw [if_pos this])
    rw [show getE xs = 2 from by unfold getE; rw [hr.len, if_neg hs, if_neg hf]]
    refine (refGet_long A n c xs w hr (by omega) hz).mono fun e w' h => ⟨?_, h.2⟩
    rw [h.1, if_neg hf]

end Go.Proofs.Ytgiapfenalhleaa
