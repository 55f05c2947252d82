/-
  The contracts of the document's own Get and All.
-/
import Derived.Test.YtgiapfenalhleaaBigsizeRef
import Derived.Deep.RegionWith
namespace Go.Proofs.Ytgiapfenalhleaa
open Go.RowKit Go.WalkArith

theorem run_mid1 {P : Program} (t e : TypeId) {b : Nat} {z : Value} (ht : P.underlying t = some (.slice e)) (hel : P.elem t = e) (hi : (P.info? e).map (fun i => (i.zero, i.size, i.bytes)) = some (some z, 1, b)) (A : Option Addr) (n c k : Nat) (h1 : 1 ≤ k) (hk : k ≤ c) (w : World) :
    (Instr.slice t (.slice A n c) (some (.int .i64 1)) (some (.int .i64 (k : Int))) none).run P w = .ok (.slice (cutA A c 1) (k - 1) (c - 1)) w := by
  obtain ⟨i, hi, hz0, hz1, hz2⟩ := info_parts hi
  subst hel
  rw [run_slice_lh w t A n c ht .i64 .i64 1 (k : Int) (by omega) (by omega) (by omega)]
  simp [sizeOf, typeInfo, hi, hz1, sliced, cutA]

theorem oct_take_iff {xs : List Int} (hw : ∀ x ∈ xs, 0 ≤ x ∧ x ≤ 255) (hl : bhd (nth xs 0) < xs.length) : decide (oct (rdN xs) = xs.take (longN (nth xs 0))) = decide (fst (rdN xs) = nth xs 0) := by
  by_cases h : fst (rdN xs) = nth xs 0
  · have he : getE xs = 0 := by unfold getE; rw [if_neg (by omega), if_pos h]
    have := (put_get hw he).1
    rw [oct_len, h] at this
    rw [decide_eq_true h]
    exact decide_eq_true this
  · rw [decide_eq_false h]
    refine decide_eq_false fun e => h ?_
    cases xs with
    | nil => simp at hl
    | cons x xs =>
      unfold longN at e
      rw [Nat.add_comm, List.take_succ_cons] at e
      unfold oct at e
      injection e

set_option maxRecDepth 100000 in
set_option maxHeartbeats 2000000 in
theorem refGet_long (A : Option Addr) (n c : Nat) (xs : List Int) (w : World) (hr : Rd w w.heap.size .u8 A n c xs) (hn : bhd (nth xs 0) < n) (hz : bhd (nth xs 0) ≠ 0) :
    Calls Try.prog 85 #[.slice A n c] w fun e w' => e = .returned (if fst (rdN xs) = nth xs 0 then .tuple #[.int .u64 (rdN xs), .int .i64 (longN (nth xs 0) : Nat), .int .i64 0] else .tuple #[.int .u64 0, .int .i64 0, .int .i64 2]) ∧ Below w.heap.size w w' := by
  obtain ⟨b, off, rfl, hb, hcell⟩ := hr.at_ (by omega)
  have hcap := hr.cap
  unfold maxLen at hcap
  have hlen := hr.len
  have hw := fun x hx => bounds_u8 (hr.wf x hx)
  have hx0 := hw (nth xs 0) (nth_mem (by omega))
  have h0 := hcell 0 (by omega)
  simp only [Nat.add_zero] at h0
  have h8 := bhd_le (nth xs 0)
  have HR := hid (show rdN xs = valTo xs (bhd (nth xs 0)) from by simp [rdN, hz])
  have hrb := rdN_bd xs (by omega) hw
  have HI := hid (oct_take_iff hw (by omega))
  have hk : longN (nth xs 0) = 1 + bhd (nth xs 0) := rfl
  have HQ := hid (hr.upto (i := longN (nth xs 0)) (by omega))
  have hsl := run_mid1 (P := Try.prog) 46 5 Try.underlying46 Try.elemU8 Try.infoU8 (some ⟨b, off, none⟩) n c (longN (nth xs 0)) (by omega) (by omega)
  rw [show cutA (some ⟨b, off, none⟩) c 1 = some ⟨b, off + 1, none⟩ from by unfold cutA; rw [if_neg (by omega)]; simp [Addr.add], show longN (nth xs 0) - 1 = bhd (nth xs 0) from by omega] at hsl
  have hup := run_upto (P := Try.prog) 46 5 Try.underlying46 Try.elemU8 Try.infoU8 (some ⟨b, off, none⟩) n c (longN (nth xs 0)) (by omega)
  have HW := hid hw
  have HL := hid hlen
  have hkn : longN (nth xs 0) ≤ n := by omega
  have hk9 : longN (nth xs 0) ≤ 9 := by omega
  have hk1 : ((longN (nth xs 0) : Int) == 1) = false := by simp; omega
  have hd1 : decide (n < longN (nth xs 0)) = false := by simp; omega
  have hd2 : decide ((n : Int) < (longN (nth xs 0) : Nat)) = false := by simp; omega
  have hnz : ((n : Int) == 0) = false := by simp; omega
  have hp : (0 : Int) < (n : Int) := by omega
  have HRD := hid hr
  clear hw hlen hr hk
  generalize nth xs 0 = x at *
  go_enter Try.func85, Try.ntmps85
  go_wp2_with (go_at_call 98; refine (long_any _ _ hx0).mono ?_; rintro e w' ⟨rfl, rfl⟩)
  go_loop [6, 35] (fun s i => ∃ j : Nat, j ≤ bhd x ∧ i = .int .i64 j ∧ s = .int .u64 (valTo xs j)) (fun _ i => bhd x - (intOf i).toNat)
  case atStart => exact ⟨0, Nat.zero_le _, rfl, rfl⟩
  case round =>
    obtain ⟨j, hj, rfl, rfl⟩ := hrel
    by_cases hlt : j < bhd x
    · have hc := hcell (1 + j) (by omega)
      rw [← Nat.add_assoc] at hc
      have hv := valTo_bd xs j HW.out
      have HS := hid (valTo_succ xs j (by rw [HL.out]; omega))
      have hx := HW.out (nth xs (1 + j)) (nth_mem (by rw [HL.out]; omega))
      generalize nth xs (1 + j) = y at *
      have hpw := pow8_le j (by omega)
      have hv' : valTo xs j < 72057594037927936 := by omega
      have hv0 := hv.1
      clear hpw hv hcell
      go_wp2
      go_round
      case rel => exact ⟨j + 1, by omega, by go_num, by rw [HS.out]; go_num⟩
      case measure => simp [intOf]; omega
    · obtain rfl : j = bhd x := by omega
      rw [← HR.out]
      have hos := oct_bd (rdN xs) hrb.1
      have hse := str_eq (xs := oct (rdN xs)) (ys := xs.take (longN x)) hos fun y hy => HW.out y (List.mem_of_mem_take hy)
      rw [HI.out] at hse
      have karg := HQ.out.drew.str (P := Try.prog) Try.underlying46 Try.underlying5 Try.underlying9
      go_wp2_with fail
      by_cases hf : fst (rdN xs) = x
      · rw [decide_eq_true hf] at hse
        have hsn : ((strOfNums (oct (rdN xs))).toList != (strOfNums (xs.take (longN x))).toList) = false := by rw [bne, hse]; rfl
        have HF := hid hf
        clear hf hcell HI
        go_region_with (first | (go_at_call 70; go_must (refine (one_any (rdN xs) _ hrb.1 hrb.2).mono ?_; rintro e w2 ⟨v2, rfl, hown2, hb2⟩; obtain ⟨A2, n2, c2, rfl, hr2⟩ := hown2.formN; have k2 := hr2.str (P := Try.prog) Try.underlying46 Try.underlying5 Try.underlying9; have karg2 := (HQ.out.drew.below hb2).str (P := Try.prog) Try.underlying46 Try.underlying5 Try.underlying9)))
        all_goals (go_wp2; go_ret3; exact ⟨by first | rfl | (rw [if_pos HF.out]; rfl), by (repeat (first | exact Below.refl _ _ | refine Below.drew ?_ | refine bel_drewN ?_ _ | refine bel_alloc ?_ _ | refine bel_call ?_ (by assumption)))⟩)
      · rw [decide_eq_false hf] at hse
        have hsn : ((strOfNums (oct (rdN xs))).toList != (strOfNums (xs.take (longN x))).toList) = true := by rw [bne, hse]; rfl
        have HF := hid hf
        clear hf hcell HI
        go_region_with (first | (go_at_call 70; go_must (refine (one_any (rdN xs) _ hrb.1 hrb.2).mono ?_; rintro e w2 ⟨v2, rfl, hown2, hb2⟩; obtain ⟨A2, n2, c2, rfl, hr2⟩ := hown2.formN; have k2 := hr2.str (P := Try.prog) Try.underlying46 Try.underlying5 Try.underlying9; have karg2 := (HQ.out.drew.below hb2).str (P := Try.prog) Try.underlying46 Try.underlying5 Try.underlying9)))
        all_goals (go_wp2; go_ret3; exact ⟨by first | rfl | (rw [if_neg HF.out]; rfl), by (repeat (first | exact Below.refl _ _ | refine Below.drew ?_ | refine bel_drewN ?_ _ | refine bel_alloc ?_ _ | refine bel_call ?_ (by assumption)))⟩)
end Go.Proofs.Ytgiapfenalhleaa
