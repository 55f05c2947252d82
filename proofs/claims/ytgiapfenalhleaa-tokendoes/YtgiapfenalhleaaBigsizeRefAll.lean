/-
  The contracts of the document's own Get (short numbers; joined) and All.
-/
import Derived.Test.YtgiapfenalhleaaBigsizeRefGet
namespace Go.Proofs.Ytgiapfenalhleaa
open Go.RowKit Go.WalkArith

theorem bhd_zero_small {x : Int} (h : 0 ≤ x ∧ x ≤ 255) (hz : bhd x = 0) : x < 253 := by
  unfold bhd at hz
  revert hz
  (repeat' split) <;> omega

set_option maxRecDepth 100000 in
set_option maxHeartbeats 2000000 in
theorem refGet_one (A : Option Addr) (n c : Nat) (xs : List Int) (w : World) (hr : Rd w w.heap.size .u8 A n c xs) (hn : bhd (nth xs 0) < n) (hz : bhd (nth xs 0) = 0) :
    Calls Try.prog 85 #[.slice A n c] w fun e w' => e = .returned (.tuple #[.int .u64 (nth xs 0), .int .i64 1, .int .i64 0]) ∧ Below w.heap.size w w' := by
  obtain ⟨b, off, rfl, hb, hcell⟩ := hr.at_ (by omega)
  have hcap := hr.cap
  unfold maxLen at hcap
  have hlen := hr.len
  have hw := fun x hx => bounds_u8 (hr.wf x hx)
  have hx0 := hw (nth xs 0) (nth_mem (by omega))
  have h0 := hcell 0 (by omega)
  simp only [Nat.add_zero] at h0
  have hsm := bhd_zero_small hx0 hz
  have hK : longN (nth xs 0) = 1 := by unfold longN; rw [hz]
  have HQ := hid (hr.upto (i := 1) (by omega))
  have ht1 : xs.take 1 = [nth xs 0] := by
    rw [List.take_succ_eq_append_getElem (show 0 < xs.length by omega), nth_get (by omega)]; rfl
  have ho1 : oct (nth xs 0) = [nth xs 0] := by rw [one_oct, if_pos hsm]
  have hsl : ∀ w, (Instr.slice 46 (.slice (some ⟨b, off, none⟩) n c) (some (.int .i64 1)) (some (.int .i64 1)) none).run Try.prog w = .ok (.slice (cutA (some ⟨b, off, none⟩) c 1) 0 (c - 1)) w :=
    run_mid1 (P := Try.prog) 46 5 Try.underlying46 Try.elemU8 Try.infoU8 (some ⟨b, off, none⟩) n c 1 (by omega) (by omega)
  have hup : ∀ w, (Instr.slice 46 (.slice (some ⟨b, off, none⟩) n c) none (some (.int .i64 1)) none).run Try.prog w = .ok (.slice (some ⟨b, off, none⟩) 1 c) w :=
    run_upto (P := Try.prog) 46 5 Try.underlying46 Try.elemU8 Try.infoU8 (some ⟨b, off, none⟩) n c 1 (by omega)
  rw [ht1] at HQ
  have HO := hid ho1
  have hd1 : decide ((n : Int) < 1) = false := by simp; omega
  have hnz : ((n : Int) == 0) = false := by simp; omega
  have hp : (0 : Int) < (n : Int) := by omega
  have karg := HQ.out.drew.str (P := Try.prog) Try.underlying46 Try.underlying5 Try.underlying9
  clear hw hlen hr ht1 ho1 hcell
  generalize nth xs 0 = x at *
  go_enter Try.func85, Try.ntmps85
  go_wp2_with (go_at_call 98; refine (long_any _ _ hx0).mono ?_; rintro e w' ⟨rfl, rfl⟩)
  refine wp_loop_rounds 1 ?_
  rw [rounds_succ]
  go_wp2_with fail
  go_region_with (first | (go_at_call 70; go_must (refine (one_any x _ hx0.1 (by omega)).mono ?_; rintro e w2 ⟨v2, rfl, hown2, hb2⟩; rw [HO.out] at hown2; obtain ⟨A2, n2, c2, rfl, hr2⟩ := hown2.formN; have k2 := hr2.str (P := Try.prog) Try.underlying46 Try.underlying5 Try.underlying9; have karg2 := (HQ.out.drew.below hb2).str (P := Try.prog) Try.underlying46 Try.underlying5 Try.underlying9)))
  all_goals (go_wp2; go_ret3; exact ⟨rfl, by (repeat (first | exact Below.refl _ _ | refine Below.drew ?_ | refine bel_drewN ?_ _ | refine bel_alloc ?_ _ | refine bel_call ?_ (by assumption)))⟩)

set_option maxHeartbeats 1000000 in
theorem refGet_short (A : Option Addr) (n c : Nat) (xs : List Int) (w : World) (hr : Rd w w.heap.size .u8 A n c xs) (hn : n ≤ bhd (nth xs 0)) :
    Calls Try.prog 85 #[.slice A n c] w fun e w' => e = .returned (.tuple #[.int .u64 0, .int .i64 0, .int .i64 3]) ∧ Below w.heap.size w w' := by
  have hcap := hr.cap
  unfold maxLen at hcap
  have hlen := hr.len
  by_cases hz : n = 0
  · subst hz
    go_enter Try.func85, Try.ntmps85
    go_wp2
    go_ret3
    exact ⟨rfl, Below.refl _ _⟩
  · obtain ⟨b, off, rfl, hb, hcell⟩ := hr.at_ (by omega)
    have h0 := hcell 0 (by omega)
    simp only [Nat.add_zero] at h0
    have hx0 := bounds_u8 (hr.wf (nth xs 0) (nth_mem (by omega)))
    have hnz : ((n : Int) == 0) = false := by simp; omega
    have hp : (0 : Int) < (n : Int) := by omega
    have h8 := bhd_le (nth xs 0)
    have hK : longN (nth xs 0) = 1 + bhd (nth xs 0) := rfl
    have hd1 : decide (n < longN (nth xs 0)) = true := by simp; omega
    have hd2 : decide ((n : Int) < (longN (nth xs 0) : Nat)) = true := by simp; omega
    clear hr hlen hcell hK
    generalize nth xs 0 = x at *
    go_enter Try.func85, Try.ntmps85
    go_wp2_with (go_at_call 98; refine (long_any _ _ hx0).mono ?_; rintro e w' ⟨rfl, rfl⟩)
    go_ret3
    exact ⟨rfl, Below.refl _ _⟩

theorem refGet_ok (A : Option Addr) (n c : Nat) (xs : List Int) (w : World) (hr : Rd w w.heap.size .u8 A n c xs) (he : getE xs = 0) :
    Calls Try.prog 85 #[.slice A n c] w fun e w' => e = .returned (.tuple #[.int .u64 (rdN xs), .int .i64 ((oct (rdN xs)).length : Nat), .int .i64 0]) ∧ Below w.heap.size w w' := by
  obtain ⟨h1, h2⟩ := getE_ok he
  have hl : (oct (rdN xs)).length = longN (nth xs 0) := by rw [oct_len, h2]; rfl
  rw [hl]
  by_cases hz : bhd (nth xs 0) = 0
  · refine (refGet_one A n c xs w hr (by rw [← hr.len]; exact h1) hz).mono fun e w' h => ⟨?_, h.2⟩
    rw [h.1, show rdN xs = nth xs 0 from by simp [rdN, hz], show longN (nth xs 0) = 1 from by unfold longN; rw [hz]]
    rfl
  · refine (refGet_long A n c xs w hr (by rw [← hr.len]; exact h1) hz).mono fun e w' h => ⟨?_, h.2⟩
    rw [h.1, if_pos h2]
theorem refGet_bad (A : Option Addr) (n c : Nat) (xs : List Int) (w : World) (hr : Rd w w.heap.size .u8 A n c xs) (he : getE xs ≠ 0) :
    Calls Try.prog 85 #[.slice A n c] w fun e w' => e = .returned (.tuple #[.int .u64 0, .int .i64 0, .int .i64 (getE xs)]) ∧ Below w.heap.size w w' := by
  by_cases hs : n ≤ bhd (nth xs 0)
  · rw [show getE xs = 3 from by unfold getE; rw [hr.len, if_pos hs]]
    exact refGet_short A n c xs w hr hs
  · have hf : ¬ fst (rdN xs) = nth xs 0 := fun e => he (by unfold getE; rw [hr.len, if_neg hs, if_pos e])
    have hz : bhd (nth xs 0) ≠ 0 := fun hz => hf (by
      have hx0 := bounds_u8 (hr.wf (nth xs 0) (nth_mem (by rw [hr.len]; omega)))
      have := bhd_zero_small hx0 hz
      rw [show rdN xs = nth xs 0 from by simp [rdN, hz]]
      unfold fst
      rw [if_pos this])
    rw [show getE xs = 2 from by unfold getE; rw [hr.len, if_neg hs, if_neg hf]]
    refine (refGet_long A n c xs w hr (by omega) hz).mono fun e w' h => ⟨?_, h.2⟩
    rw [h.1, if_neg hf]

end Go.Proofs.Ytgiapfenalhleaa
