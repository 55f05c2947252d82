/-
  The contracts of read, Get and All.
-/
import Derived.Test.YtgiapfenalhleaaBigsize
namespace Go.Proofs.Ytgiapfenalhleaa
open Go.RowKit Go.WalkArith

set_option maxHeartbeats 1000000 in
theorem read_any (A : Option Addr) (n c B : Nat) (xs : List Int) (w : World) (hr : Rd w B .u8 A n c xs) (hn : bhd (nth xs 0) < n) :
    Calls Try.prog 101 #[.slice A n c] w fun e w' => e = .returned (.int .u64 (rdN xs)) ∧ w = w' := by
  obtain ⟨b, off, rfl, hb, hcell⟩ := hr.at_ (by omega)
  have hcap := hr.cap
  unfold maxLen at hcap
  have h0 := hcell 0 (by omega)
  have hbd := bounds_u8 (hr.wf (nth xs 0) (nth_mem (by rw [hr.len]; omega)))
  have h8 := bhd_le (nth xs 0)
  simp only [Nat.add_zero] at h0
  have hlen := hid hr.len
  by_cases hz : bhd (nth xs 0) = 0
  · have HR := hid (show rdN xs = nth xs 0 from by simp [rdN, hz])
    generalize nth xs 0 = x at *
    clear hcell hr
    go_enter Try.func101, Try.ntmps101
    go_wp2_with (go_at_call 88; refine (behind_any _ _).mono ?_; rintro e w' ⟨rfl, rfl⟩)
    go_ret
    exact ⟨ret_num HR.out.symm, rfl⟩
  · have HR := hid (show rdN xs = valTo xs (bhd (nth xs 0)) from by simp [rdN, hz])
    have hz' : ((bhd (nth xs 0) : Int) == 0) = false := by simp; omega
    have hwf := fun x hx => bounds_u8 (hr.wf x hx)
    have HW := hid hwf
    clear hwf hr
    generalize nth xs 0 = x at *
    go_enter Try.func101, Try.ntmps101
    go_wp2_with (go_at_call 88; refine (behind_any _ _).mono ?_; rintro e w' ⟨rfl, rfl⟩)
    go_loop [4, 17] (fun s i => ∃ j : Nat, j ≤ bhd x ∧ i = .int .i64 j ∧ s = .int .u64 (valTo xs j)) (fun _ i => bhd x - (intOf i).toNat)
    case atStart => exact ⟨0, Nat.zero_le _, rfl, rfl⟩
    case round =>
      obtain ⟨j, hj, rfl, rfl⟩ := hrel
      by_cases hlt : j < bhd x
      · have hc := hcell (1 + j) (by omega)
        have hv := valTo_bd xs j HW.out
        have hs := valTo_succ xs j (by rw [hlen.out]; omega)
        have HS := hid hs
        have hx := HW.out (nth xs (1 + j)) (nth_mem (by rw [hlen.out]; omega))
        clear hs
        generalize nth xs (1 + j) = y at *
        have hp := pow8_le j (by omega)
        have hv' : valTo xs j < 72057594037927936 := by omega
        have hv0 := hv.1
        clear hp hv hcell
        go_wp2
        go_round
        case rel => exact ⟨j + 1, by omega, by go_num, by rw [HS.out, or_byte _ _ hv0 hv' hx.1 hx.2]⟩
        case measure => simp [intOf]; omega
      · have hje : j = bhd x := by omega
        go_wp2
        go_ret
        exact ⟨ret_num (by rw [HR.out]), rfl⟩

set_option maxHeartbeats 1000000 in
theorem get_bad (A : Option Addr) (n c B : Nat) (xs : List Int) (w : World) (hr : Rd w B .u8 A n c xs) (he : getE xs ≠ 0) :
    Calls Try.prog 95 #[.slice A n c] w fun e w' => e = .returned (.tuple #[.int .u64 0, .int .i64 0, .int .i64 (getE xs)]) ∧ Below w.heap.size w w' := by
  have hcap := hr.cap
  unfold maxLen at hcap
  have hlen := hr.len
  by_cases hz : n = 0
  · subst hz
    have HE := hid (show getE xs = 3 from by unfold getE; rw [hlen, if_pos (Nat.zero_le _)])
    clear hr hlen he
    go_enter Try.func95, Try.ntmps95
    go_wp2
    go_ret3
    exact ⟨by rw [HE.out]; rfl, Below.refl _ _⟩
  obtain ⟨b, off, rfl, hb, hcell⟩ := hr.at_ (by omega)
  have h0 := hcell 0 (by omega)
  simp only [Nat.add_zero] at h0
  have hnz : ((n : Int) == 0) = false := by simp; omega
  have hp : (0 : Int) < (n : Int) := by omega
  have h8 := bhd_le (nth xs 0)
  have hw := fun x hx => bounds_u8 (hr.wf x hx)
  have hx0 := hw (nth xs 0) (nth_mem (by omega))
  by_cases hs : n ≤ bhd (nth xs 0)
  · have HE := hid (show getE xs = 3 from by unfold getE; rw [hlen, if_pos hs])
    clear hr hlen he hw hcell
    generalize nth xs 0 = x at *
    have hd : decide ((n : Int) ≤ (bhd x : Nat)) = true := by simp; omega
    go_enter Try.func95, Try.ntmps95
    go_wp2_with (go_at_call 88; refine (behind_any _ _).mono ?_; rintro e w' ⟨rfl, rfl⟩)
    go_ret3
    exact ⟨by rw [HE.out]; rfl, Below.refl _ _⟩
  · have hf : ¬ fst (rdN xs) = nth xs 0 := fun e => he (by unfold getE; rw [hlen, if_neg hs, if_pos e])
    have HE := hid (show getE xs = 2 from by unfold getE; rw [hlen, if_neg hs, if_neg hf])
    have hrb := rdN_bd xs (by omega) hw
    have hfb := fst_bd (rdN xs) hrb.1
    have HR := hid hr
    clear hr hlen he hw hcell
    have hd : decide ((n : Int) ≤ (bhd (nth xs 0) : Nat)) = false := by simp; omega
    have hne : (fst (rdN xs) != nth xs 0) = true := by simpa using hf
    go_enter Try.func95, Try.ntmps95
    go_wp2_with (first | (go_at_call 88; refine (behind_any _ _).mono ?_; rintro e w' ⟨rfl, rfl⟩) | (go_at_call 101; refine (read_any _ _ _ _ xs _ HR.out (by omega)).mono ?_; rintro e w' ⟨rfl, rfl⟩))
    go_quiet ((go_at_call 87; exact Calls.quiet_of_same ((first_any _ _ hrb.1).mono fun _ _ h => ⟨h.1, h.2.symm⟩)))
    go_wp2
    go_ret3
    exact ⟨by rw [HE.out]; rfl, by (repeat (first | exact Below.refl _ _ | refine Below.drew ?_ | refine bel_drewN ?_ _ | refine bel_alloc ?_ _ | refine bel_call ?_ (by assumption)))⟩

theorem getE_ok {xs : List Int} (he : getE xs = 0) : bhd (nth xs 0) < xs.length ∧ fst (rdN xs) = nth xs 0 := by
  unfold getE at he
  split at he
  · omega
  · split at he
    · exact ⟨by omega, by assumption⟩
    · omega

set_option maxHeartbeats 1000000 in
theorem get_ok (A : Option Addr) (n c B : Nat) (xs : List Int) (w : World) (hr : Rd w B .u8 A n c xs) (he : getE xs = 0) :
    Calls Try.prog 95 #[.slice A n c] w fun e w' => e = .returned (.tuple #[.int .u64 (rdN xs), .int .i64 ((oct (rdN xs)).length : Nat), .int .i64 0]) ∧ Below w.heap.size w w' := by
  have hcap := hr.cap
  unfold maxLen at hcap
  obtain ⟨hs, hf⟩ := getE_ok he
  have hlen := hr.len
  obtain ⟨b, off, rfl, hb, hcell⟩ := hr.at_ (by omega)
  have h0 := hcell 0 (by omega)
  simp only [Nat.add_zero] at h0
  have hnz : ((n : Int) == 0) = false := by simp; omega
  have hp : (0 : Int) < (n : Int) := by omega
  have h8 := bhd_le (nth xs 0)
  have hw := fun x hx => bounds_u8 (hr.wf x hx)
  have hx0 := hw (nth xs 0) (nth_mem (by omega))
  have hrb := rdN_bd xs (by omega) hw
  have hd : decide ((n : Int) ≤ (bhd (nth xs 0) : Nat)) = false := by simp; omega
  have hs' : bhd (nth xs 0) < n := by omega
  have hne : (fst (rdN xs) != nth xs 0) = false := by simp [hf]
  have hlo := oct_len (rdN xs)
  have h8' := bhd_le (fst (rdN xs))
  have hl9 : (oct (rdN xs)).length ≤ 9 := by omega
  have HR := hid hr
  clear hr hlen he hw hcell hf hs hlo h8'
  go_enter Try.func95, Try.ntmps95
  go_wp2_with (first | (go_at_call 88; refine (behind_any _ _).mono ?_; rintro e w' ⟨rfl, rfl⟩) | (go_at_call 101; refine (read_any _ _ _ _ xs _ HR.out (by omega)).mono ?_; rintro e w' ⟨rfl, rfl⟩))
  go_quiet ((go_at_call 87; exact Calls.quiet_of_same ((first_any _ _ hrb.1).mono fun _ _ h => ⟨h.1, h.2.symm⟩)))
  go_wp2_with (go_at_call 102; refine (size_any _ _ hrb.1).mono ?_; rintro e w' ⟨rfl, rfl⟩)
  go_ret3
  exact ⟨rfl, by (repeat (first | exact Below.refl _ _ | refine Below.drew ?_ | refine bel_drewN ?_ _ | refine bel_alloc ?_ _ | refine bel_call ?_ (by assumption)))⟩

/-- The numbers of which these are the octets, one behind the other, behind those of acc, and the error. -/
def allA : Nat → List Int → List Int → List Int × Int
  | 0, _, acc => (acc, 0)
  | f + 1, xs, acc => if xs = [] then (acc, 0) else if getE xs = 0 then allA f (xs.drop (oct (rdN xs)).length) (acc ++ [rdN xs]) else ([], getE xs)
def allS (xs : List Int) : List Int × Int := if xs.length ≤ 65535 then allA xs.length xs [] else ([], 4)

theorem allA_nil (f : Nat) (acc : List Int) : allA f [] acc = (acc, 0) := by cases f <;> simp [allA]
theorem allA_step (f : Nat) (xs acc : List Int) (hf : xs.length ≤ f) (hx : xs ≠ []) (he : getE xs = 0) : ∃ f', allA f xs acc = allA f' (xs.drop (oct (rdN xs)).length) (acc ++ [rdN xs]) ∧ (xs.drop (oct (rdN xs)).length).length ≤ f' := by
  cases f with
  | zero => exact absurd (List.eq_nil_of_length_eq_zero (by omega)) hx
  | succ f => exact ⟨f, by simp [allA, hx, he], by rw [List.length_drop, oct_len]; omega⟩
theorem allA_bad (f : Nat) (xs acc : List Int) (hf : xs.length ≤ f) (hx : xs ≠ []) (he : getE xs ≠ 0) : allA f xs acc = ([], getE xs) := by
  cases f with
  | zero => exact absurd (List.eq_nil_of_length_eq_zero (by omega)) hx
  | succ f => simp [allA, hx, he]


end Go.Proofs.Ytgiapfenalhleaa
