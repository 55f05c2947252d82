/-
  The contracts of read, Get and All.
  Plain laws of the octets: what was put is got.
  Caveats, plain: which may be, their octets, what is read, when one holds, all hold, which caps there are, which is tighter.
-/
import Derived.Test.YtgiapfenalhleaaPack1
import Derived.Test.YtgiapfenalhleaaPack2
import Derived.Test.YtgiapfenalhleaaPack3
namespace Go.Proofs.Ytgiapfenalhleaa
open Go.RowKit Go.WalkArith

set_option maxHeartbeats 1000000 in
theorem read_any (A : Option Addr) (n c B : Nat) (xs : List Int) (w : World) (hr : Rd w B .u8 A n c xs) (hn : bhd (nth xs 0) < n) :
    Calls Try.prog 101 #[.slice A n c] w fun e w' => e = .returned (.int .u64 (rdN xs)) ∧ w = w' := by
  obtain ⟨b, off, rfl, hb, hcell⟩ := hr.at_ (by omega)
  have hcap := hr.cap
  unfold maxLen at hcap
  have h0 := hcell 0 (by omega)
  have hbd := bounds_u8 (hr.wf (nth xs 0) (nth_mem (by rw [hr.len]; omega)))
  have h8 := bhd_le (nth xs 0)
  simp only [Nat.add_zero] at h0
  have hlen := hid hr.len
  by_cases hz : bhd (nth xs 0) = 0
  · have HR := hid (show rdN xs = nth xs 0 from by simp [rdN, hz])
    generalize nth xs 0 = x at *
    clear hcell hr
    go_enter Try.func101, Try.ntmps101
    go_wp2_with (go_at_call 88; refine (behind_any _ _).mono ?_; rintro e w' ⟨rfl, rfl⟩)
    go_ret
    exact ⟨ret_num HR.out.symm, rfl⟩
  · have HR := hid (show rdN xs = valTo xs (bhd (nth xs 0)) from by simp [rdN, hz])
    have hz' : ((bhd (nth xs 0) : Int) == 0) = false := by simp; omega
    have hwf := fun x hx => bounds_u8 (hr.wf x hx)
    have HW := hid hwf
    clear hwf hr
    generalize nth xs 0 = x at *
    go_enter Try.func101, Try.ntmps101
    go_wp2_with (go_at_call 88; refine (behind_any _ _).mono ?_; rintro e w' ⟨rfl, rfl⟩)
    go_loop [4, 17] (fun s i => ∃ j : Nat, j ≤ bhd x ∧ i = .int .i64 j ∧ s = .int .u64 (valTo xs j)) (fun _ i => bhd x - (intOf i).toNat)
    case atStart => exact ⟨0, Nat.zero_le _, rfl, rfl⟩
    case round =>
      obtain ⟨j, hj, rfl, rfl⟩ := hrel
      by_cases hlt : j < bhd x
      · have hc := hcell (1 + j) (by omega)
        have hv := valTo_bd xs j HW.out
        have hs := valTo_succ xs j (by rw [hlen.out]; omega)
        have HS := hid hs
        have hx := HW.out (nth xs (1 + j)) (nth_mem (by rw [hlen.out]; omega))
        clear hs
        generalize nth xs (1 + j) = y at *
        have hp := pow8_le j (by omega)
        have hv' : valTo xs j < 72057594037927936 := by omega
        have hv0 := hv.1
        clear hp hv hcell
        go_wp2
        go_round
        case rel => exact ⟨j + 1, by omega, by go_num, by rw [HS.out, or_byte _ _ hv0 hv' hx.1 hx.2]⟩
        case measure => simp [intOf]; omega
      · have hje : j = bhd x := by omega
        go_wp2
        go_ret
        exact ⟨ret_num (by rw [HR.out]), rfl⟩

set_option maxHeartbeats 1000000 in
theorem get_bad (A : Option Addr) (n c B : Nat) (xs : List Int) (w : World) (hr : Rd w B .u8 A n c xs) (he : getE xs ≠ 0) :
    Calls Try.prog 95 #[.slice A n c] w fun e w' => e = .returned (.tuple #[.int .u64 0, .int .i64 0, .int .i64 (getE xs)]) ∧ Below w.heap.size w w' := by
  have hcap := hr.cap
  unfold maxLen at hcap
  have hlen := hr.len
  by_cases hz : n = 0
  · subst hz
    have HE := hid (show getE xs = 3 from by unfold getE; rw [hlen, if_pos (Nat.zero_le _)])
    clear hr hlen he
    go_enter Try.func95, Try.ntmps95
    go_wp2
    go_ret3
    exact ⟨by rw [HE.out]; rfl, Below.refl _ _⟩
  obtain ⟨b, off, rfl, hb, hcell⟩ := hr.at_ (by omega)
  have h0 := hcell 0 (by omega)
  simp only [Nat.add_zero] at h0
  have hnz : ((n : Int) == 0) = false := by simp; omega
  have hp : (0 : Int) < (n : Int) := by omega
  have h8 := bhd_le (nth xs 0)
  have hw := fun x hx => bounds_u8 (hr.wf x hx)
  have hx0 := hw (nth xs 0) (nth_mem (by omega))
  by_cases hs : n ≤ bhd (nth xs 0)
  · have HE := hid (show getE xs = 3 from by unfold getE; rw [hlen, if_pos hs])
    clear hr hlen he hw hcell
    generalize nth xs 0 = x at *
    have hd : decide ((n : Int) ≤ (bhd x : Nat)) = true := by simp; omega
    go_enter Try.func95, Try.ntmps95
    go_wp2_with (go_at_call 88; refine (behind_any _ _).mono ?_; rintro e w' ⟨rfl, rfl⟩)
    go_ret3
    exact ⟨by rw [HE.out]; rfl, Below.refl _ _⟩
  · have hf : ¬ fst (rdN xs) = nth xs 0 := fun e => he (by unfold getE; rw [hlen, if_neg hs, if_pos e])
    have HE := hid (show getE xs = 2 from by unfold getE; rw [hlen, if_neg hs, if_neg hf])
    have hrb := rdN_bd xs (by omega) hw
    have hfb := fst_bd (rdN xs) hrb.1
    have HR := hid hr
    clear hr hlen he hw hcell
    have hd : decide ((n : Int) ≤ (bhd (nth xs 0) : Nat)) = false := by simp; omega
    have hne : (fst (rdN xs) != nth xs 0) = true := by simpa using hf
    go_enter Try.func95, Try.ntmps95
    go_wp2_with (first | (go_at_call 88; refine (behind_any _ _).mono ?_; rintro e w' ⟨rfl, rfl⟩) | (go_at_call 101; refine (read_any _ _ _ _ xs _ HR.out (by omega)).mono ?_; rintro e w' ⟨rfl, rfl⟩))
    go_quiet ((go_at_call 87; exact Calls.quiet_of_same ((first_any _ _ hrb.1).mono fun _ _ h => ⟨h.1, h.2.symm⟩)))
    go_wp2
    go_ret3
    exact ⟨by rw [HE.out]; rfl, by (repeat (first | exact Below.refl _ _ | refine Below.drew ?_ | refine bel_drewN ?_ _ | refine bel_alloc ?_ _ | refine bel_call ?_ (by assumption)))⟩

theorem getE_ok {xs : List Int} (he : getE xs = 0) : bhd (nth xs 0) < xs.length ∧ fst (rdN xs) = nth xs 0 := by
  unfold getE at he
  split at he
  · omega
  · split at he
    · exact ⟨by omega, by assumption⟩
    · omega

set_option maxHeartbeats 1000000 in
theorem get_ok (A : Option Addr) (n c B : Nat) (xs : List Int) (w : World) (hr : Rd w B .u8 A n c xs) (he : getE xs = 0) :
    Calls Try.prog 95 #[.slice A n c] w fun e w' => e = .returned (.tuple #[.int .u64 (rdN xs), .int .i64 ((oct (rdN xs)).length : Nat), .int .i64 0]) ∧ Below w.heap.size w w' := by
  have hcap := hr.cap
  unfold maxLen at hcap
  obtain ⟨hs, hf⟩ := getE_ok he
  have hlen := hr.len
  obtain ⟨b, off, rfl, hb, hcell⟩ := hr.at_ (by omega)
  have h0 := hcell 0 (by omega)
  simp only [Nat.add_zero] at h0
  have hnz : ((n : Int) == 0) = false := by simp; omega
  have hp : (0 : Int) < (n : Int) := by omega
  have h8 := bhd_le (nth xs 0)
  have hw := fun x hx => bounds_u8 (hr.wf x hx)
  have hx0 := hw (nth xs 0) (nth_mem (by omega))
  have hrb := rdN_bd xs (by omega) hw
  have hd : decide ((n : Int) ≤ (bhd (nth xs 0) : Nat)) = false := by simp; omega
  have hs' : bhd (nth xs 0) < n := by omega
  have hne : (fst (rdN xs) != nth xs 0) = false := by simp [hf]
  have hlo := oct_len (rdN xs)
  have h8' := bhd_le (fst (rdN xs))
  have hl9 : (oct (rdN xs)).length ≤ 9 := by omega
  have HR := hid hr
  clear hr hlen he hw hcell hf hs hlo h8'
  go_enter Try.func95, Try.ntmps95
  go_wp2_with (first | (go_at_call 88; refine (behind_any _ _).mono ?_; rintro e w' ⟨rfl, rfl⟩) | (go_at_call 101; refine (read_any _ _ _ _ xs _ HR.out (by omega)).mono ?_; rintro e w' ⟨rfl, rfl⟩))
  go_quiet ((go_at_call 87; exact Calls.quiet_of_same ((first_any _ _ hrb.1).mono fun _ _ h => ⟨h.1, h.2.symm⟩)))
  go_wp2_with (go_at_call 102; refine (size_any _ _ hrb.1).mono ?_; rintro e w' ⟨rfl, rfl⟩)
  go_ret3
  exact ⟨rfl, by (repeat (first | exact Below.refl _ _ | refine Below.drew ?_ | refine bel_drewN ?_ _ | refine bel_alloc ?_ _ | refine bel_call ?_ (by assumption)))⟩

/-- The numbers of which these are the octets, one behind the other, behind those of acc, and the error. -/
def allA : Nat → List Int → List Int → List Int × Int
  | 0, _, acc => (acc, 0)
  | f + 1, xs, acc => if xs = [] then (acc, 0) else if getE xs = 0 then allA f (xs.drop (oct (rdN xs)).length) (acc ++ [rdN xs]) else ([], getE xs)
def allS (xs : List Int) : List Int × Int := if xs.length ≤ 65535 then allA xs.length xs [] else ([], 4)

theorem allA_nil (f : Nat) (acc : List Int) : allA f [] acc = (acc, 0) := by cases f <;> simp [allA]
theorem allA_step (f : Nat) (xs acc : List Int) (hf : xs.length ≤ f) (hx : xs ≠ []) (he : getE xs = 0) : ∃ f', allA f xs acc = allA f' (xs.drop (oct (rdN xs)).length) (acc ++ [rdN xs]) ∧ (xs.drop (oct (rdN xs)).length).length ≤ f' := by
  cases f with
  | zero => exact absurd (List.eq_nil_of_length_eq_zero (by omega)) hx
  | succ f => exact ⟨f, by simp [allA, hx, he], by rw [List.length_drop, oct_len]; omega⟩
theorem allA_bad (f : Nat) (xs acc : List Int) (hf : xs.length ≤ f) (hx : xs ≠ []) (he : getE xs ≠ 0) : allA f xs acc = ([], getE xs) := by
  cases f with
  | zero => exact absurd (List.eq_nil_of_length_eq_zero (by omega)) hx
  | succ f => simp [allA, hx, he]


end Go.Proofs.Ytgiapfenalhleaa
namespace Go.Proofs.Ytgiapfenalhleaa
open Go.RowKit Go.WalkArith

theorem bhd_zero {n : Int} (h : bhd (fst n) = 0) : fst n = n := by
  unfold fst at h ⊢
  split
  · rfl
  · rename_i h1
    rw [if_neg h1] at h
    split at h
    · simp [bhd] at h
    · split at h <;> simp [bhd] at h
theorem fst_lt {n : Int} (h0 : 0 ≤ n) (hn : n ≤ 18446744073709551615) (h : bhd (fst n) ≠ 0) : n < 2 ^ (8 * bhd (fst n)) := by
  rcases fst_fits h0 (by omega) with ⟨h1, _⟩ | h1
  · exact absurd h1 h
  · exact h1

/-- What was put is got, whatever stands behind. -/
theorem get_put {n : Int} (h0 : 0 ≤ n) (hn : n ≤ 18446744073709551615) (ys : List Int) : getE (oct n ++ ys) = 0 ∧ rdN (oct n ++ ys) = n := by
  have hx : nth (oct n ++ ys) 0 = fst n := rfl
  have hr : rdN (oct n ++ ys) = n := by
    unfold rdN
    rw [hx]
    split
    · exact bhd_zero (by assumption)
    · rename_i hz
      unfold valTo
      have : ((oct n ++ ys).drop 1).take (bhd (fst n)) = high n (bhd (fst n)) := by
        simp only [oct, List.cons_append, List.drop_succ_cons, List.drop_zero]
        rw [List.take_append_of_le_length (by rw [high_len]; omega), List.take_of_length_le (by rw [high_len]; omega)]
      rw [this]
      exact val_high _ _ h0 (fst_lt h0 hn hz)
  refine ⟨?_, hr⟩
  unfold getE
  rw [hr, hx, if_neg (by rw [List.length_append, oct_len]; omega), if_pos rfl]

/-- What is got, put, is what was read. -/
theorem put_get {xs : List Int} (hw : ∀ x ∈ xs, 0 ≤ x ∧ x ≤ 255) (he : getE xs = 0) : oct (rdN xs) = xs.take (oct (rdN xs)).length ∧ (oct (rdN xs)).length ≤ xs.length := by
  obtain ⟨h1, h2⟩ := getE_ok he
  have hl : (oct (rdN xs)).length = 1 + bhd (nth xs 0) := by rw [oct_len, h2]
  refine ⟨?_, by omega⟩
  rw [hl]
  cases xs with
  | nil => simp at h1
  | cons x xs =>
    have hx : nth (x :: xs) 0 = x := rfl
    rw [hx] at h1 h2 ⊢
    unfold oct
    rw [h2, Nat.add_comm, List.take_succ_cons]
    congr 1
    by_cases hz : bhd x = 0
    · rw [hz]; rfl
    · have hr : rdN (x :: xs) = val (xs.take (bhd x)) := by
        unfold rdN
        rw [hx, if_neg hz]
        rfl
      have hlen : (xs.take (bhd x)).length = bhd x := by rw [List.length_take]; simp at h1; omega
      have := high_val (xs.take (bhd x)) fun y hy => hw y (by have := List.mem_of_mem_take hy; simp [this])
      rw [hlen] at this
      rw [hr, this]

theorem octs_cons (n : Int) (l : List Int) : octs (n :: l) = oct n ++ octs l := by simp [octs]
theorem allA_put (l : List Int) (hl : ∀ x ∈ l, 0 ≤ x ∧ x ≤ 18446744073709551615) (f : Nat) (acc : List Int) (hf : (octs l).length ≤ f) : allA f (octs l) acc = (acc ++ l, 0) := by
  induction l generalizing f acc with
  | nil => rw [show octs [] = [] from rfl, allA_nil]; simp
  | cons n l ih =>
    have hn := hl n (by simp)
    obtain ⟨h1, h2⟩ := get_put hn.1 hn.2 (octs l)
    rw [octs_cons] at hf ⊢
    obtain ⟨f', h3, h4⟩ := allA_step f (oct n ++ octs l) acc hf (by simp [oct]) h1
    rw [h2, List.drop_left] at h3 h4
    rw [h3, ih (fun x hx => hl x (by simp [hx])) f' _ h4]
    simp
theorem all_put (l : List Int) (hl : ∀ x ∈ l, 0 ≤ x ∧ x ≤ 18446744073709551615) (h : l.length ≤ 200) : allS (octs l) = (l, 0) := by
  have := octs_len_le l
  unfold allS
  rw [if_pos (by omega), allA_put l hl _ _ (Nat.le_refl _)]
  simp

end Go.Proofs.Ytgiapfenalhleaa
namespace Go.Proofs.Ytgiapfenalhleaa
open Go.RowKit Go.WalkArith

def CavOk (c : Cav) : Prop := 1 ≤ c.Kind ∧ c.Kind ≤ 5 ∧ (c.Kind = 2 → c.A ≤ 65535) ∧ (c.Kind = 3 ∨ c.Kind = 4 → c.A ≤ 4611686018427387904) ∧ (c.Kind ≠ 4 → c.B = 0)
instance (c : Cav) : Decidable (CavOk c) := inferInstanceAs (Decidable (_ ∧ _ ∧ _ ∧ _ ∧ _))
def cavE (c : Cav) : Int := if CavOk c then 0 else 1
def UseOk (u : Usx) : Prop := 0 ≤ u.Method ∧ u.Method ≤ 15 ∧ u.Amount ≤ 4611686018427387904
instance (u : Usx) : Decidable (UseOk u) := inferInstanceAs (Decidable (_ ∧ _ ∧ _))
def useB (u : Usx) : Bool := decide (UseOk u)
/-- The numbers whose octets are a caveat's. -/
def numsC (c : Cav) : List Int := if c.Kind = 4 then [4, c.A, c.B] else [c.Kind, c.A]
def putC (c : Cav) : List Int := if CavOk c then octs (numsC c) else []
def zeroC : Cav := ⟨0, 0, 0⟩
def finC (c : Cav) (rest : List Int) : Cav × Int := if rest = [] ∧ CavOk c then (c, 0) else (zeroC, 2)
/-- What is read behind a kind, and a number. -/
def getC2 (k a : Int) (zs : List Int) : Cav × Int :=
  if k = 4 then (if getE zs = 0 then finC ⟨k, a, rdN zs⟩ (zs.drop (oct (rdN zs)).length) else (zeroC, getE zs)) else finC ⟨k, a, 0⟩ zs
def getC1 (k : Int) (ys : List Int) : Cav × Int :=
  if getE ys = 0 then getC2 k (rdN ys) (ys.drop (oct (rdN ys)).length) else (zeroC, getE ys)
def getC (xs : List Int) : Cav × Int :=
  if getE xs = 0 then (if 1 ≤ rdN xs ∧ rdN xs ≤ 5 then getC1 (rdN xs) (xs.drop (oct (rdN xs)).length) else (zeroC, 2)) else (zeroC, getE xs)

theorem getC_err (xs : List Int) : (getC xs).2 ≠ 0 → (getC xs).1 = zeroC := by
  have f : ∀ c r, (finC c r).2 ≠ 0 → (finC c r).1 = zeroC := fun c r h => by
    unfold finC at h ⊢
    by_cases k : r = [] ∧ CavOk c
    · rw [if_pos k] at h; exact absurd rfl h
    · rw [if_neg k]
  unfold getC getC1 getC2
  intro h
  repeat' split
  all_goals (first | rfl | (apply f; simp_all))

/-! ### What was put is got -/
theorem cav_bd {c : Cav} (hw : CavWf c) : -9223372036854775808 ≤ c.Kind ∧ c.Kind ≤ 9223372036854775807 ∧ 0 ≤ c.A ∧ c.A ≤ 18446744073709551615 ∧ 0 ≤ c.B ∧ c.B ≤ 18446744073709551615 := by
  have h1 := bounds_i64 hw.kind
  have h2 := bounds_u64 hw.a
  have h3 := bounds_u64 hw.b
  omega
theorem get_drop {n : Int} (h0 : 0 ≤ n) (hn : n ≤ 18446744073709551615) (ys : List Int) : getE (oct n ++ ys) = 0 ∧ rdN (oct n ++ ys) = n ∧ (oct n ++ ys).drop (oct n).length = ys := by
  obtain ⟨h1, h2⟩ := get_put h0 hn ys
  exact ⟨h1, h2, by simp⟩
theorem getC_put {c : Cav} (hw : CavWf c) (hc : CavOk c) (ys : List Int) : getC (putC c ++ ys) = finC c ys := by
  have hb := cav_bd hw
  have hk := hc.1
  have hk2 := hc.2.1
  unfold putC
  rw [if_pos hc]
  unfold numsC
  by_cases h4 : c.Kind = 4
  · rw [if_pos h4]
    have e : octs [4, c.A, c.B] ++ ys = oct 4 ++ (oct c.A ++ (oct c.B ++ ys)) := by simp [octs]
    rw [e]
    obtain ⟨a1, a2, a3⟩ := get_drop (n := 4) (by omega) (by omega) (oct c.A ++ (oct c.B ++ ys))
    obtain ⟨b1, b2, b3⟩ := get_drop (n := c.A) (by omega) (by omega) (oct c.B ++ ys)
    obtain ⟨c1, c2, c3⟩ := get_drop (n := c.B) (by omega) (by omega) ys
    unfold getC
    rw [if_pos a1, a2, if_pos (by omega), a3]
    unfold getC1
    rw [if_pos b1, b2, b3]
    unfold getC2
    rw [if_pos rfl, if_pos c1, c2, c3]
    congr 1
    cases c
    simp_all
  · rw [if_neg h4]
    have e : octs [c.Kind, c.A] ++ ys = oct c.Kind ++ (oct c.A ++ ys) := by simp [octs]
    rw [e]
    obtain ⟨a1, a2, a3⟩ := get_drop (n := c.Kind) (by omega) (by omega) (oct c.A ++ ys)
    obtain ⟨b1, b2, b3⟩ := get_drop (n := c.A) (by omega) (by omega) ys
    unfold getC
    rw [if_pos a1, a2, if_pos (by omega), a3]
    unfold getC1
    rw [if_pos b1, b2, b3]
    unfold getC2
    rw [if_neg h4]
    have hz := hc.2.2.2.2 h4
    congr 1
    cases c
    simp_all
/-- What is got, put, is what was read. -/
theorem oct_split {xs : List Int} (hw : ∀ x ∈ xs, 0 ≤ x ∧ x ≤ 255) (he : getE xs = 0) : oct (rdN xs) ++ xs.drop (oct (rdN xs)).length = xs := by
  obtain ⟨h1, h2⟩ := put_get hw he
  have : oct (rdN xs) ++ xs.drop (oct (rdN xs)).length = xs.take (oct (rdN xs)).length ++ xs.drop (oct (rdN xs)).length := by rw [← h1]
  rw [this, List.take_append_drop]
theorem drop_bd {xs : List Int} (hw : ∀ x ∈ xs, 0 ≤ x ∧ x ≤ 255) (k : Nat) : ∀ x ∈ xs.drop k, 0 ≤ x ∧ x ≤ 255 := fun x hx => hw x (List.mem_of_mem_drop hx)
theorem finC_ok {c d : Cav} {r : List Int} (h : finC c r = (d, 0)) : d = c ∧ r = [] ∧ CavOk c := by
  unfold finC at h
  split at h
  · rename_i k
    simp at h
    exact ⟨h.symm, k.1, k.2⟩
  · simp at h
theorem getE_rd {xs : List Int} (hw : ∀ x ∈ xs, 0 ≤ x ∧ x ≤ 255) (he : getE xs = 0) : 0 ≤ rdN xs ∧ rdN xs ≤ 18446744073709551615 := by
  refine rdN_bd xs ?_ hw
  rcases Nat.eq_zero_or_pos xs.length with h | h
  · rw [List.eq_nil_of_length_eq_zero h] at he
    simp [getE] at he
  · exact h
theorem put_getC {xs : List Int} (hw : ∀ x ∈ xs, 0 ≤ x ∧ x ≤ 255) {c : Cav} (h : getC xs = (c, 0)) : CavOk c ∧ putC c = xs ∧ 0 ≤ c.A ∧ c.A ≤ 18446744073709551615 ∧ 0 ≤ c.B ∧ c.B ≤ 18446744073709551615 := by
  unfold getC at h
  split at h
  · rename_i e1
    split at h
    · rename_i hk
      have s1 := oct_split hw e1
      unfold getC1 at h
      split at h
      · rename_i e2
        have hw2 := drop_bd hw (oct (rdN xs)).length
        have s2 := oct_split hw2 e2
        have r2 := getE_rd hw2 e2
        unfold getC2 at h
        split at h
        · rename_i h4
          split at h
          · rename_i e3
            have hw3 := drop_bd hw2 (oct (rdN (xs.drop (oct (rdN xs)).length))).length
            have s3 := oct_split hw3 e3
            have r3 := getE_rd hw3 e3
            obtain ⟨rfl, hr, hok⟩ := finC_ok h
            refine ⟨hok, ?_, r2.1, r2.2, r3.1, r3.2⟩
            unfold putC
            rw [if_pos hok]
            unfold numsC
            rw [if_pos h4]
            rw [hr, List.append_nil] at s3
            simp only [octs, List.flatMap_cons, List.flatMap_nil, List.append_nil]
            rw [s3, s2, ← h4, s1]
          · rename_i e3
            exact absurd (congrArg Prod.snd h) e3
        · rename_i h4
          obtain ⟨rfl, hr, hok⟩ := finC_ok h
          refine ⟨hok, ?_, r2.1, r2.2, Int.le_refl 0, by show (0 : Int) ≤ 18446744073709551615; decide⟩
          unfold putC
          rw [if_pos hok]
          unfold numsC
          rw [if_neg h4]
          rw [hr, List.append_nil] at s2
          simp only [octs, List.flatMap_cons, List.flatMap_nil, List.append_nil]
          rw [s2, s1]
      · rename_i e2
        exact absurd (congrArg Prod.snd h) e2
    · simp at h
  · rename_i e1
    exact absurd (congrArg Prod.snd h) e1
theorem getC_ok_wf {xs : List Int} (hw : ∀ x ∈ xs, 0 ≤ x ∧ x ≤ 255) : CavWf (getC xs).1 := by
  by_cases h : (getC xs).2 = 0
  · obtain ⟨hok, -, h1, h2, h3, h4⟩ := put_getC hw (c := (getC xs).1) (by rw [← h])
    have := hok.1
    have := hok.2.1
    exact ⟨wf_i64 (by omega), wf_u64 (by omega), wf_u64 (by omega)⟩
  · rw [getC_err xs h]
    exact ⟨by decide, by decide, by decide⟩

/-! ### What holds -/
def bitN (n : Int) (i : Nat) : Bool := n / 2 ^ i % 2 == 1
def hldB (c : Cav) (u : Usx) : Bool := if c.Kind = 1 then decide (u.Tick ≤ c.A) else if c.Kind = 2 then bitN c.A u.Method.toNat else if c.Kind = 5 then u.Who == c.A else decide (u.Amount ≤ c.A)
def hlE (c : Cav) (u : Usx) : Int := if CavOk c ∧ UseOk u then 0 else 1
def hlV (c : Cav) (u : Usx) : Bool := decide (CavOk c ∧ UseOk u) && hldB c u
def cavsB (l : List Cav) : Bool := l.all fun c => decide (CavOk c)
def AllOk (l : List Cav) (u : Usx) : Prop := l.length ≤ 16 ∧ UseOk u ∧ cavsB l = true
instance (l : List Cav) (u : Usx) : Decidable (AllOk l u) := inferInstanceAs (Decidable (_ ∧ _ ∧ _))
def alE (l : List Cav) (u : Usx) : Int := if AllOk l u then 0 else 1
def alV (l : List Cav) (u : Usx) : Bool := decide (AllOk l u) && l.all fun c => hldB c u

/-! ### Caps -/
def capStep (k : Int) (o : Option Int) (c : Cav) : Option Int := if c.Kind = 4 ∧ c.B = k then some (match o with | none => c.A | some m => if c.A < m then c.A else m) else o
def capS (l : List Cav) (k : Int) : Option Int := l.foldl (capStep k) none
theorem capS_snoc (l : List Cav) (c : Cav) (k : Int) : capS (l ++ [c]) k = capStep k (capS l k) c := by simp [capS]
def keysStep (ks : List Int) (c : Cav) : List Int := if c.Kind = 4 ∧ c.B ∉ ks then ks ++ [c.B] else ks
def keysN (l : List Cav) : List Int := l.foldl keysStep []
theorem keysN_snoc (l : List Cav) (c : Cav) : keysN (l ++ [c]) = if c.Kind = 4 ∧ c.B ∉ keysN l then keysN l ++ [c.B] else keysN l := by
  rw [keysN, List.foldl_append]
  rfl
theorem keysN_mem (l : List Cav) (k : Int) : k ∈ keysN l ↔ (capS l k).isSome = true := by
  refine snoc_ind (p := fun l => k ∈ keysN l ↔ (capS l k).isSome = true) l (by simp [keysN, capS]) fun l c ih => ?_
  rw [keysN_snoc, capS_snoc]
  unfold capStep
  by_cases h : c.Kind = 4
  · by_cases hk : c.B = k
    · subst hk
      by_cases hm : c.B ∈ keysN l <;> simp [h, hm]
    · have hk' : ¬ k = c.B := fun e => hk e.symm
      by_cases hm : c.B ∈ keysN l <;> simp [h, hm, hk, hk', ih]
  · simp [h, ih]
def CapsOk (l : List Cav) : Prop := l.length ≤ 16 ∧ cavsB l = true
instance (l : List Cav) : Decidable (CapsOk l) := inferInstanceAs (Decidable (_ ∧ _))
def cpE (l : List Cav) : Int := if CapsOk l then 0 else 1
/-- Whose caps are told: none with an error. -/
def cpL (l : List Cav) : List Cav := if CapsOk l then l else []
theorem keysN_one (l : List Cav) (c : Cav) : (keysN l).length ≤ (keysN (l ++ [c])).length ∧ (keysN (l ++ [c])).length ≤ (keysN l).length + 1 := by
  rw [keysN_snoc]
  split <;> simp
theorem capS_one {l : List Cav} {c : Cav} {k n : Int} (h : capS l k = some n) : ∃ m, capS (l ++ [c]) k = some m ∧ m ≤ n ∧ (m ≠ n → c.Kind = 4 ∧ c.B = k ∧ m = c.A) := by
  rw [capS_snoc, h, capStep]
  by_cases hc : c.Kind = 4 ∧ c.B = k
  · rw [if_pos hc]
    by_cases hl : c.A < n
    · exact ⟨c.A, by simp [hl], by omega, fun _ => ⟨hc.1, hc.2, rfl⟩⟩
    · exact ⟨n, by simp [hl], by omega, fun h => absurd rfl h⟩
  · rw [if_neg hc]
    exact ⟨n, rfl, by omega, fun h => absurd rfl h⟩
theorem capS_mem {l : List Cav} {k n : Int} (h : capS l k = some n) : ∃ c ∈ l, c.Kind = 4 ∧ c.B = k ∧ c.A = n := by
  revert n
  refine snoc_ind (p := fun l => ∀ {n : Int}, capS l k = some n → ∃ c ∈ l, c.Kind = 4 ∧ c.B = k ∧ c.A = n) l (fun {n} h => by simp [capS] at h) fun l c ih n h => ?_
  rw [capS_snoc] at h
  unfold capStep at h
  by_cases hc : c.Kind = 4 ∧ c.B = k
  · rw [if_pos hc] at h
    cases ho : capS l k with
    | none =>
      rw [ho] at h
      simp at h
      exact ⟨c, by simp, hc.1, hc.2, h⟩
    | some m =>
      rw [ho] at h
      simp only [Option.some.injEq] at h
      by_cases hl : c.A < m
      · rw [if_pos hl] at h
        exact ⟨c, by simp, hc.1, hc.2, h⟩
      · rw [if_neg hl] at h
        subst h
        obtain ⟨d, hd, r⟩ := ih ho
        exact ⟨d, by simp [hd], r⟩
  · rw [if_neg hc] at h
    obtain ⟨d, hd, r⟩ := ih h
    exact ⟨d, by simp [hd], r⟩

/-! ### Tighter -/
def TightOk (a b : Cav) : Prop := CavOk a ∧ CavOk b ∧ a.Kind = b.Kind ∧ a.B = b.B
instance (a b : Cav) : Decidable (TightOk a b) := inferInstanceAs (Decidable (_ ∧ _ ∧ _ ∧ _))
def tgE (a b : Cav) : Int := if TightOk a b then 0 else 1
def subB (a b : Int) : Bool := (List.range 16).all fun i => !bitN a i || bitN b i
def tgB (a b : Cav) : Bool := if a.Kind = 2 then subB a.A b.A else if a.Kind = 5 then a.A == b.A else decide (a.A ≤ b.A)
def tgV (a b : Cav) : Bool := decide (TightOk a b) && tgB a b
theorem tg_holds {a b : Cav} {u : Usx} (hu : UseOk u) (hk : a.Kind = b.Kind) (ht : tgB a b = true) (hh : hldB a u = true) : hldB b u = true := by
  unfold hldB at *
  unfold tgB at ht
  rw [← hk]
  by_cases k1 : a.Kind = 1
  · rw [if_pos k1] at hh ⊢
    rw [if_neg (by omega), if_neg (by omega)] at ht
    simp at *
    omega
  rw [if_neg k1] at hh ⊢
  by_cases k2 : a.Kind = 2
  · rw [if_pos k2] at hh ht ⊢
    unfold subB at ht
    rw [List.all_eq_true] at ht
    have := ht u.Method.toNat (by have := hu.1; have := hu.2.1; simp; omega)
    rw [hh] at this
    simpa using this
  rw [if_neg k2] at hh ht ⊢
  by_cases k5 : a.Kind = 5
  · rw [if_pos k5] at hh ht ⊢
    simp at *
    omega
  rw [if_neg k5] at hh ht ⊢
  simp at *
  omega
/-- Numbers of so many bits are the same, if their bits are. -/
theorem bits_ext : ∀ (k : Nat) (a b : Int), 0 ≤ a → 0 ≤ b → a < 2 ^ k → b < 2 ^ k → (∀ i, i < k → bitN a i = bitN b i) → a = b
  | 0, a, b, h1, h2, h3, h4, _ => by simp at h3 h4; omega
  | k + 1, a, b, h1, h2, h3, h4, h => by
    have e0 := h 0 (by omega)
    have e1 : a / 2 = b / 2 := by
      refine bits_ext k (a / 2) (b / 2) (by omega) (by omega) (by rw [Int.pow_succ] at h3; omega) (by rw [Int.pow_succ] at h4; omega) fun i hi => ?_
      have := h (i + 1) (by omega)
      unfold bitN at this ⊢
      rw [Int.pow_succ, Int.mul_comm, ← Int.ediv_ediv_of_nonneg (by omega), ← Int.ediv_ediv_of_nonneg (by omega)] at this
      exact this
    unfold bitN at e0
    simp only [Int.pow_zero, Int.ediv_one] at e0
    have e2 : a % 2 = b % 2 := by
      have ha := Int.emod_two_eq a
      have hb := Int.emod_two_eq b
      rcases ha with ha | ha <;> rcases hb with hb | hb <;> rw [ha, hb] at e0 ⊢ <;> simp at e0
    omega
theorem tg_both {a b : Cav} (hw1 : CavWf a) (hw2 : CavWf b) (h : TightOk a b) : (tgB a b && tgB b a) = decide (a = b) := by
  obtain ⟨h1, h2, h3, h4⟩ := h
  have b1 := cav_bd hw1
  have b2 := cav_bd hw2
  have key : (tgB a b && tgB b a) = true ↔ a.A = b.A := by
    unfold tgB
    rw [← h3]
    by_cases k2 : a.Kind = 2
    · rw [if_pos k2, if_pos k2]
      constructor
      · intro h
        rw [Bool.and_eq_true] at h
        unfold subB at h
        rw [List.all_eq_true, List.all_eq_true] at h
        refine bits_ext 16 _ _ (by omega) (by omega) ?_ ?_ fun i hi => ?_
        · have := h1.2.2.1 k2; simp; omega
        · have := h2.2.2.1 (by omega); simp; omega
        · have x := h.1 i (by simpa using hi)
          have y := h.2 i (by simpa using hi)
          cases p : bitN a.A i <;> cases q : bitN b.A i <;> simp_all
      · intro e
        rw [e]
        simp [subB]
    rw [if_neg k2, if_neg k2]
    by_cases k5 : a.Kind = 5
    · rw [if_pos k5, if_pos k5]
      simp
      omega
    · rw [if_neg k5, if_neg k5]
      simp
      omega
  by_cases e : a = b
  · rw [decide_eq_true e, key, e]
  · rw [decide_eq_false e, Bool.eq_false_iff]
    intro k
    have k3 := key.1 k
    exact e (by cases a; cases b; simp_all)
theorem al_no {l : List Cav} {u : Usx} (h : ¬ AllOk l u) : alE l u = 1 ∧ alV l u = false := by
  unfold alE alV
  exact ⟨if_neg h, by rw [decide_eq_false h]; rfl⟩
theorem al_yes {l : List Cav} {u : Usx} (h : AllOk l u) : alE l u = 0 ∧ alV l u = l.all fun c => hldB c u := by
  unfold alE alV
  exact ⟨if_pos h, by rw [decide_eq_true h]; rfl⟩
theorem cavsB_bad {l : List Cav} {j : Nat} (hj : j < l.length) (h : ¬ CavOk l[j]) : cavsB l = false := by
  unfold cavsB
  rw [List.all_eq_false]
  exact ⟨l[j], List.getElem_mem hj, by simpa using h⟩
theorem take_allC {l : List Cav} {j : Nat} {p : Cav → Bool} (hj : j < l.length) : (l.take (j + 1)).all p = ((l.take j).all p && p l[j]) := by
  rw [List.take_succ_eq_append_getElem hj, List.all_append]
  simp
theorem more_laws {l : List Cav} {c : Cav} {u : Usx} (h : l.length ≤ 15) : alE (c :: l) u = alE (l ++ [c]) u ∧ alV (c :: l) u = alV (l ++ [c]) u ∧
    ((alE (l ++ [c]) u = 1 ∧ alV (l ++ [c]) u = false) ∨ (alE (l ++ [c]) u = 0 ∧ alE l u = 0 ∧ hlE c u = 0 ∧ alV (l ++ [c]) u = (alV l u && hlV c u))) := by
  have e1 : AllOk (l ++ [c]) u ↔ AllOk l u ∧ CavOk c := by
    unfold AllOk cavsB
    simp only [List.length_append, List.length_singleton, List.all_append, List.all_cons, List.all_nil, Bool.and_true, Bool.and_eq_true, decide_eq_true_eq]
    constructor
    · rintro ⟨a, b, d, f⟩; exact ⟨⟨by omega, b, d⟩, f⟩
    · rintro ⟨⟨a, b, d⟩, f⟩; exact ⟨by omega, b, d, f⟩
  have e2 : AllOk (c :: l) u ↔ AllOk l u ∧ CavOk c := by
    unfold AllOk cavsB
    simp only [List.length_cons, List.all_cons, Bool.and_eq_true, decide_eq_true_eq]
    constructor
    · rintro ⟨a, b, d, f⟩; exact ⟨⟨by omega, b, f⟩, d⟩
    · rintro ⟨⟨a, b, d⟩, f⟩; exact ⟨by omega, b, f, d⟩
  by_cases k : AllOk l u ∧ CavOk c
  · obtain ⟨y1, y2⟩ := al_yes (e1.2 k)
    obtain ⟨z1, z2⟩ := al_yes (e2.2 k)
    obtain ⟨x1, x2⟩ := al_yes k.1
    have hh : hlE c u = 0 := if_pos ⟨k.2, k.1.2.1⟩
    have hv : hlV c u = hldB c u := by unfold hlV; rw [decide_eq_true ⟨k.2, k.1.2.1⟩]; rfl
    refine ⟨by rw [y1, z1], ?_, .inr ⟨y1, x1, hh, ?_⟩⟩
    · rw [y2, z2]; simp [Bool.and_comm]
    · rw [y2, x2, hv]; simp
  · obtain ⟨y1, y2⟩ := al_no (fun q => k (e1.1 q))
    obtain ⟨z1, z2⟩ := al_no (fun q => k (e2.1 q))
    exact ⟨by rw [y1, z1], by rw [y2, z2], .inl ⟨y1, y2⟩⟩
end Go.Proofs.Ytgiapfenalhleaa
