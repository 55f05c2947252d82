/-
  The contracts of package money's small functions.
  The contracts of package caveat's own small functions: which caveat, which use, and which row of caveats may be, whether one holds.
  The contracts of package caveat's own functions: whether one holds, a caveat's octets.
  The contract of package caveat's own Put.
-/
import Derived.Laws.BitsAllLaws
import Derived.Test.YtgiapfenalhleaaPack1
import Derived.Test.YtgiapfenalhleaaPack2
import Derived.Test.YtgiapfenalhleaaPack3
import Derived.Test.YtgiapfenalhleaaPack4
import Derived.Test.YtgiapfenalhleaaPack5
import Derived.Test.YtgiapfenalhleaaPack6
import Derived.Test.YtgiapfenalhleaaPack7
import Derived.Test.YtgiapfenalhleaaPack8
import Derived.Test.YtgiapfenalhleaaPack9
import Derived.Test.YtgiapfenalhleaaPack10
import Derived.Test.YtgiapfenalhleaaPack11
import Derived.Test.YtgiapfenalhleaaPack12
import Derived.Test.YtgiapfenalhleaaPack13
import Derived.Test.YtgiapfenalhleaaPack14
import Derived.Test.YtgiapfenalhleaaPack15
import Derived.Test.YtgiapfenalhleaaPack16
import Derived.Test.YtgiapfenalhleaaPack17
import Derived.Test.YtgiapfenalhleaaPack18
import Derived.Test.YtgiapfenalhleaaPack19
import Derived.Test.YtgiapfenalhleaaPack20
namespace Go.Proofs.Ytgiapfenalhleaa
open Go.RowKit Go.WalkArith

theorem above1_any (x m : Int) (b : Nat) (w : World) (hc : w.cell? ⟨b, 0, none⟩ = some (.int .u64 m)) :
    Calls Try.prog 107 #[.int .u64 x, .pointer (some ⟨b, 0, none⟩)] w fun e w' => e = .returned (.bool (decide (m < x))) ∧ w = w' := by
  go_enter Try.func107, Try.ntmps107
  go_wp2
  go_ret
  exact ⟨rfl, rfl⟩

set_option maxHeartbeats 1000000 in
theorem indexAbove_any (A : Option Addr) (n c B : Nat) (xs : List Int) (m : Int) (b : Nat) (w : World) (hr : Rd w B .u64 A n c xs) (hc : w.cell? ⟨b, 0, none⟩ = some (.int .u64 m)) :
    Calls Try.prog 109 #[.slice A n c, .func (.func 107) #[] #[.pointer (some ⟨b, 0, none⟩)]] w fun e w' => ∃ r : Int, e = .returned (.int .i64 r) ∧ decide (0 ≤ r) = !(allLe m xs) ∧ w = w' := by
  have hcap := hr.cap
  unfold maxLen at hcap
  have HL := hid hr.len
  go_enter Try.func109, Try.ntmps109
  go_wp2
  go_loop [8] (fun i => ∃ j : Nat, j ≤ n ∧ i = .int .i64 j ∧ allLe m (xs.take j) = true) (fun i => n - (intOf i).toNat)
  case atStart => exact ⟨0, Nat.zero_le _, rfl, rfl⟩
  case round =>
    obtain ⟨j, hj, rfl, hpre⟩ := hrel
    have HP := hid hpre
    clear hpre
    by_cases hlt : j < n
    · obtain ⟨b1, o1, rfl, hb1, hc1⟩ := hr.at_ (by omega)
      have q1 := hc1 j hlt
      clear hc1
      by_cases he : m < nth xs j
      · have HN := hid (allLe_bad (by rw [HL.out]; exact hlt) he)
        have hd : decide (m < nth xs j) = true := decide_eq_true he
        clear he
        generalize nth xs j = x at *
        go_wp2_with (go_at_call 107; go_must (refine (above1_any x m b _ hc).mono ?_; rintro e w' ⟨rfl, rfl⟩))
        go_ret
        exact ⟨_, rfl, by rw [HN.out]; simp, rfl⟩
      · have HN := hid (allLe_take (by rw [HL.out]; exact hlt) HP.out (by omega : nth xs j ≤ m))
        have hd : decide (m < nth xs j) = false := decide_eq_false he
        clear he
        generalize nth xs j = x at *
        go_wp2_with (go_at_call 107; go_must (refine (above1_any x m b _ hc).mono ?_; rintro e w' ⟨rfl, rfl⟩))
        go_round
        case rel => exact ⟨j + 1, by omega, by go_num, HN.out⟩
        case measure => simp [intOf]; omega
    · have HN := hid (allLe_all (by rw [HL.out]; omega) HP.out)
      go_wp2
      go_ret
      exact ⟨_, rfl, by rw [HN.out]; simp, rfl⟩

set_option maxHeartbeats 1000000 in
theorem containsAbove_any (A : Option Addr) (n c B : Nat) (xs : List Int) (m : Int) (b : Nat) (w : World) (hr : Rd w B .u64 A n c xs) (hc : w.cell? ⟨b, 0, none⟩ = some (.int .u64 m)) :
    Calls Try.prog 106 #[.slice A n c, .func (.func 107) #[] #[.pointer (some ⟨b, 0, none⟩)]] w fun e w' => e = .returned (.bool (!(allLe m xs))) ∧ w = w' := by
  go_enter Try.func106, Try.ntmps106
  go_wp2_with (go_at_call 109; go_must (refine (indexAbove_any _ _ _ _ xs m b _ hr hc).mono ?_; rintro e w' ⟨r, rfl, hk, rfl⟩))
  go_ret
  exact ⟨rfl, rfl⟩

set_option maxHeartbeats 1000000 in
theorem anyAbove_any (A : Option Addr) (n c B : Nat) (xs : List Int) (m : Int) (w : World) (hr : Rd w B .u64 A n c xs) (hB : B ≤ w.heap.size) :
    Calls Try.prog 99 #[.int .u64 m, .slice A n c] w fun e w' => e = .returned (.bool (!(allLe m xs))) ∧ Below w.heap.size w w' := by
  have hr' := hr.alloc hB (.cells #[.int .u64 m] 25)
  have hc : (w.alloc (.cells #[.int .u64 m] 25)).cell? ⟨w.heap.size, 0, none⟩ = some (.int .u64 m) := by rw [World.cell?_alloc_at] <;> rfl
  go_enter Try.func99, Try.ntmps99
  go_wp2_with (go_at_call 106; go_must (refine (containsAbove_any _ _ _ _ xs m _ _ hr' hc).mono ?_; rintro e w' ⟨rfl, rfl⟩))
  go_ret
  exact ⟨rfl, bel_alloc (Below.refl _ _) _⟩

set_option maxHeartbeats 1000000 in
theorem mCheck_any (A : Option Addr) (n c B : Nat) (xs : List Int) (w : World) (hr : Rd w B .u64 A n c xs) (hB : B ≤ w.heap.size) :
    Calls Try.prog 90 #[.slice A n c] w fun e w' => e = .returned (.int .i64 (chkM xs)) ∧ Below w.heap.size w w' := by
  by_cases h : allLe mMax xs = true
  · have H := hid (show chkM xs = 0 from if_pos h)
    have h' : (!(allLe 4611686018427387904 xs)) = false := by change (!(allLe mMax xs)) = false; rw [h]; rfl
    clear h
    go_enter Try.func90, Try.ntmps90
    go_wp2_with (go_at_call 99; go_must (refine (anyAbove_any _ _ _ _ xs _ _ hr hB).mono ?_; rw [h']; rintro e w' ⟨rfl, hb⟩))
    go_ret
    exact ⟨ret_num H.out.symm, hb⟩
  · have H := hid (show chkM xs = 1 from if_neg h)
    have h' : (!(allLe 4611686018427387904 xs)) = true := by change (!(allLe mMax xs)) = true; simpa using h
    clear h
    go_enter Try.func90, Try.ntmps90
    go_wp2_with (go_at_call 99; go_must (refine (anyAbove_any _ _ _ _ xs _ _ hr hB).mono ?_; rw [h']; rintro e w' ⟨rfl, hb⟩))
    go_ret
    exact ⟨ret_num H.out.symm, hb⟩

end Go.Proofs.Ytgiapfenalhleaa
namespace Go.Proofs.Ytgiapfenalhleaa
open Go.RowKit Go.WalkArith

theorem rd_oneC (w : World) (a : Int) (b : Nat) (hb : b = w.heap.size) (ha : (Lit.int .u64 a).wf = true) : Rd (w.alloc (.cells #[.int .u64 a] 25)) (w.alloc (.cells #[.int .u64 a] 25)).heap.size .u64 (some ⟨b, 0, none⟩) 1 1 [a] := by
  subst hb
  exact ⟨rfl, Nat.le_refl _, by simp [maxLen], by simpa using ha, by simp, fun _ => ⟨w.heap.size, 0, rfl, by simp, fun j hj => by
    match j, hj with
    | 0, _ => rw [World.cell?_alloc_at _ _ _ _ rfl]; rfl⟩⟩
/-- One amount, checked. -/
theorem mOne_any (a : Int) (b : Nat) (w : World) (hb : b = w.heap.size) (ha : (Lit.int .u64 a).wf = true) :
    Calls Try.prog 90 #[.slice (some ⟨b, 0, none⟩) 1 1] (w.alloc (.cells #[.int .u64 a] 25)) fun e w' => e = .returned (.int .i64 (if a ≤ 4611686018427387904 then 0 else 1)) ∧ Below w.heap.size w w' := by
  refine (mCheck_any _ _ _ _ [a] _ (rd_oneC w a b hb ha) (Nat.le_refl _)).mono ?_
  rintro e w1 ⟨rfl, hb1⟩
  exact ⟨by rw [chkM_one]; rfl, bel_call (bel_alloc (Below.refl _ _) _) hb1⟩

set_option maxHeartbeats 2000000 in
theorem cCheck_any (s : Array Value) (S : Nat → Prop) (c : Cav) (w : World) (h : lay_Caveat.rep w S c s.toList) :
    Calls Try.prog 71 #[.agg s] w fun e w' => e = .returned (.int .i64 (cavE c)) ∧ Below w.heap.size w w' := by
  obtain ⟨rfl, hw⟩ := agg_Caveat h
  clear h
  have bd := cav_bd hw
  have hwa := hw.a
  clear hw
  obtain ⟨k, a, b⟩ := c
  simp only at bd hwa ⊢
  have hb0 : Below w.heap.size w (w.alloc (Obj.cells #[.int .i64 k, .int .u64 a, .int .u64 b] 30)) := bel_alloc (Below.refl _ _) _
  have HGO : ∀ e : Int, ((e = 0 ∧ CavOk ⟨k, a, b⟩) ∨ (e = 1 ∧ ¬ CavOk ⟨k, a, b⟩)) → Hid (cavE ⟨k, a, b⟩ = e) := fun e h => hid (cavE_of h)
  have HM := hid (mOne_any a (w.heap.size + 1) (w.alloc (Obj.cells #[.int .i64 k, .int .u64 a, .int .u64 b] 30)) (by simp) hwa)
  rcases (show k < 1 ∨ 5 < k ∨ k = 1 ∨ k = 2 ∨ k = 3 ∨ k = 4 ∨ k = 5 by omega) with hk | hk | hk | hk | hk | hk | hk
  · have HE := HGO 1 (.inr ⟨rfl, fun q => by have : (1 : Int) ≤ k := q.1; omega⟩)
    have e1 : (k == 1) = false := by simp; omega
    have e2 : (k == 2) = false := by simp; omega
    have e3 : (k == 3) = false := by simp; omega
    have e4 : (k == 4) = false := by simp; omega
    have e5 : (k == 5) = false := by simp; omega
    have n4 : (k != 4) = true := by simp; omega
    clear hk
    by_cases hb : b = 0
    · subst hb
      clear HGO HM
      go_enter Try.func71, Try.ntmps71
      go_wp2
      go_ret
      exact ⟨ret_num HE.out.symm, hb0⟩
    · have d4 : (b != 0) = true := by simpa using hb
      clear HGO HM
      go_enter Try.func71, Try.ntmps71
      go_wp2
      go_ret
      exact ⟨ret_num HE.out.symm, hb0⟩
  · have HE := HGO 1 (.inr ⟨rfl, fun q => by have : k ≤ 5 := q.2.1; omega⟩)
    have e1 : (k == 1) = false := by simp; omega
    have e2 : (k == 2) = false := by simp; omega
    have e3 : (k == 3) = false := by simp; omega
    have e4 : (k == 4) = false := by simp; omega
    have e5 : (k == 5) = false := by simp; omega
    have n4 : (k != 4) = true := by simp; omega
    clear hk
    by_cases hb : b = 0
    · subst hb
      clear HGO HM
      go_enter Try.func71, Try.ntmps71
      go_wp2
      go_ret
      exact ⟨ret_num HE.out.symm, hb0⟩
    · have d4 : (b != 0) = true := by simpa using hb
      clear HGO HM
      go_enter Try.func71, Try.ntmps71
      go_wp2
      go_ret
      exact ⟨ret_num HE.out.symm, hb0⟩
  · subst hk
    by_cases hb : b = 0
    rotate_left
    · have HE := HGO 1 (.inr ⟨rfl, fun q => hb (q.2.2.2.2 (by show (1 : Int) ≠ 4; decide))⟩)
      have d4 : (b != 0) = true := by simpa using hb
      clear HGO HM
      go_enter Try.func71, Try.ntmps71
      go_wp2
      go_ret
      exact ⟨ret_num HE.out.symm, hb0⟩
    subst hb
    have HE := HGO 0 (.inl ⟨rfl, by refine ⟨?_, ?_, ?_, ?_, ?_⟩ <;> simp <;> omega⟩)
    clear HGO HM
    go_enter Try.func71, Try.ntmps71
    go_wp2
    go_ret
    exact ⟨ret_num HE.out.symm, hb0⟩
  · subst hk
    by_cases hb : b = 0
    rotate_left
    · have HE := HGO 1 (.inr ⟨rfl, fun q => hb (q.2.2.2.2 (by show (2 : Int) ≠ 4; decide))⟩)
      have d4 : (b != 0) = true := by simpa using hb
      clear HGO HM
      go_enter Try.func71, Try.ntmps71
      go_wp2
      go_ret
      exact ⟨ret_num HE.out.symm, hb0⟩
    subst hb
    by_cases ha : a ≤ 65535
    · have HE := HGO 0 (.inl ⟨rfl, by refine ⟨?_, ?_, ?_, ?_, ?_⟩ <;> simp <;> omega⟩)
      have d2 : a / 65536 = 0 := by omega
      clear HGO HM
      go_enter Try.func71, Try.ntmps71
      go_wp2
      go_ret
      exact ⟨ret_num HE.out.symm, hb0⟩
    · have HE := HGO 1 (.inr ⟨rfl, fun q => by have : a ≤ 65535 := q.2.2.1 rfl; omega⟩)
      have d2 : (a / 65536 == 0) = false := by simp; omega
      clear HGO HM
      go_enter Try.func71, Try.ntmps71
      go_wp2
      go_ret
      exact ⟨ret_num HE.out.symm, hb0⟩
  · subst hk
    by_cases hb : b = 0
    rotate_left
    · have HE := HGO 1 (.inr ⟨rfl, fun q => hb (q.2.2.2.2 (by show (3 : Int) ≠ 4; decide))⟩)
      have d4 : (b != 0) = true := by simpa using hb
      clear HGO HM
      go_enter Try.func71, Try.ntmps71
      go_wp2
      go_ret
      exact ⟨ret_num HE.out.symm, hb0⟩
    subst hb
    by_cases ha : a ≤ 4611686018427387904
    · have HE := HGO 0 (.inl ⟨rfl, by refine ⟨?_, ?_, ?_, ?_, ?_⟩ <;> simp <;> omega⟩)
      rw [if_pos ha] at HM
      clear HGO
      go_enter Try.func71, Try.ntmps71
      go_wp2_with fail
      refine HM.out.mono ?_
      rintro e w1 ⟨rfl, hb1⟩
      go_wp2
      go_ret
      exact ⟨ret_num HE.out.symm, bel_call hb0 hb1⟩
    · have HE := HGO 1 (.inr ⟨rfl, fun q => by have : a ≤ 4611686018427387904 := q.2.2.2.1 (.inl rfl); omega⟩)
      rw [if_neg ha] at HM
      clear HGO
      go_enter Try.func71, Try.ntmps71
      go_wp2_with fail
      refine HM.out.mono ?_
      rintro e w1 ⟨rfl, hb1⟩
      go_wp2
      go_ret
      exact ⟨ret_num HE.out.symm, bel_call hb0 hb1⟩
  · subst hk
    by_cases hb : b = 0
    · subst hb
      by_cases ha : a ≤ 4611686018427387904
      · have HE := HGO 0 (.inl ⟨rfl, by refine ⟨?_, ?_, ?_, ?_, ?_⟩ <;> simp <;> omega⟩)
        rw [if_pos ha] at HM
        clear HGO
        go_enter Try.func71, Try.ntmps71
        go_wp2_with fail
        refine HM.out.mono ?_
        rintro e w1 ⟨rfl, hb1⟩
        go_wp2
        go_ret
        exact ⟨ret_num HE.out.symm, bel_call hb0 hb1⟩
      · have HE := HGO 1 (.inr ⟨rfl, fun q => by have : a ≤ 4611686018427387904 := q.2.2.2.1 (.inr rfl); omega⟩)
        rw [if_neg ha] at HM
        clear HGO
        go_enter Try.func71, Try.ntmps71
        go_wp2_with fail
        refine HM.out.mono ?_
        rintro e w1 ⟨rfl, hb1⟩
        go_wp2
        go_ret
        exact ⟨ret_num HE.out.symm, bel_call hb0 hb1⟩
    · have d4 : (b != 0) = true := by simpa using hb
      by_cases ha : a ≤ 4611686018427387904
      · have HE := HGO 0 (.inl ⟨rfl, by refine ⟨?_, ?_, ?_, ?_, ?_⟩ <;> simp <;> omega⟩)
        rw [if_pos ha] at HM
        clear HGO
        go_enter Try.func71, Try.ntmps71
        go_wp2_with fail
        refine HM.out.mono ?_
        rintro e w1 ⟨rfl, hb1⟩
        go_wp2
        go_ret
        exact ⟨ret_num HE.out.symm, bel_call hb0 hb1⟩
      · have HE := HGO 1 (.inr ⟨rfl, fun q => by have : a ≤ 4611686018427387904 := q.2.2.2.1 (.inr rfl); omega⟩)
        rw [if_neg ha] at HM
        clear HGO
        go_enter Try.func71, Try.ntmps71
        go_wp2_with fail
        refine HM.out.mono ?_
        rintro e w1 ⟨rfl, hb1⟩
        go_wp2
        go_ret
        exact ⟨ret_num HE.out.symm, bel_call hb0 hb1⟩
  · subst hk
    by_cases hb : b = 0
    rotate_left
    · have HE := HGO 1 (.inr ⟨rfl, fun q => hb (q.2.2.2.2 (by show (5 : Int) ≠ 4; decide))⟩)
      have d4 : (b != 0) = true := by simpa using hb
      clear HGO HM
      go_enter Try.func71, Try.ntmps71
      go_wp2
      go_ret
      exact ⟨ret_num HE.out.symm, hb0⟩
    subst hb
    have HE := HGO 0 (.inl ⟨rfl, by refine ⟨?_, ?_, ?_, ?_, ?_⟩ <;> simp <;> omega⟩)
    clear HGO HM
    go_enter Try.func71, Try.ntmps71
    go_wp2
    go_ret
    exact ⟨ret_num HE.out.symm, hb0⟩

def useE (u : Usx) : Int := if UseOk u then 0 else 1

set_option maxHeartbeats 1000000 in
theorem written_any (k : Int) (w : World) :
    Calls Try.prog 72 #[.int .u64 k] w fun e w' => e = .returned (.int .i64 (if k = 4 then 3 else 2)) ∧ w = w' := by
  by_cases h : k = 4
  · subst h
    go_enter Try.func72, Try.ntmps72
    go_wp2
    go_ret
    exact ⟨rfl, rfl⟩
  · rw [if_neg h]
    have d : (k == 4) = false := by simpa using h
    go_enter Try.func72, Try.ntmps72
    go_wp2
    go_ret
    exact ⟨rfl, rfl⟩

end Go.Proofs.Ytgiapfenalhleaa
namespace Go.Proofs.Ytgiapfenalhleaa
open Go.RowKit Go.WalkArith

theorem bitN_nat (a i : Nat) : bitN (a : Int) i = a.testBit i := by
  rw [Nat.testBit_eq_decide_div_mod_eq]
  unfold bitN
  have e : ((a : Int) / 2 ^ i % 2) = ((a / 2 ^ i % 2 : Nat) : Int) := by simp
  rw [e, Bool.eq_iff_iff]
  generalize a / 2 ^ i % 2 = z
  simp only [beq_iff_eq, decide_eq_true_eq]
  omega
theorem and_one {x : Int} (h0 : 0 ≤ x) (h1 : x ≤ 18446744073709551615) : bits .and .u64 x 1 = x % 2 := by
  obtain ⟨a, rfl⟩ := Int.eq_ofNat_of_zero_le h0
  have h := u64_and_nat a 1 (by omega) (by omega)
  rw [Nat.and_one_is_mod] at h
  simpa using h
theorem shr_bd {a : Int} {m : Nat} (h0 : 0 ≤ a) (h1 : a ≤ 18446744073709551615) : 0 ≤ a / 2 ^ m ∧ a / 2 ^ m ≤ 18446744073709551615 :=
  ⟨Int.ediv_nonneg h0 (Int.pow_nonneg (by omega)), Int.le_trans (Int.ediv_le_self _ h0) h1⟩
theorem sub_bits {a b : Int} (h0 : 0 ≤ a) (h1 : a ≤ 65535) (h2 : 0 ≤ b) (h3 : b ≤ 18446744073709551615) : (bits .andNot .u64 a b == 0) = subB a b := by
  obtain ⟨x, rfl⟩ := Int.eq_ofNat_of_zero_le h0
  obtain ⟨y, rfl⟩ := Int.eq_ofNat_of_zero_le h2
  rw [u64_andNot_nat x y (by omega) (by omega), Bool.eq_iff_iff]
  have hx : x < 2 ^ 16 := by omega
  have hy : y < 2 ^ 64 := by omega
  have hn : ∀ i, i < 16 → (18446744073709551615 - y).testBit i = !y.testBit i := fun i hi => by
    have := Nat.testBit_two_pow_sub_succ hy i
    rw [show 2 ^ 64 - (y + 1) = 18446744073709551615 - y by omega] at this
    rw [this, decide_eq_true (by omega : i < 64)]
    rfl
  simp only [subB, beq_iff_eq, List.all_eq_true, List.mem_range, bitN_nat, Bool.or_eq_true, Bool.not_eq_true']
  constructor
  · intro h i hi
    have h' : x &&& (18446744073709551615 - y) = 0 := by exact_mod_cast h
    have := congrArg (fun z => Nat.testBit z i) h'
    simp only [Nat.testBit_and, hn i hi, Nat.zero_testBit] at this
    cases hxi : x.testBit i <;> cases hyi : y.testBit i <;> simp_all
  · intro h
    have : x &&& (18446744073709551615 - y) = 0 := by
      apply Nat.eq_of_testBit_eq
      intro i
      rw [Nat.testBit_and, Nat.zero_testBit]
      by_cases hi : i < 16
      · rw [hn i hi]
        rcases h i hi with h | h <;> rw [h] <;> simp
      · rw [Nat.testBit_lt_two_pow (Nat.lt_of_lt_of_le hx (Nat.pow_le_pow_right (by omega) (by omega))), Bool.false_and]
    rw [this]
    rfl

end Go.Proofs.Ytgiapfenalhleaa
namespace Go.Proofs.Ytgiapfenalhleaa
open Go.RowKit Go.WalkArith

theorem rd_row {w : World} {g : Nat} {t : TypeId} {x y z : Int} (n : Nat) (hn : n ≤ 3) (h0 : 0 < n) (V : Var3 w g t (.int .u64 x) (.int .u64 y) (.int .u64 z)) (hx : (Lit.int .u64 x).wf = true) (hy : (Lit.int .u64 y).wf = true) (hz : (Lit.int .u64 z).wf = true) : Rd w w.heap.size .u64 (some ⟨g, 0, none⟩) n 3 ([x, y, z].take n) := by
  have hm : ∀ v ∈ [x, y, z], (Lit.int .u64 v).wf = true := by simpa using ⟨hx, hy, hz⟩
  refine ⟨by simp; omega, hn, by simp [maxLen], fun v hv => hm v (List.mem_of_mem_take hv), by simp, fun _ => ⟨g, 0, rfl, V.lt, fun j hj => ?_⟩⟩
  have e : nth ([x, y, z].take n) j = nth [x, y, z] j := by simp [nth, hj]
  rw [e]
  match j, (by omega : j < 3) with
  | 0, _ => exact V.c0
  | 1, _ => exact V.c1
  | 2, _ => exact V.c2

set_option maxHeartbeats 1000000 in
theorem cPut_any (s : Array Value) (S : Nat → Prop) (c : Cav) (w : World) (h : lay_Caveat.rep w S c s.toList) :
    Calls Try.prog 37 #[.agg s] w fun e w' => ∃ v', e = .returned (.tuple #[v', .int .i64 (cavE c)]) ∧ Own w' w.heap.size 5 .u8 v' (putC c) ∧ Below w.heap.size w w' := by
  obtain ⟨rfl, hw⟩ := agg_Caveat h
  clear h
  have bd := cav_bd hw
  have hb0 : Below w.heap.size w (w.alloc (Obj.cells #[.int .i64 c.Kind, .int .u64 c.A, .int .u64 c.B] 30)) := bel_alloc (Below.refl _ _) _
  have V0 := Var3.new w 30 (.int .i64 c.Kind) (.int .u64 c.A) (.int .u64 c.B)
  have HCK := hid (fun W => cCheck_any #[.int .i64 c.Kind, .int .u64 c.A, .int .u64 c.B] (fun _ => True) c W (rep_Caveat.2 ⟨rfl, hw⟩))
  go_enter Try.func37, Try.ntmps37
  go_wp2_with fail
  refine (HCK.out _).mono ?_
  rintro e w1 ⟨rfl, hb1⟩
  have HB1 := bel_call hb0 hb1
  have V1 := V0.call hb1
  have k0 := V1.c0
  have k1 := V1.c1
  have k2 := V1.c2
  have hz1 := HB1.size
  clear hb1 hb0 V0 HCK
  rcases cavE_is (c := c) with ⟨hE, hok⟩ | ⟨hE, hok⟩
  · rw [hE]
    have HP := hid (show putC c = octs (numsC c) from if_pos hok)
    have HE := hid hE
    clear hE
    have hk := hok.1
    have hk2 := hok.2.1
    have HWK := hid (wf_u64 (by omega) : (Lit.int .u64 c.Kind).wf = true)
    by_cases h4 : c.Kind = 4
    · have HN := hid (show numsC c = [4, c.A, c.B] from if_pos h4)
      have L1 := Var3.new w1 107 (.int .u64 c.Kind) (.int .u64 c.A) (.int .u64 c.B)
      have HPU := hid (put_any _ _ _ _ _ (rd_row 3 (by decide) (by decide) L1 HWK.out hw.a hw.b) (by decide))
      have HWR := hid (written_any c.Kind (w1.alloc (Obj.cells #[.int .u64 c.Kind, .int .u64 c.A, .int .u64 c.B] 107)))
      rw [if_pos h4] at HWR
      clear hw hok hk hk2 L1
      obtain ⟨k, a, b⟩ := c
      simp only at *
      subst h4
      go_wp2_with fail
      refine HWR.out.mono ?_
      rintro e w2 ⟨rfl, rfl⟩
      go_wp2_with fail
      refine HPU.out.mono ?_
      rintro e w2 ⟨v2, rfl, ho2, hb2⟩
      go_wp2
      go_ret2
      exact ⟨_, by rw [HE.out]; rfl, by rw [HP.out, HN.out]; exact ho2.weaken (by simp; omega), bel_call (bel_alloc HB1 _) hb2⟩
    · have HN := hid (show numsC c = [c.Kind, c.A] from if_neg h4)
      have L1 := Var3.new w1 107 (.int .u64 c.Kind) (.int .u64 c.A) (.int .u64 c.B)
      have HPU := hid (put_any _ _ _ _ _ (rd_row 2 (by decide) (by decide) L1 HWK.out hw.a hw.b) (by decide))
      have HWR := hid (written_any c.Kind (w1.alloc (Obj.cells #[.int .u64 c.Kind, .int .u64 c.A, .int .u64 c.B] 107)))
      rw [if_neg h4] at HWR
      clear hw hok L1
      obtain ⟨k, a, b⟩ := c
      simp only at *
      go_wp2_with fail
      refine HWR.out.mono ?_
      rintro e w2 ⟨rfl, rfl⟩
      go_wp2_with fail
      refine HPU.out.mono ?_
      rintro e w2 ⟨v2, rfl, ho2, hb2⟩
      go_wp2
      go_ret2
      exact ⟨_, by rw [HE.out]; rfl, by rw [HP.out, HN.out]; exact ho2.weaken (by simp; omega), bel_call (bel_alloc HB1 _) hb2⟩
  · rw [hE]
    have HP := hid (show putC c = [] from if_neg hok)
    have HE := hid hE
    clear hE hok hw
    obtain ⟨k, a, b⟩ := c
    simp only at *
    go_wp2
    go_ret2
    exact ⟨_, by rw [HE.out]; rfl, by rw [HP.out]; exact Own.nil _ _ _ _, HB1⟩
end Go.Proofs.Ytgiapfenalhleaa
