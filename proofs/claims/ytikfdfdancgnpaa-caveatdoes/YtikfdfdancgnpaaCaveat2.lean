/-
  The contracts of package caveat's own functions: whether one holds, a caveat's octets.
-/
import Derived.Test.YtikfdfdancgnpaaCaveat1
import Derived.Laws.BitsAllLaws
namespace Go.Proofs.Ytikfdfdancgnpaa
open Go.RowKit Go.WalkArith

theorem bitN_nat (a i : Nat) : bitN (a : Int) i = a.testBit i := by
  rw [Nat.testBit_eq_decide_div_mod_eq]
  unfold bitN
  have e : ((a : Int) / 2 ^ i % 2) = ((a / 2 ^ i % 2 : Nat) : Int) := by simp
  rw [e, Bool.eq_iff_iff]
  generalize a / 2 ^ i % 2 = z
  simp only [beq_iff_eq, decide_eq_true_eq]
  omega
theorem and_one {x : Int} (h0 : 0 ≤ x) (h1 : x ≤ 18446744073709551615) : bits .and .u64 x 1 = x % 2 := by
  obtain ⟨a, rfl⟩ := Int.eq_ofNat_of_zero_le h0
  have h := u64_and_nat a 1 (by omega) (by omega)
  rw [Nat.and_one_is_mod] at h
  simpa using h
theorem shr_bd {a : Int} {m : Nat} (h0 : 0 ≤ a) (h1 : a ≤ 18446744073709551615) : 0 ≤ a / 2 ^ m ∧ a / 2 ^ m ≤ 18446744073709551615 :=
  ⟨Int.ediv_nonneg h0 (Int.pow_nonneg (by omega)), Int.le_trans (Int.ediv_le_self _ h0) h1⟩
theorem sub_bits {a b : Int} (h0 : 0 ≤ a) (h1 : a ≤ 65535) (h2 : 0 ≤ b) (h3 : b ≤ 18446744073709551615) : (bits .andNot .u64 a b == 0) = subB a b := by
  obtain ⟨x, rfl⟩ := Int.eq_ofNat_of_zero_le h0
  obtain ⟨y, rfl⟩ := Int.eq_ofNat_of_zero_le h2
  rw [u64_andNot_nat x y (by omega) (by omega), Bool.eq_iff_iff]
  have hx : x < 2 ^ 16 := by omega
  have hy : y < 2 ^ 64 := by omega
  have hn : ∀ i, i < 16 → (18446744073709551615 - y).testBit i = !y.testBit i := fun i hi => by
    have := Nat.testBit_two_pow_sub_succ hy i
    rw [show 2 ^ 64 - (y + 1) = 18446744073709551615 - y by omega] at this
    rw [this, decide_eq_true (by omega : i < 64)]
    rfl
  simp only [subB, beq_iff_eq, List.all_eq_true, List.mem_range, bitN_nat, Bool.or_eq_true, Bool.not_eq_true']
  constructor
  · intro h i hi
    have h' : x &&& (18446744073709551615 - y) = 0 := by exact_mod_cast h
    have := congrArg (fun z => Nat.testBit z i) h'
    simp only [Nat.testBit_and, hn i hi, Nat.zero_testBit] at this
    cases hxi : x.testBit i <;> cases hyi : y.testBit i <;> simp_all
  · intro h
    have : x &&& (18446744073709551615 - y) = 0 := by
      apply Nat.eq_of_testBit_eq
      intro i
      rw [Nat.testBit_and, Nat.zero_testBit]
      by_cases hi : i < 16
      · rw [hn i hi]
        rcases h i hi with h | h <;> rw [h] <;> simp
      · rw [Nat.testBit_lt_two_pow (Nat.lt_of_lt_of_le hx (Nat.pow_le_pow_right (by omega) (by omega))), Bool.false_and]
    rw [this]
    rfl

set_option maxHeartbeats 1000000 in
theorem choldsX_any (s1 s2 : Array Value) (S : Nat → Prop) (c : Cav) (u : Usx) (w : World) (h1 : lay_Caveat.rep w S c s1.toList) (h2 : lay_Use.rep w S u s2.toList) (hc : CavOk c) (hu : UseOk u) :
    Calls Try.prog 32 #[.agg s1, .agg s2] w fun e w' => e = .returned (.bool (hldB c u)) ∧ Below w.heap.size w w' := by
  obtain ⟨rfl, hw⟩ := agg_Caveat h1
  obtain ⟨rfl, hv⟩ := agg_Use h2
  clear h1 h2
  have bd := cav_bd hw
  have b1 := hu.1
  have b2 := hu.2.1
  have k1 := hc.1
  have k2 := hc.2.1
  clear hw hv hc hu
  obtain ⟨k, a, b⟩ := c
  obtain ⟨t, m, am, wh⟩ := u
  simp only at *
  have hb0 : Below w.heap.size w ((w.alloc (Obj.cells #[.int .i64 k, .int .u64 a, .int .u64 b] 24)).alloc (Obj.cells #[.int .u64 t, .int .i64 m, .int .u64 am, .int .u64 wh] 27)) := bel_alloc (bel_alloc (Below.refl _ _) _) _
  have V0 : Var3 ((w.alloc (Obj.cells #[.int .i64 k, .int .u64 a, .int .u64 b] 24)).alloc (Obj.cells #[.int .u64 t, .int .i64 m, .int .u64 am, .int .u64 wh] 27)) w.heap.size 24 (.int .i64 k) (.int .u64 a) (.int .u64 b) := heap_alloc2_old _ _ _
  have U0 : Var4 ((w.alloc (Obj.cells #[.int .i64 k, .int .u64 a, .int .u64 b] 24)).alloc (Obj.cells #[.int .u64 t, .int .i64 m, .int .u64 am, .int .u64 wh] 27)) (w.heap.size + 1) 27 (.int .u64 t) (.int .i64 m) (.int .u64 am) (.int .u64 wh) := alloc2_new _ _ _
  have q0 := V0.c0
  have q1 := V0.c1
  have i0 := U0.c0
  have i1 := U0.c1
  have i2 := U0.c2
  have i3 := U0.c3
  obtain ⟨r, hr⟩ : ∃ r, hldB ⟨k, a, b⟩ ⟨t, m, am, wh⟩ = r := ⟨_, rfl⟩
  rw [hr]
  have HR := hid hr
  clear hr V0 U0
  have HA := hid (and_one (shr_bd (m := m.toNat) (a := a) (by omega) (by omega)).1 (shr_bd (m := m.toNat) (a := a) (by omega) (by omega)).2)
  rcases (show k = 1 ∨ k = 2 ∨ k = 3 ∨ k = 4 ∨ k = 5 by omega) with hk | hk | hk | hk | hk
  · subst hk
    go_enter Try.func32, Try.ntmps32
    go_wp2
    go_ret
    exact ⟨ret_bool HR.out, hb0⟩
  · subst hk
    have e1 := HA.out
    go_enter Try.func32, Try.ntmps32
    go_wp2
    go_ret
    exact ⟨ret_bool HR.out, hb0⟩
  · subst hk
    go_enter Try.func32, Try.ntmps32
    go_wp2
    go_ret
    exact ⟨ret_bool HR.out, hb0⟩
  · subst hk
    go_enter Try.func32, Try.ntmps32
    go_wp2
    go_ret
    exact ⟨ret_bool HR.out, hb0⟩
  · subst hk
    go_enter Try.func32, Try.ntmps32
    go_wp2
    go_ret
    exact ⟨ret_bool HR.out, hb0⟩
end Go.Proofs.Ytikfdfdancgnpaa
