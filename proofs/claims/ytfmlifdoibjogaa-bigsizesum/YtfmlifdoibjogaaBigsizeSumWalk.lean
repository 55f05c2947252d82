/-
  The walk of BigsizeSum.
-/
import Derived.Test.YtfmlifdoibjogaaBigsizeLive
import Derived.Test.YtfmlifdoibjogaaBigsizeSame
namespace Go.Proofs.Ytfmlifdoibjogaa
open Go.RowKit Go.WalkArith

theorem oct_len_cases (n : Int) : (oct n).length = 1 ∨ (oct n).length = 3 ∨ (oct n).length = 5 ∨ (oct n).length = 9 := by
  rw [oct_len]
  unfold bhd
  (repeat' split) <;> omega

set_option maxHeartbeats 1000000 in
theorem bigsizeSum_walk (A0 : Option Addr) (n0 c0 : Nat) (x0 : List Int) (A1 : Option Addr) (n1 c1 : Nat) (x1 : List Int) (w : World) (r0 : Rd w w.heap.size .u64 A0 n0 c0 x0) (r1 : Rd w w.heap.size .u64 A1 n1 c1 x1) :
    Calls Try.prog 6 #[.slice A0 n0 c0, .slice A1 n1 c1] w fun e w' => e = .returned (.bool true) ∧ Below w.heap.size w w' := by
  have hc0 := r0.cap
  have hc1 := r1.cap
  unfold maxLen at hc0 hc1
  by_cases g0 : 200 < n0
  · have g0' : (200 : Int) < n0 := by omega
    go_enter Try.func6, Try.ntmps6
    go_wp2_with (go_at_call 7; refine (live_any _).mono ?_; rintro e w1 ⟨rfl, hb1⟩)
    go_ret
    exact ⟨rfl, by (repeat (first | exact Below.refl _ _ | refine Below.drew ?_ | refine bel_drewN ?_ _ | refine bel_alloc ?_ _ | refine bel_call ?_ (by assumption)))⟩
  by_cases g1 : 200 < n1
  · have g1' : (200 : Int) < n1 := by omega
    go_enter Try.func6, Try.ntmps6
    go_wp2_with (go_at_call 7; refine (live_any _).mono ?_; rintro e w1 ⟨rfl, hb1⟩)
    go_ret
    exact ⟨rfl, by (repeat (first | exact Below.refl _ _ | refine Below.drew ?_ | refine bel_drewN ?_ _ | refine bel_alloc ?_ _ | refine bel_call ?_ (by assumption)))⟩
  have L0 := r0.len
  have L1 := r1.len
  have L0' : x0.length ≤ 200 := by omega
  have L1' : x1.length ≤ 200 := by omega
  have e0 := hid L0
  have e1 := hid L1
  clear L0 L1
  have d0 : decide ((200 : Int) < (n0 : Int)) = false := by simp; omega
  have d1 : decide ((200 : Int) < (n1 : Int)) = false := by simp; omega
  go_enter Try.func6, Try.ntmps6
  go_wp2_with (first | (go_at_call 7; refine (live_any _).mono ?_; rintro e w1 ⟨rfl, hb1⟩) | (at_builtin; refine wpList_cat rfl (.const (.slice none 0 0)) _ 22 rfl w1.heap.size 23 .u64 8 Try.underlying22 Try.infoU64 (.slice none 0 0) [] _ A0 n0 c0 x0 rfl rfl (Own.nil _ _ _ _) (r0.below hb1) (Nat.le_refl _) (by simp; omega) (by simp; omega) ?_; intro v2 w2 hown2 hext2; simp only [List.nil_append] at hown2) | (at_builtin; refine wpList_cat rfl (.tmp 21) _ 22 rfl w1.heap.size 23 .u64 8 Try.underlying22 Try.infoU64 v2 x0 _ A1 n1 c1 x1 rfl rfl hown2 (r1.below (hb1.trans (((Own.nil w1 w1.heap.size 23 .u64).below hext2 (Nat.le_refl _)).mono hb1.size))) hext2.size (by omega) (by omega) ?_; intro v3 w3 hown3 hext3; obtain ⟨A3, c3, rfl, hr3⟩ := hown3.form))
  rw [List.length_append] at hr3
  go_loop [5, 25] (fun s i => ∃ j : Nat, j ≤ x0.length + x1.length ∧ i = .int .i64 j ∧ s = .int .i64 (octs ((x0 ++ x1).take j)).length) (fun _ i => x0.length + x1.length - (intOf i).toNat)
  case atStart => exact ⟨0, Nat.zero_le _, rfl, rfl⟩
  case round =>
    obtain ⟨j, hj, rfl, rfl⟩ := hrel
    have hol := octs_len_le ((x0 ++ x1).take j)
    rw [List.length_take, List.length_append] at hol
    by_cases hlt : j < x0.length + x1.length
    · obtain ⟨b, off, rfl, hb, hcell⟩ := hr3.at_ (by omega)
      have hc := hcell j hlt
      have hX : j < (x0 ++ x1).length := by rw [List.length_append]; exact hlt
      have hn := bounds_u64 (hr3.wf (nth (x0 ++ x1) j) (nth_mem hX))
      have HT := hid (octs_take (x0 ++ x1) j hX)
      clear hcell hX
      generalize hx : nth (x0 ++ x1) j = x at *
      clear hx
      have hd0 := hn.1
      clear hn
      rcases oct_len_cases x with hk | hk | hk | hk
      all_goals
        go_wp2_with (go_at_call 15; go_must (refine (size_any x _ hd0).mono ?_; rintro e w4 ⟨rfl, rfl⟩))
        go_round
        case rel => exact ⟨j + 1, by omega, by go_num, by rw [HT.out, List.length_append, hk]; go_num⟩
        case measure => simp [intOf]; omega
    · have hje : j = x0.length + x1.length := by omega
      subst hje
      rw [List.take_of_length_le (by rw [List.length_append]; omega)]
      have b2 := (Own.nil w1 w1.heap.size 23 .u64).below hext2 (Nat.le_refl _)
      have b3 := hown2.below hext3 hext2.size
      have HB : Below w.heap.size w w3 := hb1.trans ((b2.trans b3).mono hb1.size)
      have q0 := r0.below HB
      have q1 := r1.below HB
      have hol2 := octs_len_le x0
      have hol3 := octs_len_le x1
      clear hr3 hown3 hext3 hown2 hext2 hb1 b2 b3 r0 r1 hol
      go_wp2_with (first | (at_builtin; refine wpList_cat rfl (.const (.slice none 0 0)) _ 22 rfl w3.heap.size 23 .u64 8 Try.underlying22 Try.infoU64 (.slice none 0 0) [] _ A0 n0 c0 x0 rfl rfl (Own.nil _ _ _ _) q0 (Nat.le_refl _) (by simp; omega) (by simp; omega) ?_; intro v4 w4 hown4 hext4; simp only [List.nil_append] at hown4) | (at_builtin; refine wpList_cat rfl (.tmp 50) _ 22 rfl w3.heap.size 23 .u64 8 Try.underlying22 Try.infoU64 v4 x0 _ A1 n1 c1 x1 rfl rfl hown4 (q1.below (((Own.nil w3 w3.heap.size 23 .u64).below hext4 (Nat.le_refl _)).mono HB.size)) hext4.size (by omega) (by omega) ?_; intro v5 w5 hown5 hext5; obtain ⟨A5, c5, rfl, hr5⟩ := hown5.form))
      have b4 := (Own.nil w3 w3.heap.size 23 .u64).below hext4 (Nat.le_refl _)
      have b5 := b4.trans (hown4.below hext5 hext4.size)
      have HB5 : Below w.heap.size w w5 := HB.trans (b5.mono HB.size)
      replace q0 := q0.below (b5.mono HB.size)
      replace q1 := q1.below (b5.mono HB.size)
      clear hown5 hown4 hext4 hext5 b4 b5 HB
      rw [List.length_append] at hr5
      with_reducible refine (put_any _ _ _ _ _ hr5 (by omega)).mono ?_
      rintro e w6 ⟨v6, rfl, hown6, hb6⟩
      obtain ⟨A6, c6, rfl, hr6⟩ := hown6.form
      replace q0 := q0.below (hb6.mono HB5.size)
      replace q1 := q1.below (hb6.mono HB5.size)
      have HB6 : Below w.heap.size w w6 := bel_call HB5 hb6
      have hz5 := HB6.size
      clear hown6 hr5 hb6 HB5
      go_wp2_with fail
      with_reducible refine (put_any _ _ _ _ _ (q0.more HB6.size) (by omega)).mono ?_
      rintro e w7 ⟨v7, rfl, hown7, hb7⟩
      replace q1 := q1.below (hb7.mono HB6.size)
      replace hr6 := hr6.below hb7
      have HB7 : Below w.heap.size w w7 := bel_call HB6 hb7
      have hz6 := hb7.size
      clear hb7 HB6 q0
      go_wp2_with fail
      with_reducible refine (put_any _ _ _ _ _ (q1.more HB7.size) (by omega)).mono ?_
      rintro e w8 ⟨v8, rfl, hown8, hb8⟩
      replace hr6 := hr6.below (hb8.mono hz6)
      replace hown7 := hown7.below_all hb8
      have hz7 := hb8.size
      have HB8 : Below w.heap.size w w8 := bel_call HB7 hb8
      obtain ⟨A8, c8, rfl, hr8⟩ := hown8.form
      clear hb8 hown8 q1
      go_wp2_with (at_builtin; go_must (refine wpList_cat (by go_simp) _ _ 24 rfl w6.heap.size 5 .u8 1 Try.underlying24 Try.infoU8 v7 (octs x0) _ A8 _ c8 (octs x1) rfl rfl hown7 hr8 (by omega) (by omega) (by omega) ?_; intro v9 w9 hown9 hext9; obtain ⟨A9, c9, rfl, hr9⟩ := hown9.form))
      have b9 := hown7.below hext9 (by omega)
      rw [List.length_append] at hr9
      with_reducible refine (sameBytes_any _ _ _ _ _ _ _ _ _ _ _ (hr6.below b9) hr9).mono ?_
      rintro e w10 ⟨rfl, rfl⟩
      have HB9 : Below w.heap.size w w9 := HB8.trans (b9.mono (by omega))
      go_wp2
      go_ret
      exact ⟨by simp [octs_append], HB9⟩
end Go.Proofs.Ytfmlifdoibjogaa
