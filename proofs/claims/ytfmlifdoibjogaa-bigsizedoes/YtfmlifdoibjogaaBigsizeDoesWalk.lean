/-
  The walk of BigsizeDoes.
-/
import Derived.Test.YtfmlifdoibjogaaBigsizeRefAll
import Derived.Test.YtfmlifdoibjogaaBigsizeLive
import Derived.Test.YtfmlifdoibjogaaBigsizeSame
namespace Go.Proofs.Ytfmlifdoibjogaa
open Go.RowKit Go.WalkArith

/-- What both Gets tell. -/
def getT (xs : List Int) : Int × Int := if getE xs = 0 then (rdN xs, ((oct (rdN xs)).length : Nat)) else (0, 0)
theorem getT_any (A : Option Addr) (n c B : Nat) (xs : List Int) (w : World) (hr : Rd w B .u8 A n c xs) :
    Calls Try.prog 8 #[.slice A n c] w fun e w' => e = .returned (.tuple #[.int .u64 (getT xs).1, .int .i64 (getT xs).2, .int .i64 (getE xs)]) ∧ Below w.heap.size w w' := by
  by_cases he : getE xs = 0
  · refine (get_ok A n c B xs w hr he).mono fun e w' h => ⟨?_, h.2⟩
    rw [h.1, getT, if_pos he, he]
  · refine (get_bad A n c B xs w hr he).mono fun e w' h => ⟨?_, h.2⟩
    rw [h.1, getT, if_neg he]
theorem refGetT_any (A : Option Addr) (n c : Nat) (xs : List Int) (w : World) (hr : Rd w w.heap.size .u8 A n c xs) :
    Calls Try.prog 9 #[.slice A n c] w fun e w' => e = .returned (.tuple #[.int .u64 (getT xs).1, .int .i64 (getT xs).2, .int .i64 (getE xs)]) ∧ Below w.heap.size w w' := by
  by_cases he : getE xs = 0
  · refine (refGet_ok A n c xs w hr he).mono fun e w' h => ⟨?_, h.2⟩
    rw [h.1, getT, if_pos he, he]
  · refine (refGet_bad A n c xs w hr he).mono fun e w' h => ⟨?_, h.2⟩
    rw [h.1, getT, if_neg he]

set_option maxRecDepth 100000 in
set_option maxHeartbeats 2000000 in
theorem bigsizeDoes_walk (A0 : Option Addr) (n0 c0 : Nat) (x0 : List Int) (a1 : Int) (A2 : Option Addr) (n2 c2 : Nat) (x2 : List Int) (w : World) (r0 : Rd w w.heap.size .u64 A0 n0 c0 x0) (b1 : 0 ≤ a1 ∧ a1 ≤ 18446744073709551615) (r2 : Rd w w.heap.size .u8 A2 n2 c2 x2) :
    Calls Try.prog 3 #[.slice A0 n0 c0, .int .u64 a1, .slice A2 n2 c2] w fun e w' => e = .returned (.bool true) ∧ Below w.heap.size w w' := by
  have hc0 := r0.cap
  have hc2 := r2.cap
  unfold maxLen at hc0 hc2
  by_cases gq : 200 < n0 ∨ (2000 < n2 ∧ n2 ≤ 65535) ∨ 65540 < n2
  · rcases (show 200 < n0 ∨ (n0 ≤ 200 ∧ 2000 < n2 ∧ n2 ≤ 65535) ∨ (n0 ≤ 200 ∧ 65540 < n2) from by omega) with g | g | g
    · have g1 : decide ((200 : Int) < (n0 : Int)) = true := by simp; omega
      clear gq
      go_enter Try.func3, Try.ntmps3
      go_wp2_with (go_at_call 7; refine (live_any _).mono ?_; rintro e w1 ⟨rfl, hb1⟩)
      go_ret
      exact ⟨rfl, by (repeat (first | exact Below.refl _ _ | refine Below.drew ?_ | refine bel_drewN ?_ _ | refine bel_alloc ?_ _ | refine bel_call ?_ (by assumption)))⟩
    · have g1 : decide ((200 : Int) < (n0 : Int)) = false := by simp; omega
      have g2 : decide ((2000 : Int) < (n2 : Int)) = true := by simp; omega
      have g3 : decide ((n2 : Int) ≤ 65535) = true := by simp; omega
      clear gq
      go_enter Try.func3, Try.ntmps3
      go_wp2_with (go_at_call 7; refine (live_any _).mono ?_; rintro e w1 ⟨rfl, hb1⟩)
      go_ret
      exact ⟨rfl, by (repeat (first | exact Below.refl _ _ | refine Below.drew ?_ | refine bel_drewN ?_ _ | refine bel_alloc ?_ _ | refine bel_call ?_ (by assumption)))⟩
    · have g1 : decide ((200 : Int) < (n0 : Int)) = false := by simp; omega
      have g2 : decide ((2000 : Int) < (n2 : Int)) = true := by simp; omega
      have g3 : decide ((n2 : Int) ≤ 65535) = false := by simp; omega
      have g4 : decide ((65540 : Int) < (n2 : Int)) = true := by simp; omega
      clear gq
      go_enter Try.func3, Try.ntmps3
      go_wp2_with (go_at_call 7; refine (live_any _).mono ?_; rintro e w1 ⟨rfl, hb1⟩)
      go_ret
      exact ⟨rfl, by (repeat (first | exact Below.refl _ _ | refine Below.drew ?_ | refine bel_drewN ?_ _ | refine bel_alloc ?_ _ | refine bel_call ?_ (by assumption)))⟩
  have gn : n0 ≤ 200 := by omega
  have gs : (n2 ≤ 2000 ∨ 65535 < n2) ∧ n2 ≤ 65540 := by omega
  have g1 : decide ((200 : Int) < (n0 : Int)) = false := by simp; omega
  have g4 : decide ((65540 : Int) < (n2 : Int)) = false := by simp; omega
  have E0 := hid r0.len
  have E2 := hid r2.len
  clear gq
  have main : (decide ((2000 : Int) < (n2 : Int)) = false ∨ (decide ((2000 : Int) < (n2 : Int)) = true ∧ decide ((n2 : Int) ≤ 65535) = false)) := by
    rcases gs.1 with h | h
    · exact .inl (by simp; omega)
    · exact .inr ⟨by simp; omega, by simp; omega⟩
  have hw2 := fun x hx => bounds_u8 (r2.wf x hx)
  rcases main with g2 | ⟨g2, g3⟩
  all_goals
    go_enter Try.func3, Try.ntmps3
    go_wp2_with (go_at_call 7; refine (live_any _).mono ?_; rintro e w1 ⟨rfl, hb1⟩; have q0 := r0.below hb1; have q2 := r2.below hb1; have ks := q2.str (P := Try.prog) Try.underlying24 Try.underlying5 Try.underlying9)
    have HB1 : Below w.heap.size w w1 := hb1
    clear hb1 ks
    with_reducible refine (getT_any _ _ _ _ _ _ q2).mono ?_
    rintro e w2 ⟨rfl, hb2⟩
    have HB2 := bel_call HB1 hb2
    replace q0 := q0.below (hb2.mono HB1.size)
    replace q2 := q2.below (hb2.mono HB1.size)
    clear hb2 HB1
    go_wp2_with fail
    with_reducible refine (refGetT_any _ _ _ _ _ (q2.more HB2.size)).mono ?_
    rintro e w3 ⟨rfl, hb3⟩
    have HB3 := bel_call HB2 hb3
    replace q0 := q0.below (hb3.mono HB2.size)
    replace q2 := q2.below (hb3.mono HB2.size)
    clear hb3 HB2
    go_wp2_with fail
    with_reducible refine (all_any _ _ _ _ _ (q2.more HB3.size)).mono ?_
    rintro e w4 ⟨v4, rfl, hown4, hb4⟩
    have HB4 := bel_call HB3 hb4
    replace q0 := q0.below (hb4.mono HB3.size)
    replace q2 := q2.below (hb4.mono HB3.size)
    obtain ⟨A4, n4, c4, rfl, hr4⟩ := hown4.formN
    clear hb4 HB3 hown4
    go_wp2_with fail
    with_reducible refine (refAll_any _ _ _ _ _ (q2.more HB4.size)).mono ?_
    rintro e w5 ⟨v5, rfl, hown5, hb5⟩
    have HB5 := bel_call HB4 hb5
    replace q0 := q0.below (hb5.mono HB4.size)
    replace q2 := q2.below (hb5.mono HB4.size)
    replace hr4 := (hr4.below hb5).more hb5.size
    obtain ⟨A5, n5, c5, rfl, hr5⟩ := hown5.formN
    clear hb5 HB4 hown5
    go_wp2_with fail
    with_reducible refine (put_any _ _ _ _ _ (q0.more HB5.size) (by omega)).mono ?_
    rintro e w6 ⟨v6, rfl, hown6, hb6⟩
    have HB6 := bel_call HB5 hb6
    replace q0 := q0.below (hb6.mono HB5.size)
    replace q2 := q2.below (hb6.mono HB5.size)
    replace hr4 := (hr4.below hb6).more hb6.size
    replace hr5 := (hr5.below hb6).more hb6.size
    obtain ⟨A6, n6, c6, rfl, hr6⟩ := hown6.formN
    clear hb6 HB5 hown6
    go_wp2_with fail
    with_reducible refine (refPut_any _ _ _ _ _ (q0.more HB6.size) (by omega)).mono ?_
    rintro e w7 ⟨v7, rfl, hown7, hb7⟩
    have HB7 := bel_call HB6 hb7
    replace q2 := q2.below (hb7.mono HB6.size)
    replace hr4 := (hr4.below hb7).more hb7.size
    replace hr5 := (hr5.below hb7).more hb7.size
    replace hr6 := (hr6.below hb7).more hb7.size
    obtain ⟨A7, n7, c7, rfl, hr7⟩ := hown7.formN
    clear hb7 HB6 hown7 q0
    go_wp2_with fail
    with_reducible refine (sameBytes_any _ _ _ _ _ _ _ _ _ _ _ hr6 hr7).mono ?_
    rintro e w8 ⟨rfl, rfl⟩
    clear hr6 hr7
    have ht1 : decide (octs x0 = octs x0) = true := by simp
    have ht2 : decide ((allS x2).1 = (allS x2).1) = true := by simp
    go_wp2_with fail
    with_reducible refine (size_any _ _ b1.1).mono ?_
    rintro e w8 ⟨rfl, rfl⟩
    go_wp2_with fail
    with_reducible refine (refSize_any _ _ b1.1 b1.2).mono ?_
    rintro e w9 ⟨rfl, hb9⟩
    have HB9 := bel_call HB7 hb9
    replace q2 := q2.below (hb9.mono HB7.size)
    replace hr4 := (hr4.below hb9).more hb9.size
    replace hr5 := (hr5.below hb9).more hb9.size
    clear hb9 HB7
    go_wp2_with fail
    with_reducible refine (sameNumbers_any _ _ _ _ _ _ _ _ _ hr4 hr5).mono ?_
    rintro e w10 ⟨rfl, hb10⟩
    have HB10 := bel_call HB9 hb10
    have ks := (q2.below (hb10.mono HB9.size)).str (P := Try.prog) Try.underlying24 Try.underlying5 Try.underlying9
    clear hb10 HB9 hr4 hr5
    go_wp2
    go_ret
    exact ⟨rfl, HB10⟩
end Go.Proofs.Ytfmlifdoibjogaa
