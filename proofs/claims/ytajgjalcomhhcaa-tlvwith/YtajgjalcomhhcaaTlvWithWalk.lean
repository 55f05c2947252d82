/-
  The walk of TlvWith.
-/
import Derived.Test.YtajgjalcomhhcaaTlvLive
import Derived.Test.YtajgjalcomhhcaaTlvWithLaws
import Derived.Test.YtajgjalcomhhcaaTlvOrderWalk
namespace Go.Proofs.Ytajgjalcomhhcaa
open Go.RowKit Go.WalkArith

set_option maxRecDepth 100000 in
set_option maxHeartbeats 2000000 in
theorem tlvWith_walk (A0 : Option Addr) (n0 c0 : Nat) (x0 : List Rec) (s1 : Array Value) (x1 : Rec) (a2 : Int) (w : World) (r0 : Sl lay_Record w (· < w.heap.size) A0 n0 c0 x0) (r1 : lay_Record.rep w (· < w.heap.size) x1 s1.toList) (_b2 : 0 ≤ a2 ∧ a2 ≤ 18446744073709551615) :
    Calls Try.prog 7 #[.slice A0 n0 c0, .agg s1, .int .u64 a2] w fun e w' => e = .returned (.bool true) ∧ Below w.heap.size w w' := by
  obtain ⟨A1, n1, c1, hcs, hT1, hV1⟩ := rep_Record.1 r1
  obtain rfl : s1 = #[.int .u64 x1.T, .slice A1 n1 c1] := Array.ext' hcs
  have hc1 := hV1.cap
  unfold maxLen at hc1
  clear hcs
  have hb0 : Below w.heap.size w (w.alloc (Obj.cells #[.int .u64 x1.T, .slice A1 n1 c1] 36)) := bel_alloc (Below.refl _ _) _
  have a1 : (w.alloc (Obj.cells #[.int .u64 x1.T, .slice A1 n1 c1] 36)).cell? ⟨w.heap.size, 0, none⟩ = some (.int .u64 x1.T) := by go_simp
  have a2' : (w.alloc (Obj.cells #[.int .u64 x1.T, .slice A1 n1 c1] 36)).cell? ⟨w.heap.size, 1, none⟩ = some (.slice A1 n1 c1) := by go_simp
  have g1 : w.heap.size < (w.alloc (Obj.cells #[.int .u64 x1.T, .slice A1 n1 c1] 36)).heap.size := by simp
  have q0 := r0.call hb0
  have p1 := rep_call r1 hb0
  have R0 := ((hV1.rd (B := w.heap.size) fun _ h => h).below hb0).more hb0.size
  have HTT := hid (bounds_u64 hT1).1
  have HB2' := hid _b2.1
  clear r0 r1 hV1 hT1
  go_enter Try.func7, Try.ntmps7
  go_wp2_with fail
  generalize (w.alloc (Obj.cells #[.int .u64 x1.T, .slice A1 n1 c1] 36)) = W0 at *
  have HBa := Below.refl W0.heap.size W0
  have k1 := a1
  have k2 := a2'
  with_reducible refine (live2_any _).mono ?_
  rintro e w1 ⟨rfl, hb1⟩
  have HB1 := bel_call HBa hb1
  replace q0 := q0.call hb1
  replace p1 := rep_call p1 hb1
  replace R0 := (R0.below hb1).more hb1.size
  replace k1 := (HB1.cell (p := ⟨w.heap.size, 0, none⟩) g1).trans a1
  replace k2 := (HB1.cell (p := ⟨w.heap.size, 1, none⟩) g1).trans a2'
  clear hb1 HBa
  go_wp2_with fail
  with_reducible refine (few_any _ _ _ _ _ q0).mono ?_
  rintro e w2 ⟨rfl, hb2⟩
  have HB2 := bel_call HB1 hb2
  replace q0 := q0.call hb2
  replace p1 := rep_call p1 hb2
  replace R0 := (R0.below hb2).more hb2.size
  replace k1 := (HB2.cell (p := ⟨w.heap.size, 0, none⟩) g1).trans a1
  replace k2 := (HB2.cell (p := ⟨w.heap.size, 1, none⟩) g1).trans a2'
  clear hb2 HB1
  have HBE := hid (bel_call hb0 HB2)
  by_cases hf : fewB x0 = true
  case neg =>
    have hf' : fewB x0 = false := by simpa using hf
    clear hf
    go_wp2
    go_ret
    exact ⟨rfl, HBE.out⟩
  by_cases h1 : 100 < n1
  · have d1 : decide ((100 : Int) < (n1 : Int)) = true := by simp; omega
    go_wp2
    go_ret
    exact ⟨rfl, HBE.out⟩
  have d1 : decide ((100 : Int) < (n1 : Int)) = false := by simp; omega
  clear HBE
  go_wp2_with fail
  with_reducible refine (tlvWith_any _ _ _ _ _ x1 _ q0 p1).mono ?_
  rintro e w3 ⟨v3, rfl, hown3, hb3⟩
  obtain ⟨A3, n3, c3, rfl, q3⟩ := hown3.read
  have hl3 := q3.len
  have HB3 := bel_call HB2 hb3
  replace q0 := q0.call hb3
  replace p1 := rep_call p1 hb3
  replace R0 := (R0.below hb3).more hb3.size
  replace k1 := (HB3.cell (p := ⟨w.heap.size, 0, none⟩) g1).trans a1
  replace k2 := (HB3.cell (p := ⟨w.heap.size, 1, none⟩) g1).trans a2'
  clear hb3 HB2
  by_cases e1 : wE x0 x1 = 0
  case neg =>
    have d4 : (wE x0 x1 != 0) = true := by simpa using e1
    rw [wL_err e1] at hl3
    have hn3 : n3 = 0 := hl3.symm
    subst hn3
    have HBE := hid (bel_call hb0 HB3)
    clear e1 hl3
    go_wp2
    go_ret
    exact ⟨rfl, HBE.out⟩
  rw [(wE_zero e1).2.2.1] at q3
  have F1 := hid (find_with e1)
  have F2 := hid (wE_twice e1)
  have F3 := hid (fun h => find_with_ne (t := a2) e1 h)
  have F4 := hid (chk_ok (wE_zero e1).2.2.2)
  generalize putIn x0 x1 = m at *
  clear hl3 hown3
  go_wp2_with fail
  with_reducible refine (tlvFind_any _ _ _ _ _ _ q3 HTT.out).mono ?_
  rw [F1.out.1, F1.out.2]
  rintro e w4 ⟨v4, rfl, hown4, hb4⟩
  obtain ⟨A4, n4, c4, rfl, q4⟩ := hown4.formN
  have HB4 := bel_call HB3 hb4
  replace q0 := q0.call hb4
  replace p1 := rep_call p1 hb4
  replace q3 := q3.call hb4
  replace R0 := (R0.below hb4).more hb4.size
  replace k1 := (HB4.cell (p := ⟨w.heap.size, 0, none⟩) g1).trans a1
  replace k2 := (HB4.cell (p := ⟨w.heap.size, 1, none⟩) g1).trans a2'
  clear hb4 HB3
  go_wp2_with fail
  with_reducible refine (tlvWith_any _ _ _ _ _ x1 _ q3 p1).mono ?_
  rw [F2.out.1, F2.out.2]
  rintro e w5 ⟨v5, rfl, hown5, hb5⟩
  obtain ⟨A5, n5, c5, rfl, q5⟩ := hown5.read
  have HB5 := bel_call HB4 hb5
  replace q0 := q0.call hb5
  replace p1 := rep_call p1 hb5
  replace q3 := q3.call hb5
  replace R0 := (R0.below hb5).more hb5.size
  replace q4 := (q4.below hb5).more hb5.size
  replace k1 := (HB5.cell (p := ⟨w.heap.size, 0, none⟩) g1).trans a1
  replace k2 := (HB5.cell (p := ⟨w.heap.size, 1, none⟩) g1).trans a2'
  clear hb5 HB4
  go_wp2_with fail
  with_reducible refine (tlvFind_any _ _ _ _ _ _ q0 HB2'.out).mono ?_
  rintro e w6 ⟨v6, rfl, hown6, hb6⟩
  obtain ⟨A6, n6, c6, rfl, q6⟩ := hown6.formN
  have HB6 := bel_call HB5 hb6
  replace q0 := q0.call hb6
  replace p1 := rep_call p1 hb6
  replace q3 := q3.call hb6
  replace q5 := q5.call hb6
  replace R0 := (R0.below hb6).more hb6.size
  replace q4 := (q4.below hb6).more hb6.size
  replace k1 := (HB6.cell (p := ⟨w.heap.size, 0, none⟩) g1).trans a1
  replace k2 := (HB6.cell (p := ⟨w.heap.size, 1, none⟩) g1).trans a2'
  clear hb6 HB5
  go_wp2_with fail
  with_reducible refine (tlvFind_any _ _ _ _ _ _ q3 HB2'.out).mono ?_
  rintro e w7 ⟨v7, rfl, hown7, hb7⟩
  obtain ⟨A7, n7, c7, rfl, q7⟩ := hown7.formN
  have HB7 := bel_call HB6 hb7
  replace q0 := q0.call hb7
  replace p1 := rep_call p1 hb7
  replace q3 := q3.call hb7
  replace q5 := q5.call hb7
  replace R0 := (R0.below hb7).more hb7.size
  replace q4 := (q4.below hb7).more hb7.size
  replace q6 := (q6.below hb7).more hb7.size
  replace k1 := (HB7.cell (p := ⟨w.heap.size, 0, none⟩) g1).trans a1
  replace k2 := (HB7.cell (p := ⟨w.heap.size, 1, none⟩) g1).trans a2'
  clear hb7 HB6
  clear hown4 hown5 hown6 hown7
  have dv : decide (x1.V = x1.V) = true := by simp
  have dm : decide (m = m) = true := by simp
  by_cases ht : a2 = x1.T
  · have dt : (a2 == x1.T) = true := by simpa using ht
    clear ht
    go_wp2_with fail
    with_reducible refine (sameBytes_any _ _ _ _ _ _ _ _ _ _ _ q4 R0).mono ?_
    rintro e w8 ⟨rfl, rfl⟩
    go_wp2_with fail
    with_reducible refine (tlvSame_any _ _ _ _ _ _ _ _ _ q5 q3).mono ?_
    rintro e w8 ⟨rfl, hb8⟩
    have HB8 := bel_call HB7 hb8
    replace q3 := q3.call hb8
    replace k1 := (HB8.cell (p := ⟨w.heap.size, 0, none⟩) g1).trans a1
    go_wp2_with fail
    with_reducible refine (tlvCheck_any _ _ _ _ _ q3).mono ?_
    rw [F4.out]
    rintro e w9 ⟨rfl, hb9⟩
    have HB9 := bel_call HB8 hb9
    replace k1 := (HB9.cell (p := ⟨w.heap.size, 0, none⟩) g1).trans a1
    have HBE := hid (bel_call hb0 HB9)
    go_wp2
    go_ret
    exact ⟨rfl, HBE.out⟩
  · have dt : (a2 == x1.T) = false := by simpa using ht
    obtain ⟨f3, f4⟩ := F3.out ht
    rw [f3]
    rw [f4] at q7
    clear ht f3 f4
    generalize fE x0 a2 = ee at *
    generalize fV x0 a2 = vv at *
    have de : (ee == ee) = true := by simp
    have dw : decide (vv = vv) = true := by simp
    go_wp2_with fail
    with_reducible refine (sameBytes_any _ _ _ _ _ _ _ _ _ _ _ q4 R0).mono ?_
    rintro e w8 ⟨rfl, rfl⟩
    go_wp2_with fail
    with_reducible refine (tlvSame_any _ _ _ _ _ _ _ _ _ q5 q3).mono ?_
    rintro e w8 ⟨rfl, hb8⟩
    have HB8 := bel_call HB7 hb8
    replace q3 := q3.call hb8
    replace q6 := (q6.below hb8).more hb8.size
    replace q7 := (q7.below hb8).more hb8.size
    replace k1 := (HB8.cell (p := ⟨w.heap.size, 0, none⟩) g1).trans a1
    go_wp2_with fail
    with_reducible refine (tlvCheck_any _ _ _ _ _ q3).mono ?_
    rw [F4.out]
    rintro e w9 ⟨rfl, hb9⟩
    have HB9 := bel_call HB8 hb9
    replace q6 := (q6.below hb9).more hb9.size
    replace q7 := (q7.below hb9).more hb9.size
    replace k1 := (HB9.cell (p := ⟨w.heap.size, 0, none⟩) g1).trans a1
    have HBE := hid (bel_call hb0 HB9)
    go_wp2_with fail
    with_reducible refine (sameBytes_any _ _ _ _ _ _ _ _ _ _ _ q6 q7).mono ?_
    rintro e w10 ⟨rfl, rfl⟩
    go_wp2
    go_ret
    exact ⟨rfl, HBE.out⟩
end Go.Proofs.Ytajgjalcomhhcaa
