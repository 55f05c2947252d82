/-
  The walk of TlvOrder.
-/
import Derived.Test.YtajgjalcomhhcaaTlvLive
import Derived.Test.YtajgjalcomhhcaaTlvWithLaws
namespace Go.Proofs.Ytajgjalcomhhcaa
open Go.RowKit Go.WalkArith

theorem rep_call {α : Type} {L : Lay α} {w w' : World} {x : α} {cs : List Value} (h : L.rep w (· < w.heap.size) x cs) (hb : Below w.heap.size w w') : L.rep w' (· < w'.heap.size) x cs :=
  L.wide (L.keep h fun _ hp => hb.cell hp) fun _ hb' => Nat.lt_of_lt_of_le hb' hb.size

set_option maxRecDepth 100000 in
set_option maxHeartbeats 2000000 in
theorem tlvOrder_walk (A0 : Option Addr) (n0 c0 : Nat) (x0 : List Rec) (s1 : Array Value) (x1 : Rec) (s2 : Array Value) (x2 : Rec) (w : World) (r0 : Sl lay_Record w (· < w.heap.size) A0 n0 c0 x0) (r1 : lay_Record.rep w (· < w.heap.size) x1 s1.toList) (r2 : lay_Record.rep w (· < w.heap.size) x2 s2.toList) :
    Calls Try.prog 8 #[.slice A0 n0 c0, .agg s1, .agg s2] w fun e w' => e = .returned (.bool true) ∧ Below w.heap.size w w' := by
  obtain ⟨A1, n1, c1, hcs, hT1, hV1⟩ := rep_Record.1 r1
  obtain rfl : s1 = #[.int .u64 x1.T, .slice A1 n1 c1] := Array.ext' hcs
  clear hcs
  obtain ⟨A2, n2, c2, hcs, hT2, hV2⟩ := rep_Record.1 r2
  obtain rfl : s2 = #[.int .u64 x2.T, .slice A2 n2 c2] := Array.ext' hcs
  have hc1 := hV1.cap
  have hc2 := hV2.cap
  unfold maxLen at hc1 hc2
  clear hcs
  have hb0 : Below w.heap.size w ((w.alloc (Obj.cells #[.int .u64 x1.T, .slice A1 n1 c1] 36)).alloc (Obj.cells #[.int .u64 x2.T, .slice A2 n2 c2] 36)) := bel_alloc (bel_alloc (Below.refl _ _) _) _
  have a1 : ((w.alloc (Obj.cells #[.int .u64 x1.T, .slice A1 n1 c1] 36)).alloc (Obj.cells #[.int .u64 x2.T, .slice A2 n2 c2] 36)).cell? ⟨w.heap.size, 0, none⟩ = some (.int .u64 x1.T) := by go_simp
  have a2 : ((w.alloc (Obj.cells #[.int .u64 x1.T, .slice A1 n1 c1] 36)).alloc (Obj.cells #[.int .u64 x2.T, .slice A2 n2 c2] 36)).cell? ⟨w.heap.size, 1, none⟩ = some (.slice A1 n1 c1) := by go_simp
  have a3 : ((w.alloc (Obj.cells #[.int .u64 x1.T, .slice A1 n1 c1] 36)).alloc (Obj.cells #[.int .u64 x2.T, .slice A2 n2 c2] 36)).cell? ⟨w.heap.size + 1, 0, none⟩ = some (.int .u64 x2.T) := by go_simp
  have a4 : ((w.alloc (Obj.cells #[.int .u64 x1.T, .slice A1 n1 c1] 36)).alloc (Obj.cells #[.int .u64 x2.T, .slice A2 n2 c2] 36)).cell? ⟨w.heap.size + 1, 1, none⟩ = some (.slice A2 n2 c2) := by go_simp
  have g1 : w.heap.size < ((w.alloc (Obj.cells #[.int .u64 x1.T, .slice A1 n1 c1] 36)).alloc (Obj.cells #[.int .u64 x2.T, .slice A2 n2 c2] 36)).heap.size := by simp; omega
  have g2 : w.heap.size + 1 < ((w.alloc (Obj.cells #[.int .u64 x1.T, .slice A1 n1 c1] 36)).alloc (Obj.cells #[.int .u64 x2.T, .slice A2 n2 c2] 36)).heap.size := by simp
  have q0 := r0.call hb0
  have p1 := rep_call r1 hb0
  have p2 := rep_call r2 hb0
  clear r0 r1 r2 hV1 hV2 hT1 hT2
  go_enter Try.func8, Try.ntmps8
  go_wp2_with fail
  generalize ((w.alloc (Obj.cells #[.int .u64 x1.T, .slice A1 n1 c1] 36)).alloc (Obj.cells #[.int .u64 x2.T, .slice A2 n2 c2] 36)) = W0 at *
  have HBa := Below.refl W0.heap.size W0
  have k1 := a1
  have k2 := a2
  have k3 := a3
  have k4 := a4
  with_reducible refine (live2_any _).mono ?_
  rintro e w1 ⟨rfl, hb1⟩
  have HB1 := bel_call HBa hb1
  replace q0 := q0.call hb1
  replace p1 := rep_call p1 hb1
  replace p2 := rep_call p2 hb1
  replace k1 := (HB1.cell (p := ⟨w.heap.size, 0, none⟩) g1).trans a1
  replace k2 := (HB1.cell (p := ⟨w.heap.size, 1, none⟩) g1).trans a2
  replace k3 := (HB1.cell (p := ⟨w.heap.size + 1, 0, none⟩) g2).trans a3
  replace k4 := (HB1.cell (p := ⟨w.heap.size + 1, 1, none⟩) g2).trans a4
  clear hb1 HBa
  go_wp2_with fail
  with_reducible refine (few_any _ _ _ _ _ q0).mono ?_
  rintro e w2 ⟨rfl, hb2⟩
  have HB2 := bel_call HB1 hb2
  replace q0 := q0.call hb2
  replace p1 := rep_call p1 hb2
  replace p2 := rep_call p2 hb2
  replace k1 := (HB2.cell (p := ⟨w.heap.size, 0, none⟩) g1).trans a1
  replace k2 := (HB2.cell (p := ⟨w.heap.size, 1, none⟩) g1).trans a2
  replace k3 := (HB2.cell (p := ⟨w.heap.size + 1, 0, none⟩) g2).trans a3
  replace k4 := (HB2.cell (p := ⟨w.heap.size + 1, 1, none⟩) g2).trans a4
  clear hb2 HB1
  have HBE := hid (bel_call hb0 HB2)
  by_cases hf : fewB x0 = true
  case neg =>
    have hf' : fewB x0 = false := by simpa using hf
    clear hf
    go_wp2
    go_ret
    exact ⟨rfl, HBE.out⟩
  by_cases h1 : 100 < n1
  · have d1 : decide ((100 : Int) < (n1 : Int)) = true := by simp; omega
    go_wp2
    go_ret
    exact ⟨rfl, HBE.out⟩
  have d1 : decide ((100 : Int) < (n1 : Int)) = false := by simp; omega
  by_cases h2 : 100 < n2
  · have d2 : decide ((100 : Int) < (n2 : Int)) = true := by simp; omega
    go_wp2
    go_ret
    exact ⟨rfl, HBE.out⟩
  have d2 : decide ((100 : Int) < (n2 : Int)) = false := by simp; omega
  by_cases hT : x1.T = x2.T
  · have d3 : (x1.T == x2.T) = true := by simpa using hT
    clear hT
    go_wp2
    go_ret
    exact ⟨rfl, HBE.out⟩
  have d3 : (x1.T == x2.T) = false := by simpa using hT
  have HT := hid hT
  clear hT HBE
  go_wp2_with fail
  with_reducible refine (tlvWith_any _ _ _ _ _ x1 _ q0 p1).mono ?_
  rintro e w3 ⟨v3, rfl, hown3, hb3⟩
  obtain ⟨A3, n3, c3, rfl, q3⟩ := hown3.read
  have HB3 := bel_call HB2 hb3
  replace q0 := q0.call hb3
  replace p1 := rep_call p1 hb3
  replace p2 := rep_call p2 hb3
  replace k1 := (HB3.cell (p := ⟨w.heap.size, 0, none⟩) g1).trans a1
  replace k2 := (HB3.cell (p := ⟨w.heap.size, 1, none⟩) g1).trans a2
  replace k3 := (HB3.cell (p := ⟨w.heap.size + 1, 0, none⟩) g2).trans a3
  replace k4 := (HB3.cell (p := ⟨w.heap.size + 1, 1, none⟩) g2).trans a4
  clear hb3 HB2
  go_wp2_with fail
  with_reducible refine (tlvWith_any _ _ _ _ _ x2 _ q0 p2).mono ?_
  rintro e w4 ⟨v4, rfl, hown4, hb4⟩
  obtain ⟨A4, n4, c4, rfl, q4⟩ := hown4.read
  have HB4 := bel_call HB3 hb4
  replace q0 := q0.call hb4
  replace p1 := rep_call p1 hb4
  replace p2 := rep_call p2 hb4
  replace q3 := q3.call hb4
  replace k1 := (HB4.cell (p := ⟨w.heap.size, 0, none⟩) g1).trans a1
  replace k2 := (HB4.cell (p := ⟨w.heap.size, 1, none⟩) g1).trans a2
  replace k3 := (HB4.cell (p := ⟨w.heap.size + 1, 0, none⟩) g2).trans a3
  replace k4 := (HB4.cell (p := ⟨w.heap.size + 1, 1, none⟩) g2).trans a4
  clear hb4 HB3
  have HBE := hid (bel_call hb0 HB4)
  clear hown3 hown4
  by_cases e1 : wE x0 x1 = 0
  case neg =>
    have d4 : (wE x0 x1 != 0) = true := by simpa using e1
    clear e1
    go_wp2
    go_ret
    exact ⟨rfl, HBE.out⟩
  by_cases e2 : wE x0 x2 = 0
  case neg =>
    have d4 : (wE x0 x2 != 0) = true := by simpa using e2
    have E1 := hid e1
    clear e2
    go_wp2
    go_ret
    exact ⟨rfl, HBE.out⟩
  obtain ⟨t1, t2, t3⟩ := w_order e1 e2 HT.out
  rw [(wE_zero e1).2.2.1] at q3
  rw [(wE_zero e2).2.2.1] at q4
  have T1 := hid t1
  have T2 := hid t2
  have T3 := hid t3
  clear t1 t2 t3 HBE
  go_wp2_with fail
  with_reducible refine (tlvWith_any _ _ _ _ _ x2 _ q3 p2).mono ?_
  rintro e w5 ⟨v5, rfl, hown5, hb5⟩
  obtain ⟨A5, n5, c5, rfl, q5⟩ := hown5.read
  have HB5 := bel_call HB4 hb5
  replace q0 := q0.call hb5
  replace p1 := rep_call p1 hb5
  replace p2 := rep_call p2 hb5
  replace q4 := q4.call hb5
  replace k1 := (HB5.cell (p := ⟨w.heap.size, 0, none⟩) g1).trans a1
  replace k2 := (HB5.cell (p := ⟨w.heap.size, 1, none⟩) g1).trans a2
  replace k3 := (HB5.cell (p := ⟨w.heap.size + 1, 0, none⟩) g2).trans a3
  replace k4 := (HB5.cell (p := ⟨w.heap.size + 1, 1, none⟩) g2).trans a4
  clear hb5 HB4
  go_wp2_with fail
  with_reducible refine (tlvWith_any _ _ _ _ _ x1 _ q4 p1).mono ?_
  rw [← T1.out, ← T2.out]
  rintro e w6 ⟨v6, rfl, hown6, hb6⟩
  obtain ⟨A6, n6, c6, rfl, q6⟩ := hown6.read
  have HB6 := bel_call HB5 hb6
  replace q0 := q0.call hb6
  replace p1 := rep_call p1 hb6
  replace p2 := rep_call p2 hb6
  replace q5 := q5.call hb6
  replace k1 := (HB6.cell (p := ⟨w.heap.size, 0, none⟩) g1).trans a1
  replace k2 := (HB6.cell (p := ⟨w.heap.size, 1, none⟩) g1).trans a2
  replace k3 := (HB6.cell (p := ⟨w.heap.size + 1, 0, none⟩) g2).trans a3
  replace k4 := (HB6.cell (p := ⟨w.heap.size + 1, 1, none⟩) g2).trans a4
  clear hb6 HB5
  have dd : ∀ l : List Rec, decide (l = l) = true := fun l => by simp
  generalize wE (putIn x0 x1) x2 = ee at *
  generalize wL (putIn x0 x1) x2 = ll at *
  have dl := dd ll
  have de : (ee == ee) = true := by simp
  clear dd q3 q4 hown5 hown6
  rcases T3.out with h | h
  · subst h
    go_wp2_with fail
    with_reducible refine (tlvSame_any _ _ _ _ _ _ _ _ _ q5 q6).mono ?_
    rintro e w7 ⟨rfl, hb7⟩
    have HBE := hid (bel_call hb0 (bel_call HB6 hb7))
    go_wp2
    go_ret
    exact ⟨rfl, HBE.out⟩
  · subst h
    go_wp2_with fail
    with_reducible refine (tlvSame_any _ _ _ _ _ _ _ _ _ q5 q6).mono ?_
    rintro e w7 ⟨rfl, hb7⟩
    have HBE := hid (bel_call hb0 (bel_call HB6 hb7))
    go_wp2
    go_ret
    exact ⟨rfl, HBE.out⟩
end Go.Proofs.Ytajgjalcomhhcaa
