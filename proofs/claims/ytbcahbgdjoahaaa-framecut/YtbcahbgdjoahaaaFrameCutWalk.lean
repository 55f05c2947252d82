/-
  The walk of FrameCut.
-/
import Derived.Test.YtbcahbgdjoahaaaFrameFeedLaw
namespace Go.Proofs.Ytbcahbgdjoahaaa
open Go.RowKit Go.WalkArith

set_option maxRecDepth 100000 in
set_option maxHeartbeats 2000000 in
theorem frameCut_walk (s0 : Array Value) (x0 : Rdr) (A1 : Option Addr) (n1 c1 : Nat) (x1 : List Int) (A2 : Option Addr) (n2 c2 : Nat) (x2 : List Int) (w : World) (r0 : lay_Reader.rep w (· < w.heap.size) x0 s0.toList) (r1 : Rd w w.heap.size .u8 A1 n1 c1 x1) (r2 : Rd w w.heap.size .u8 A2 n2 c2 x2) :
    Calls Try.prog 4 #[.agg s0, .slice A1 n1 c1, .slice A2 n2 c2] w fun e w' => e = .returned (.bool true) ∧ Below w.heap.size w w' := by
  obtain ⟨A0, n0, c0, hcs, hV⟩ := rep_Reader.1 r0
  obtain rfl : s0 = #[.slice A0 n0 c0, .bool x0.Bad] := Array.ext' hcs
  have hc0 := hV.cap
  have hc1 := r1.cap
  have hc2 := r2.cap
  unfold maxLen at hc0 hc1 hc2
  have HL1 := hid r1.len
  have O0 := hid (oct_of (hV.rd (B := w.heap.size) fun _ h => h))
  have O1 := hid (oct_of r1)
  have hb0 : Below w.heap.size w (w.alloc (Obj.cells #[.slice A0 n0 c0, .bool x0.Bad] 24)) := bel_alloc (Below.refl _ _) _
  have V0 := Var2.new w 24 (.slice A0 n0 c0) (.bool x0.Bad)
  have P0 := hid (rep_at r0 hb0)
  have R1 := hid ((r1.below hb0).more hb0.size)
  have R2 := hid ((r2.below hb0).more hb0.size)
  clear r0 r1 r2 hV hcs
  go_enter Try.func4, Try.ntmps4
  go_wp2_with fail
  generalize (w.alloc (Obj.cells #[.slice A0 n0 c0, .bool x0.Bad] 24)) = W0 at *
  have RW1 := hid (fun (W : World) (h : Below W0.heap.size W0 W) => (R1.out.below h).more h.size)
  have RW2 := hid (fun (W : World) (h : Below W0.heap.size W0 W) => (R2.out.below h).more h.size)
  with_reducible refine (live3_any _).mono ?_
  rintro e w1 ⟨rfl, hb1⟩
  have HB := hb1
  clear hb1
  have k0 := (V0.call HB).c0
  have k1 := (V0.call HB).c1
  have HBE := hid (bel_call hb0 HB)
  by_cases h5 : 200 < n0 ∨ 2000 < n1 ∨ 300 < n2
  · rcases Nat.lt_or_ge 200 n0 with h6 | h6
    · have d5 : decide ((200 : Int) < (n0 : Int)) = true := by simp; omega
      go_wp2
      go_ret
      exact ⟨rfl, HBE.out⟩
    · have d5 : decide ((200 : Int) < (n0 : Int)) = false := by simp; omega
      rcases Nat.lt_or_ge 2000 n1 with h7 | h7
      · have d6 : decide ((2000 : Int) < (n1 : Int)) = true := by simp; omega
        go_wp2
        go_ret
        exact ⟨rfl, HBE.out⟩
      · have d6 : decide ((2000 : Int) < (n1 : Int)) = false := by simp; omega
        have d7 : decide ((300 : Int) < (n2 : Int)) = true := by simp; omega
        go_wp2
        go_ret
        exact ⟨rfl, HBE.out⟩
  have d5 : decide ((200 : Int) < (n0 : Int)) = false := by simp; omega
  have d6 : decide ((2000 : Int) < (n1 : Int)) = false := by simp; omega
  have d7 : decide ((300 : Int) < (n2 : Int)) = false := by simp; omega
  have hn1 : n1 ≤ 2000 := by omega
  have hn2 : n2 ≤ 300 := by omega
  clear h5 HBE
  go_wp2_with fail
  with_reducible refine (frameFeed_any _ x0 _ _ _ x1 _ (rep_at P0.out HB) (RW1.out _ HB)).mono ?_
  rintro e w3 ⟨A3, n3, c3, v3, rfl, hs3, hown3, hb3⟩
  obtain ⟨A4, n4, c4, rfl, q4⟩ := hown3.read
  by_cases hk : RdrOk x0
  case neg =>
    have HE := hid (show fdE x0 x1 = 1 from if_pos hk)
    have HL := hid (show fdL x0 x1 = [] from if_neg (by rw [HE.out]; decide))
    rw [HL.out] at q4
    have hn4 : n4 = 0 := q4.len.symm
    subst hn4
    rw [HE.out]
    have HC := hid (chkF_no hk)
    generalize (fdR x0 x1).Bad = b3 at *
    have hba := bel_alloc (Below.refl w3.heap.size w3) (Obj.cells #[.slice A3 n3 c3, .bool b3] 24)
    have hgw := Nat.lt_of_lt_of_le (Nat.lt_of_lt_of_le V0.lt HB.size) hb3.size
    replace HB := bel_call (bel_call HB hb3) hba
    have PX := hid (rep_at P0.out HB)
    have m0 := (V0.call HB).c0
    have m1 := (V0.call HB).c1
    clear hk q4 hs3 hown3 hb3 hba k0 k1
    go_wp2_with fail
    with_reducible refine (frameCheck_any _ x0 _ PX.out).mono ?_
    rw [HC.out]
    rintro e w4 ⟨rfl, hb4⟩
    have HBE := hid (bel_call hb0 (bel_call HB hb4))
    go_wp2
    go_ret
    exact ⟨rfl, HBE.out⟩
  obtain ⟨g1, g2, g3⟩ := fd_ok (xs := x1) hk (by rw [HL1.out]; omega)
  have HF := hid (And.intro g1 (And.intro g2 g3))
  have HOK := hid (feedS_ok x1 x0 hk O0.out O1.out).1
  have HK := hid hk
  rw [HF.out.2.1] at hs3
  rw [HF.out.2.2] at q4
  rw [HF.out.1, HF.out.2.1]
  clear g1 g2 g3 hk hown3
  have hba := bel_alloc (Below.refl w3.heap.size w3) (Obj.cells #[.slice A3 n3 c3, .bool (feedS x0 x1).1.Bad] 24)
  have V3 := Var2.new w3 24 (.slice A3 n3 c3) (.bool (feedS x0 x1).1.Bad)
  have PX := hid (rep_at (show lay_Reader.rep w3 (· < w3.heap.size) (feedS x0 x1).1 (#[.slice A3 n3 c3, .bool (feedS x0 x1).1.Bad] : Array Value).toList from rep_Reader.2 ⟨A3, n3, c3, rfl, hs3.wide fun _ hb => hb.2.1⟩) hba)
  have Q4 := hid (q4.call hba)
  have hgw := Nat.lt_of_lt_of_le V0.lt HB.size
  replace HB := bel_call (bel_call HB hb3) hba
  have m0 := (V0.call HB).c0
  have m1 := (V0.call HB).c1
  have hgw3 : w.heap.size < w3.heap.size := Nat.lt_of_lt_of_le hgw hb3.size
  clear hs3 hb3 hba q4 k0 k1
  generalize hG : (feedS x0 x1).1.Bad = b3 at *
  have HG := hid hG
  clear hG
  go_wp2_with fail
  generalize (w3.alloc (Obj.cells #[.slice A3 n3 c3, .bool b3] 24)) = W3 at *
  with_reducible refine (feedLaw_any _ x0 _ _ _ x1 _ _ _ x2 _ (rep_at P0.out HB) (RW1.out _ HB) (RW2.out _ HB) HK.out hn1 hn2).mono ?_
  rintro e w5 ⟨A5, n5, c5, v5, rfl, hs5, hown5, hb5⟩
  obtain ⟨A6, n6, c6, rfl, q6⟩ := hown5.read
  rw [HG.out]
  have hba := bel_alloc (Below.refl w5.heap.size w5) (Obj.cells #[.slice A5 n5 c5, .bool b3] 24)
  have V5 := Var2.new w5 24 (.slice A5 n5 c5) (.bool b3)
  have PY := hid (rep_at (show lay_Reader.rep w5 (· < w5.heap.size) (feedS x0 x1).1 (#[.slice A5 n5 c5, .bool b3] : Array Value).toList from rep_Reader.2 ⟨A5, n5, c5, by rw [HG.out], hs5⟩) hba)
  have hB5 := bel_call hb5 hba
  have PX5 := hid (rep_at PX.out hB5)
  have Q45 := hid (Q4.out.call hB5)
  have Q65 := hid (q6.call hba)
  have hgw5 := Nat.lt_of_lt_of_le V3.lt hb5.size
  replace HB := bel_call HB hB5
  have l0 := (V3.call hB5).c0
  have l1 := (V3.call hB5).c1
  clear hs5 hown5 hb5 hba q6 m0 m1
  have hlt3 := Nat.lt_of_lt_of_le V3.lt hB5.size
  by_cases hz : n1 = 0
  · subst hz
    go_wp2_with fail
    generalize (w5.alloc (Obj.cells #[.slice A5 n5 c5, .bool b3] 24)) = W5 at *
    with_reducible refine (sameTexts_any _ _ _ _ _ _ _ _ _ Q45.out Q65.out).mono ?_
    rw [decide_eq_true (show (feedS x0 x1).2 = (feedS x0 x1).2 from rfl)]
    rintro e w8 ⟨rfl, hb8⟩
    have HBX := bel_call HB hb8
    have i0 := (hb8.cell (p := ⟨w3.heap.size, 0, none⟩) hlt3).trans l0
    have i1 := (hb8.cell (p := ⟨w3.heap.size, 1, none⟩) hlt3).trans l1
    have PZ := hid (rep_at PX5.out hb8)
    clear hb8
    go_wp2_with fail
    with_reducible refine (frameCheck_any _ (feedS x0 x1).1 _ PZ.out).mono ?_
    rw [chkF_ok HOK.out]
    rintro e w9 ⟨rfl, hb9⟩
    have HBE := hid (bel_call hb0 (bel_call HBX hb9))
    go_wp2
    go_ret
    exact ⟨rfl, HBE.out⟩
  · have dz : ((n1 : Int) == 0) = false := by simp; omega
    go_wp2_with fail
    generalize (w5.alloc (Obj.cells #[.slice A5 n5 c5, .bool b3] 24)) = W5 at *
    with_reducible refine (frameSame_any _ _ (feedS x0 x1).1 (feedS x0 x1).1 _ PX5.out PY.out).mono ?_
    rw [decide_eq_true (show (feedS x0 x1).1 = (feedS x0 x1).1 from rfl)]
    rintro e w7 ⟨rfl, hb7⟩
    replace HB := bel_call HB hb7
    have Q47 := hid (Q45.out.call hb7)
    have Q67 := hid (Q65.out.call hb7)
    have PX7 := hid (rep_at PX5.out hb7)
    replace l0 := (hb7.cell (p := ⟨w3.heap.size, 0, none⟩) hlt3).trans l0
    replace l1 := (hb7.cell (p := ⟨w3.heap.size, 1, none⟩) hlt3).trans l1
    replace hlt3 := Nat.lt_of_lt_of_le hlt3 hb7.size
    clear hb7
    go_wp2_with fail
    with_reducible refine (sameTexts_any _ _ _ _ _ _ _ _ _ Q47.out Q67.out).mono ?_
    rw [decide_eq_true (show (feedS x0 x1).2 = (feedS x0 x1).2 from rfl)]
    rintro e w8 ⟨rfl, hb8⟩
    have HBX := bel_call HB hb8
    have i0 := (hb8.cell (p := ⟨w3.heap.size, 0, none⟩) hlt3).trans l0
    have i1 := (hb8.cell (p := ⟨w3.heap.size, 1, none⟩) hlt3).trans l1
    have PZ := hid (rep_at PX7.out hb8)
    clear hb8
    go_wp2_with fail
    with_reducible refine (frameCheck_any _ (feedS x0 x1).1 _ PZ.out).mono ?_
    rw [chkF_ok HOK.out]
    rintro e w9 ⟨rfl, hb9⟩
    have HBE := hid (bel_call hb0 (bel_call HBX hb9))
    go_wp2
    go_ret
    exact ⟨rfl, HBE.out⟩
end Go.Proofs.Ytbcahbgdjoahaaa
