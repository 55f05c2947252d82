/-
  The walk of InvoiceOnce.
-/
import Derived.Test.YtannjlejghmfpaaInvoiceSpec
import Derived.Test.YtannjlejghmfpaaBox
import Derived.Deep.Cut
import Derived.Deep.CutRange
namespace Go.Proofs.Ytannjlejghmfpaa
open Go.RowKit Go.WalkArith

set_option maxRecDepth 100000 in
set_option maxHeartbeats 4000000 in
theorem invoiceOnce_walkH (HI : InvoiceSpec) (A0 : Option Addr) (n0 c0 : Nat) (x0 : List Inv) (a1 a2 a3 a4 : Int) (w : World) (r0 : Sl lay_Invoice w (· < w.heap.size) A0 n0 c0 x0) (b1 : 0 ≤ a1 ∧ a1 ≤ 18446744073709551615) (b2 : 0 ≤ a2 ∧ a2 ≤ 18446744073709551615) (b3 : 0 ≤ a3 ∧ a3 ≤ 18446744073709551615) (b4 : 0 ≤ a4 ∧ a4 ≤ 18446744073709551615) :
    Calls Try.prog 4 #[.slice A0 n0 c0, .int .u64 a1, .int .u64 a2, .int .u64 a3, .int .u64 a4] w fun e w' => e = .returned (.bool true) ∧ Below w.heap.size w w' := by
  have V1 := wf_u64 b1
  have V2 := wf_u64 b2
  have V3 := wf_u64 b3
  have V4 := wf_u64 b4
  have HL0 := hid r0.len
  have hc0 := r0.cap
  unfold maxLen at hc0
  have KA := hid (fun (W : World) (h : Below w.heap.size w W) => Sl.call r0 h)
  clear r0
  have HB := Below.refl w.heap.size w
  go_enter Try.func4, Try.ntmps4
  go_wp2_with fail
  with_reducible refine (live12_any HI _).mono ?_
  rintro e w1 ⟨rfl, hb⟩
  replace HB := bel_call HB hb
  clear hb
  go_wp2_with fail
  with_reducible refine (fewI_any _ n0 c0 _ (by unfold maxLen; omega)).mono ?_
  rintro e w2 ⟨rfl, hb⟩
  replace HB := bel_call HB hb
  clear hb
  cases hfew : fewI n0
  · go_wp2
    go_ret
    exact ⟨rfl, HB⟩
  have HFW := hid hfew
  clear hfew
  by_cases hp : pyE x0 a1 a2 a3 = 0
  rotate_left
  · obtain ⟨q1, q2⟩ := once_no hp
    have QL := hid q1
    clear q1
    obtain ⟨e0, he0⟩ : ∃ z, stE x0 a1 = z := ⟨_, rfl⟩
    have Qe0 := hid he0
    clear he0
    obtain ⟨s0, hs0⟩ : ∃ z, stV x0 a1 a3 = z := ⟨_, rfl⟩
    have Qs0 := hid hs0
    clear hs0
    obtain ⟨f0, hf0⟩ : ∃ z, pyE x0 a1 a2 a3 = z := ⟨_, rfl⟩
    have Qf0 := hid hf0
    clear hf0
    rw [Qe0.out, Qs0.out, Qf0.out] at q2
    rw [Qf0.out] at hp
    have HQ := hid q2
    have d1 : (f0 != 0) = true := by simpa using hp
    clear q2 hp
    go_wp2_with fail
    with_reducible refine (HI.state _ _ _ x0 a1 a3 _ (KA.out _ HB) V1 V3).mono ?_
    rw [Qe0.out, Qs0.out]
    rintro e w3 ⟨rfl, hb⟩
    replace HB := bel_call HB hb
    clear hb
    go_wp2_with fail
    with_reducible refine (HI.pay _ _ _ x0 a1 a2 a3 _ (KA.out _ HB) V1 V2 V3).mono ?_
    rw [Qf0.out, QL.out]
    rintro e w4 ⟨v, rfl, hv, hb⟩
    replace HB := bel_call HB hb
    clear hb
    obtain ⟨A2, n2, c2, rfl, hs2⟩ := hv.read
    have HB2 := Below.refl w4.heap.size w4
    clear hv
    have hn : n2 = 0 := hs2.len.symm
    subst hn
    by_cases k1 : e0 = 0
    · have d2 : (e0 != 0) = false := by simpa using k1
      by_cases k2 : s0 = 1
      · have d3 : (s0 != 1) = false := by simpa using k2
        have k3 : f0 = 9 := by rcases HQ.out with h | h | h <;> first | exact h | exact absurd k1 h | exact absurd k2 h
        clear k1 k2 d1 HQ
        have d4 : (f0 == 9) = true := by simpa using k3
        have D1 : (f0 != 0) = true := by rw [k3]; rfl
        clear k3
        go_wp2
        go_ret
        exact ⟨rfl, HB⟩
      have d3 : (s0 != 1) = true := by simpa using k2
      clear k1 k2
      go_wp2
      go_ret
      exact ⟨rfl, HB⟩
    have d2 : (e0 != 0) = true := by simpa using k1
    clear k1
    go_wp2
    go_ret
    exact ⟨rfl, HB⟩
  obtain ⟨-, x, hx, hxh, hg, -⟩ := py_is hp
  have HEX := hid (show ∃ x ∈ x0, x.Hash = a1 from ⟨x, hx, hxh⟩)
  have HG := hid hg
  clear hx hxh hg
  have HP := hid hp
  have HW := once_law (later := a4) hp
  clear hp
  obtain ⟨m, hm⟩ : ∃ z, pyL x0 a1 a2 a3 = z := ⟨_, rfl⟩
  have Qm := hid hm
  clear hm
  obtain ⟨c, hc⟩ : ∃ z, cnL x0 a1 a3 = z := ⟨_, rfl⟩
  have Qc := hid hc
  clear hc
  rw [Qm.out, Qc.out] at HW
  obtain ⟨h1, h2, h3, h4, h5, h6, h7, h8⟩ := HW
  have Q1 := hid h1
  have Q2 := hid h2
  have Q3 := hid h3
  have Q4 := hid h4
  have Q5 := hid h5
  have Q6 := hid h6
  have Q7 := hid h7
  have Q8 := hid h8
  clear h1 h2 h3 h4 h5 h6 h7 h8
  go_wp2_with fail
  with_reducible refine (HI.state _ _ _ x0 a1 a3 _ (KA.out _ HB) V1 V3).mono ?_
  rw [Q2.out, Q3.out]
  rintro e w3 ⟨rfl, hb⟩
  replace HB := bel_call HB hb
  clear hb
  go_wp2_with fail
  with_reducible refine (HI.pay _ _ _ x0 a1 a2 a3 _ (KA.out _ HB) V1 V2 V3).mono ?_
  rw [HP.out, Qm.out]
  rintro e w4 ⟨v, rfl, hv, hb⟩
  replace HB := bel_call HB hb
  clear hb
  obtain ⟨A2, n2, c2, rfl, hs2⟩ := hv.read
  have HB2 := Below.refl w4.heap.size w4
  clear hv
  go_wp2_with fail
  with_reducible refine (HI.state _ _ _ m a1 a4 _ (Sl.call hs2 HB2) V1 V4).mono ?_
  rw [Q4.out, Q5.out]
  rintro e w5 ⟨rfl, hb⟩
  replace HB := bel_call HB hb
  replace HB2 := bel_call HB2 hb
  clear hb
  go_wp2_with fail
  with_reducible refine (HI.pay _ _ _ m a1 a2 a4 _ (Sl.call hs2 HB2) V1 V2 V4).mono ?_
  rw [Q6.out]
  rintro e w6 ⟨v, rfl, hv, hb⟩
  replace HB := bel_call HB hb
  replace HB2 := bel_call HB2 hb
  clear hb
  clear hv
  go_wp2_with fail
  with_reducible refine (HI.cancel _ _ _ m a1 a4 _ (Sl.call hs2 HB2) V1 V4).mono ?_
  rw [Q7.out]
  rintro e w7 ⟨v, rfl, hv, hb⟩
  replace HB := bel_call HB hb
  replace HB2 := bel_call HB2 hb
  clear hb
  clear hv
  go_wp2_with fail
  with_reducible refine (HI.cancel _ _ _ x0 a1 a3 _ (KA.out _ HB) V1 V3).mono ?_
  rw [Q1.out, Qc.out]
  rintro e w8 ⟨v, rfl, hv, hb⟩
  replace HB := bel_call HB hb
  replace HB2 := bel_call HB2 hb
  clear hb
  obtain ⟨A3, n3, c3, rfl, hs3⟩ := hv.read
  have HB3 := Below.refl w8.heap.size w8
  clear hv
  go_wp2_with fail
  with_reducible refine (HI.pay _ _ _ c a1 a2 a4 _ (Sl.call hs3 HB3) V1 V2 V4).mono ?_
  rw [Q8.out]
  rintro e w9 ⟨v, rfl, hv, hb⟩
  replace HB := bel_call HB hb
  replace HB2 := bel_call HB2 hb
  replace HB3 := bel_call HB3 hb
  clear hb
  clear hv hs2 HB2 hs3 HB3
  go_wp2
  go_loopw [137] (fun i wr => ∃ j : Nat, j ≤ n0 ∧ i = .int .i64 j ∧ (∀ k (hk : k < x0.length), k < j → x0[k].Hash ≠ a1) ∧ Below w.heap.size w wr) (fun i _ => n0 - (intOf i).toNat)
  case atStart => exact ⟨0, Nat.zero_le _, rfl, fun k _ h => absurd h (by omega), HB⟩
  case round =>
    obtain ⟨j, hj, rfl, hno, hbel⟩ := hrel
    have HNO := hid hno
    clear hno HB
    by_cases hlt : j < n0
    rotate_left
    · exfalso
      obtain ⟨x, hx, hxh⟩ := HEX.out
      obtain ⟨k, hk, rfl⟩ := List.getElem_of_mem hx
      exact HNO.out k hk (by have := HL0.out; omega) hxh
    obtain ⟨b1, o1, hx1, rfl, hb1, t1, t2, t3, t4, hw1⟩ := at_Invoice (KA.out w (Below.refl _ _)) hlt
    have HM := hid (show x0[j] ∈ x0 from List.getElem_mem hx1)
    have HNX := hid (show x0[j].Hash ≠ a1 → ∀ k (hk : k < x0.length), k < j + 1 → x0[k].Hash ≠ a1 from fun hne k hk hlk => (Nat.lt_or_ge k j).elim (fun q => HNO.out k hk q) (fun q => by obtain rfl : k = j := (by omega); exact hne))
    have hy : ∃ y, x0[j] = y := ⟨_, rfl⟩
    obtain ⟨y, hy⟩ := hy
    rw [hy] at t1 t2 t3 t4 hw1 HM HNX
    clear hy
    have q1 := (hbel.cell (p := ⟨b1, o1 + j * 4, none⟩) hb1).trans t1
    have q2 := (hbel.cell (p := ⟨b1, o1 + j * 4 + 1, none⟩) hb1).trans t2
    have q3 := (hbel.cell (p := ⟨b1, o1 + j * 4 + 2, none⟩) hb1).trans t3
    have q4 := (hbel.cell (p := ⟨b1, o1 + j * 4 + 3, none⟩) hb1).trans t4
    clear t1 t2 t3 t4
    have ij : IntKind.i64.wrap ((j : Int) + 1) = (j : Int) + 1 := IntWalk.i64_in _ (by omega)
    have hba := bel_alloc hbel (Obj.cells #[.int .u64 y.Hash, .int .u64 y.N, .int .u64 y.Till, .int .i64 y.State] 37)
    by_cases hq : y.Hash = a1
    rotate_left
    · have d1 : (y.Hash == a1) = false := by simpa using hq
      have HNN := hid (HNX.out hq)
      clear hq
      go_wp2
      go_roundw
      case rel => exact ⟨j + 1, by omega, by go_num, HNN.out, hba⟩
      case measure => simp [intOf]; omega
    have d1 : (y.Hash == a1) = true := by simpa using hq
    have hyn := bounds_u64 hw1.w1
    have hyt := bounds_u64 hw1.w2
    have hmay := HG.out.2.2 y HM.out
    have hn1 : 1 ≤ y.N := by have := hmay.1; omega
    have wN : IntKind.u64.wrap (y.N - 1) = y.N - 1 := IntWalk.u64_in _ (by omega)
    have VN := wf_u64 (n := y.N - 1) (by omega)
    have HOM := hid (fun big (hbig : y.Till < big) => once_more (l := x0) (n := a2) (t := a3) (y := y) HM.out (by rw [hq]; exact HP.out) (y.N - 1) big (by omega) hbig)
    have HOS := hid (once_more (l := x0) (n := a2) (t := a3) (y := y) HM.out (by rw [hq]; exact HP.out) (y.N - 1) (y.Till + 1) (by omega) (by omega))
    rw [hq] at HOM HOS
    clear hmay hq
    have B1 : Box (wr.alloc (Obj.cells #[.int .u64 y.Hash, .int .u64 y.N, .int .u64 y.Till, .int .i64 y.State] 37)) wr.heap.size 37 [.int .u64 y.Hash, .int .u64 y.N, .int .u64 y.Till, .int .i64 y.State] := Box.new wr _ _
    have HB := hba
    clear hba
    go_upto_region 20 with (fail)
    generalize wr.alloc (Obj.cells #[.int .u64 y.Hash, .int .u64 y.N, .int .u64 y.Till, .int .i64 y.State] 37) = W5 at *
    generalize hgr : wr.heap.size = g5 at *
    clear hgr
    have K5 := hid (fun (W : World) (h : Below W5.heap.size W5 W) => (show W.cell? ⟨g5, 0, none⟩ = some (.int .u64 y.Hash) ∧ W.cell? ⟨g5, 1, none⟩ = some (.int .u64 y.N) ∧ W.cell? ⟨g5, 2, none⟩ = some (.int .u64 y.Till) ∧ W.cell? ⟨g5, 3, none⟩ = some (.int .i64 y.State) from ⟨(B1.call h).at_ 0 rfl, (B1.call h).at_ 1 rfl, (B1.call h).at_ 2 rfl, (B1.call h).at_ 3 rfl⟩))
    have HB5 := Below.refl W5.heap.size W5
    clear B1 q1 q2 q3 q4 hbel
    have HBk := hid hb1
    clear hb1
    obtain ⟨p5x0, p5x1, p5x2, p5x3⟩ := K5.out _ HB5
    go_wp2_with fail
    with_reducible refine (HI.pay _ _ _ x0 a1 (y.N - 1) a3 _ (KA.out _ HB) V1 VN V3).mono ?_
    rw [HOS.out.2.2.1]
    rintro e w30 ⟨v, rfl, hv, hb⟩
    replace HB := bel_call HB hb
    replace HB5 := bel_call HB5 hb
    clear p5x0 p5x1 p5x2 p5x3
    clear hb
    clear hv
    have dge : decide (y.N ≤ a2) = true := decide_eq_true HOS.out.1
    have dle : decide (a3 ≤ y.Till) = true := decide_eq_true HOS.out.2.1
    by_cases gm : y.Till < 1099511627776
    · have dm : decide (y.Till < 1099511627776) = true := decide_eq_true gm
      have d5 : decide ((9223372036854775808 : Int) < y.Till) = false := decide_eq_false (by omega)
      have VB := wf_u64 (n := 1099511627777) (by omega)
      have QB := hid (HOM.out 1099511627777 (by omega)).2.2.2
      obtain ⟨p5x0, p5x1, p5x2, p5x3⟩ := K5.out _ HB5
      go_wp2_with fail
      with_reducible refine (HI.pay _ _ _ x0 a1 a2 1099511627777 _ (KA.out _ HB) V1 V2 VB).mono ?_
      rw [QB.out]
      rintro e w31 ⟨v, rfl, hv, hb⟩
      replace HB := bel_call HB hb
      replace HB5 := bel_call HB5 hb
      clear p5x0 p5x1 p5x2 p5x3
      clear hb
      clear hv
      obtain ⟨p5x0, p5x1, p5x2, p5x3⟩ := K5.out _ HB5
      go_wp2
      go_ret
      exact ⟨rfl, HB⟩
    have dm : decide (y.Till < 1099511627776) = false := decide_eq_false gm
    by_cases hhi : 9223372036854775808 < y.Till
    · have d5 : decide ((9223372036854775808 : Int) < y.Till) = true := decide_eq_true hhi
      obtain ⟨bg, hbg⟩ : ∃ z, IntKind.u64.wrap (y.Till + 1) = z := ⟨_, rfl⟩
      have VB : (Lit.int .u64 bg).wf = true := by rw [← hbg]; exact wf_wrap _ _
      obtain ⟨pe, hpe⟩ : ∃ z, pyE x0 a1 a2 bg = z := ⟨_, rfl⟩
      have Qpe := hid hpe
      clear hpe
      obtain ⟨p5x0, p5x1, p5x2, p5x3⟩ := K5.out _ HB5
      go_wp2_with fail
      with_reducible refine (HI.pay _ _ _ x0 a1 a2 bg _ (KA.out _ HB) V1 V2 VB).mono ?_
      rw [Qpe.out]
      rintro e w31 ⟨v, rfl, hv, hb⟩
      replace HB := bel_call HB hb
      replace HB5 := bel_call HB5 hb
      clear p5x0 p5x1 p5x2 p5x3
      clear hb
      clear hv
      obtain ⟨p5x0, p5x1, p5x2, p5x3⟩ := K5.out _ HB5
      go_wp2
      go_ret
      exact ⟨rfl, HB⟩
    have d5 : decide ((9223372036854775808 : Int) < y.Till) = false := decide_eq_false hhi
    have wB : IntKind.u64.wrap (y.Till + 1) = y.Till + 1 := IntWalk.u64_in _ (by omega)
    have VB := wf_u64 (n := y.Till + 1) (by omega)
    have QB := hid (HOM.out (y.Till + 1) (by omega)).2.2.2
    obtain ⟨p5x0, p5x1, p5x2, p5x3⟩ := K5.out _ HB5
    go_wp2_with fail
    with_reducible refine (HI.pay _ _ _ x0 a1 a2 (y.Till + 1) _ (KA.out _ HB) V1 V2 VB).mono ?_
    rw [QB.out]
    rintro e w31 ⟨v, rfl, hv, hb⟩
    replace HB := bel_call HB hb
    replace HB5 := bel_call HB5 hb
    clear p5x0 p5x1 p5x2 p5x3
    clear hb
    clear hv
    obtain ⟨p5x0, p5x1, p5x2, p5x3⟩ := K5.out _ HB5
    go_wp2
    go_ret
    exact ⟨rfl, HB⟩
end Go.Proofs.Ytannjlejghmfpaa
