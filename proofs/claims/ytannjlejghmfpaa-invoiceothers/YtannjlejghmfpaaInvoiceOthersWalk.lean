/-
  The walk of InvoiceOthers.
-/
import Derived.Test.YtannjlejghmfpaaInvoiceSpec
namespace Go.Proofs.Ytannjlejghmfpaa
open Go.RowKit Go.WalkArith

set_option maxRecDepth 100000 in
set_option maxHeartbeats 4000000 in
theorem invoiceOthers_walkH (HI : InvoiceSpec) (A0 : Option Addr) (n0 c0 : Nat) (x0 : List Inv) (a1 a2 a3 a4 a5 : Int) (w : World) (r0 : Sl lay_Invoice w (· < w.heap.size) A0 n0 c0 x0) (b1 : 0 ≤ a1 ∧ a1 ≤ 18446744073709551615) (b2 : 0 ≤ a2 ∧ a2 ≤ 18446744073709551615) (b3 : 0 ≤ a3 ∧ a3 ≤ 18446744073709551615) (b4 : 0 ≤ a4 ∧ a4 ≤ 18446744073709551615) (b5 : 0 ≤ a5 ∧ a5 ≤ 18446744073709551615) :
    Calls Try.prog 6 #[.slice A0 n0 c0, .int .u64 a1, .int .u64 a2, .int .u64 a3, .int .u64 a4, .int .u64 a5] w fun e w' => e = .returned (.bool true) ∧ Below w.heap.size w w' := by
  have V1 := wf_u64 b1
  have V2 := wf_u64 b2
  have V3 := wf_u64 b3
  have V4 := wf_u64 b4
  have V5 := wf_u64 b5
  have HL0 := hid r0.len
  have hc0 := r0.cap
  unfold maxLen at hc0
  have KA := hid (fun (W : World) (h : Below w.heap.size w W) => Sl.call r0 h)
  clear r0
  have HB := Below.refl w.heap.size w
  go_enter Try.func6, Try.ntmps6
  go_wp2_with fail
  with_reducible refine (live12_any HI _).mono ?_
  rintro e w1 ⟨rfl, hb⟩
  replace HB := bel_call HB hb
  clear hb
  go_wp2_with fail
  with_reducible refine (fewI_any _ n0 c0 _ (by unfold maxLen; omega)).mono ?_
  rintro e w2 ⟨rfl, hb⟩
  replace HB := bel_call HB hb
  clear hb
  cases hfew : fewI n0
  · go_wp2
    go_ret
    exact ⟨rfl, HB⟩
  have HFW := hid hfew
  clear hfew
  by_cases hg : crE x0 a1 a3 = 0
  rotate_left
  · have QL := hid (show crL x0 a1 a3 a4 = [] from if_neg hg)
    obtain ⟨e0, he0⟩ : ∃ z, crE x0 a1 a3 = z := ⟨_, rfl⟩
    have Qe0 := hid he0
    clear he0
    rw [Qe0.out] at hg
    have d1 : (e0 != 0) = true := by simpa using hg
    clear hg
    go_wp2_with fail
    with_reducible refine (HI.create _ _ _ x0 a1 a3 a4 _ (KA.out _ HB) V1 V3 V4).mono ?_
    rw [Qe0.out, QL.out]
    rintro e w3 ⟨v, rfl, hv, hb⟩
    replace HB := bel_call HB hb
    clear hb
    obtain ⟨A2, n2, c2, rfl, hs2⟩ := hv.read
    have HB2 := Below.refl w3.heap.size w3
    clear hv
    have hn : n2 = 0 := hs2.len.symm
    subst hn
    go_wp2
    go_ret
    exact ⟨rfl, HB⟩
  have hn6 : n0 < 256 := by have := (cr_is (t := a4) hg).2.2.2.2.1; rw [HL0.out] at this; exact this
  have QE := hid hg
  have HW := others_law (till := a4) (t := a5) (other := a2) hg
  clear hg
  obtain ⟨m, hm⟩ : ∃ z, crL x0 a1 a3 a4 = z := ⟨_, rfl⟩
  have Qm := hid hm
  clear hm
  rw [Qm.out] at HW
  obtain ⟨h1, h2, h3, h4, h5⟩ := HW
  obtain ⟨ex, hex⟩ : ∃ z, stE x0 a2 = z := ⟨_, rfl⟩
  have Qex := hid hex
  clear hex
  obtain ⟨sx, hsx⟩ : ∃ z, stV x0 a2 a5 = z := ⟨_, rfl⟩
  have Qsx := hid hsx
  clear hsx
  obtain ⟨ey, hey⟩ : ∃ z, stE m a2 = z := ⟨_, rfl⟩
  have Qey := hid hey
  clear hey
  obtain ⟨sy, hsy⟩ : ∃ z, stV m a2 a5 = z := ⟨_, rfl⟩
  have Qsy := hid hsy
  clear hsy
  rw [Qex.out, Qsx.out, Qey.out, Qsy.out] at h3
  have Q1 := hid h1
  have Q2 := hid h2
  have Q3 := hid h3
  have Q4 := hid h4
  have Q5 := hid h5
  clear h1 h2 h3 h4 h5
  obtain ⟨wt, hwt⟩ : ∃ z, (if a4 < a5 then (4 : Int) else 1) = z := ⟨_, rfl⟩
  rw [hwt] at Q2
  have QW := hid hwt
  clear hwt
  go_wp2_with fail
  with_reducible refine (HI.create _ _ _ x0 a1 a3 a4 _ (KA.out _ HB) V1 V3 V4).mono ?_
  rw [QE.out, Qm.out]
  rintro e w3 ⟨v, rfl, hv, hb⟩
  replace HB := bel_call HB hb
  clear hb
  obtain ⟨A2, n2, c2, rfl, hs2⟩ := hv.read
  have HB2 := Below.refl w3.heap.size w3
  clear hv
  have HN : (n2 : Int) = (n0 : Int) + 1 := by have := hs2.len; have := Q5.out; have := HL0.out; omega
  have HN2 := hid HN
  clear HN
  go_wp2_with fail
  with_reducible refine (HI.state _ _ _ m a1 a5 _ (Sl.call hs2 HB2) V1 V5).mono ?_
  rw [Q1.out, Q2.out]
  rintro e w4 ⟨rfl, hb⟩
  replace HB := bel_call HB hb
  replace HB2 := bel_call HB2 hb
  clear hb
  go_wp2_with fail
  with_reducible refine (HI.state _ _ _ x0 a2 a5 _ (KA.out _ HB) V2 V5).mono ?_
  rw [Qex.out, Qsx.out]
  rintro e w5 ⟨rfl, hb⟩
  replace HB := bel_call HB hb
  replace HB2 := bel_call HB2 hb
  clear hb
  go_wp2_with fail
  with_reducible refine (HI.state _ _ _ m a2 a5 _ (Sl.call hs2 HB2) V2 V5).mono ?_
  rw [Qey.out, Qsy.out]
  rintro e w6 ⟨rfl, hb⟩
  replace HB := bel_call HB hb
  replace HB2 := bel_call HB2 hb
  clear hb
  go_wp2_with fail
  with_reducible refine (HI.create _ _ _ m a1 a3 a4 _ (Sl.call hs2 HB2) V1 V3 V4).mono ?_
  rw [Q4.out]
  rintro e w7 ⟨v, rfl, hv, hb⟩
  replace HB := bel_call HB hb
  replace HB2 := bel_call HB2 hb
  clear hb
  clear hv
  have wadd : IntKind.i64.wrap ((n0 : Int) + 1) = (n0 : Int) + 1 := IntWalk.i64_in _ (by omega)
  have dn : ((n2 : Int) == (n0 : Int) + 1) = true := by simpa using HN2.out
  have dw : (wt == wt) = true := by simp
  by_cases ht : a4 < a5
  · have d1 : decide (a4 < a5) = true := by simpa using ht
    have hw9 := QW.out
    rw [if_pos ht] at hw9
    subst hw9
    clear ht
    by_cases ho : a2 = a1
    · have d2 : (a2 == a1) = true := by simpa using ho
      clear ho
      go_wp2
      go_ret
      exact ⟨rfl, HB⟩
    have d2 : (a2 == a1) = false := by simpa using ho
    obtain ⟨k1, k2⟩ := Q3.out ho
    subst k1
    subst k2
    have d3 : (sy == sy) = true := by simp
    have d4 : (ey == ey) = true := by simp
    clear ho
    go_wp2
    go_ret
    exact ⟨rfl, HB⟩
  · have d1 : decide (a4 < a5) = false := by simpa using ht
    have hw9 := QW.out
    rw [if_neg ht] at hw9
    subst hw9
    clear ht
    by_cases ho : a2 = a1
    · have d2 : (a2 == a1) = true := by simpa using ho
      clear ho
      go_wp2
      go_ret
      exact ⟨rfl, HB⟩
    have d2 : (a2 == a1) = false := by simpa using ho
    obtain ⟨k1, k2⟩ := Q3.out ho
    subst k1
    subst k2
    have d3 : (sy == sy) = true := by simp
    have d4 : (ey == ey) = true := by simp
    clear ho
    go_wp2
    go_ret
    exact ⟨rfl, HB⟩
end Go.Proofs.Ytannjlejghmfpaa
