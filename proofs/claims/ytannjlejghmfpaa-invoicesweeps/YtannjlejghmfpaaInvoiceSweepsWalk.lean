/-
  The walk of InvoiceSweeps.
-/
import Derived.Test.YtannjlejghmfpaaInvoiceSpec
namespace Go.Proofs.Ytannjlejghmfpaa
open Go.RowKit Go.WalkArith

set_option maxRecDepth 100000 in
set_option maxHeartbeats 4000000 in
theorem invoiceSweeps_walkH (HI : InvoiceSpec) (A0 : Option Addr) (n0 c0 : Nat) (x0 : List Inv) (a1 a2 : Int) (w : World) (r0 : Sl lay_Invoice w (· < w.heap.size) A0 n0 c0 x0) (b1 : 0 ≤ a1 ∧ a1 ≤ 18446744073709551615) (b2 : 0 ≤ a2 ∧ a2 ≤ 18446744073709551615) :
    Calls Try.prog 5 #[.slice A0 n0 c0, .int .u64 a1, .int .u64 a2] w fun e w' => e = .returned (.bool true) ∧ Below w.heap.size w w' := by
  have V1 := wf_u64 b1
  have V2 := wf_u64 b2
  have HL0 := hid r0.len
  have hc0 := r0.cap
  unfold maxLen at hc0
  have KA := hid (fun (W : World) (h : Below w.heap.size w W) => Sl.call r0 h)
  clear r0
  have HB := Below.refl w.heap.size w
  go_enter Try.func5, Try.ntmps5
  go_wp2_with fail
  with_reducible refine (live12_any HI _).mono ?_
  rintro e w1 ⟨rfl, hb⟩
  replace HB := bel_call HB hb
  clear hb
  go_wp2_with fail
  with_reducible refine (fewI_any _ n0 c0 _ (by unfold maxLen; omega)).mono ?_
  rintro e w2 ⟨rfl, hb⟩
  replace HB := bel_call HB hb
  clear hb
  cases hfew : fewI n0
  · go_wp2
    go_ret
    exact ⟨rfl, HB⟩
  have HFW := hid hfew
  clear hfew
  by_cases hg : InOk x0
  rotate_left
  · have QE := hid (show inE x0 = 1 from if_neg hg)
    have QL := hid (show swL x0 a1 = [] from if_neg hg)
    clear hg
    go_wp2_with fail
    with_reducible refine (HI.sweep _ _ _ x0 a1 _ (KA.out _ HB) V1).mono ?_
    rw [QE.out, QL.out]
    rintro e w3 ⟨v, rfl, hv, hb⟩
    replace HB := bel_call HB hb
    clear hb
    obtain ⟨A2, n2, c2, rfl, hs2⟩ := hv.read
    have HB2 := Below.refl w3.heap.size w3
    clear hv
    have hn : n2 = 0 := hs2.len.symm
    subst hn
    go_wp2
    go_ret
    exact ⟨rfl, HB⟩
  have QE := hid (show inE x0 = 0 from if_pos hg)
  have HW := sweeps_law hg a1 a2
  clear hg
  obtain ⟨m, hm⟩ : ∃ z, swL x0 a1 = z := ⟨_, rfl⟩
  have Qm := hid hm
  clear hm
  obtain ⟨e0, he0⟩ : ∃ z, stE x0 a2 = z := ⟨_, rfl⟩
  have Qe0 := hid he0
  clear he0
  obtain ⟨s0, hs0⟩ : ∃ z, stV x0 a2 a1 = z := ⟨_, rfl⟩
  have Qs0 := hid hs0
  clear hs0
  rw [Qm.out, Qe0.out, Qs0.out] at HW
  obtain ⟨e1, he1⟩ : ∃ z, stE m a2 = z := ⟨_, rfl⟩
  have Qe1 := hid he1
  clear he1
  obtain ⟨s1, hs1⟩ : ∃ z, stV m a2 a1 = z := ⟨_, rfl⟩
  have Qs1 := hid hs1
  clear hs1
  rw [Qe1.out, Qs1.out] at HW
  have HM := hid HW
  clear HW
  have QM := hid (show inE m = 0 from if_pos HM.out.1)
  have QS := hid HM.out.2.1
  have QT := hid HM.out.2.2
  clear HM
  go_wp2_with fail
  with_reducible refine (HI.sweep _ _ _ x0 a1 _ (KA.out _ HB) V1).mono ?_
  rw [QE.out, Qm.out]
  rintro e w3 ⟨v, rfl, hv, hb⟩
  replace HB := bel_call HB hb
  clear hb
  obtain ⟨A2, n2, c2, rfl, hs2⟩ := hv.read
  have HB2 := Below.refl w3.heap.size w3
  clear hv
  go_wp2_with fail
  with_reducible refine (HI.sweep _ _ _ m a1 _ (Sl.call hs2 HB2) V1).mono ?_
  rw [QM.out, QS.out]
  rintro e w4 ⟨v, rfl, hv, hb⟩
  replace HB := bel_call HB hb
  replace HB2 := bel_call HB2 hb
  clear hb
  obtain ⟨A3, n3, c3, rfl, hs3⟩ := hv.read
  have HB3 := Below.refl w4.heap.size w4
  clear hv
  go_wp2_with fail
  with_reducible refine (HI.state _ _ _ x0 a2 a1 _ (KA.out _ HB) V2 V1).mono ?_
  rw [Qe0.out, Qs0.out]
  rintro e w5 ⟨rfl, hb⟩
  replace HB := bel_call HB hb
  replace HB2 := bel_call HB2 hb
  replace HB3 := bel_call HB3 hb
  clear hb
  go_wp2_with fail
  with_reducible refine (HI.state _ _ _ m a2 a1 _ (Sl.call hs2 HB2) V2 V1).mono ?_
  rw [Qe1.out, Qs1.out]
  rintro e w6 ⟨rfl, hb⟩
  replace HB := bel_call HB hb
  replace HB2 := bel_call HB2 hb
  replace HB3 := bel_call HB3 hb
  clear hb
  go_wp2_with fail
  with_reducible refine (HI.same _ _ _ _ _ _ m m _ (Sl.call hs2 HB2) (Sl.call hs3 HB3)).mono ?_
  rw [decide_eq_true (rfl : m = m)]
  rintro e w7 ⟨rfl, hb⟩
  replace HB := bel_call HB hb
  replace HB2 := bel_call HB2 hb
  replace HB3 := bel_call HB3 hb
  clear hb
  go_wp2_with fail
  with_reducible refine (HI.check _ _ _ m _ (Sl.call hs2 HB2)).mono ?_
  rw [QM.out]
  rintro e w8 ⟨rfl, hb⟩
  replace HB := bel_call HB hb
  replace HB2 := bel_call HB2 hb
  replace HB3 := bel_call HB3 hb
  clear hb
  by_cases q1 : e0 = 0
  rotate_left
  · have h5 := QT.out.1 (.inl q1)
    have d2 : (e0 != 0) = true := by simpa using q1
    clear q1 QT
    subst h5
    go_wp2
    go_ret
    exact ⟨rfl, HB⟩
  subst q1
  by_cases q2 : s0 = 4
  · have h5 := QT.out.1 (.inr (.inl q2))
    clear QT
    subst h5
    subst q2
    go_wp2
    go_ret
    exact ⟨rfl, HB⟩
  have d2 : (s0 == 4) = false := by simpa using q2
  by_cases q3 : s0 = 3
  · have h5 := QT.out.1 (.inr (.inr q3))
    clear QT q2 d2
    subst h5
    subst q3
    go_wp2
    go_ret
    exact ⟨rfl, HB⟩
  have d3 : (s0 == 3) = false := by simpa using q3
  obtain ⟨h5, h6⟩ := QT.out.2 ⟨rfl, q2, q3⟩
  clear QT q2 q3
  subst h5
  subst h6
  have d4 : (s1 == s1) = true := by simp
  go_wp2
  go_ret
  exact ⟨rfl, HB⟩
end Go.Proofs.Ytannjlejghmfpaa
