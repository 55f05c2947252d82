/-
  The walk of InvoiceLate.
-/
import Derived.Test.YtannjlejghmfpaaInvoiceSpec
namespace Go.Proofs.Ytannjlejghmfpaa
open Go.RowKit Go.WalkArith

set_option maxRecDepth 100000 in
set_option maxHeartbeats 4000000 in
theorem invoiceLate_walkH (HI : InvoiceSpec) (A0 : Option Addr) (n0 c0 : Nat) (x0 : List Inv) (a1 a2 a3 : Int) (w : World) (r0 : Sl lay_Invoice w (· < w.heap.size) A0 n0 c0 x0) (b1 : 0 ≤ a1 ∧ a1 ≤ 18446744073709551615) (b2 : 0 ≤ a2 ∧ a2 ≤ 18446744073709551615) (b3 : 0 ≤ a3 ∧ a3 ≤ 18446744073709551615) :
    Calls Try.prog 8 #[.slice A0 n0 c0, .int .u64 a1, .int .u64 a2, .int .u64 a3] w fun e w' => e = .returned (.bool true) ∧ Below w.heap.size w w' := by
  have V1 := wf_u64 b1
  have V2 := wf_u64 b2
  have V3 := wf_u64 b3
  have HL0 := hid r0.len
  have hc0 := r0.cap
  unfold maxLen at hc0
  have KA := hid (fun (W : World) (h : Below w.heap.size w W) => Sl.call r0 h)
  clear r0
  have HB := Below.refl w.heap.size w
  go_enter Try.func8, Try.ntmps8
  go_wp2_with fail
  with_reducible refine (live12_any HI _).mono ?_
  rintro e w1 ⟨rfl, hb⟩
  replace HB := bel_call HB hb
  clear hb
  go_wp2_with fail
  with_reducible refine (fewI_any _ n0 c0 _ (by unfold maxLen; omega)).mono ?_
  rintro e w2 ⟨rfl, hb⟩
  replace HB := bel_call HB hb
  clear hb
  cases hfew : fewI n0
  · go_wp2
    go_ret
    exact ⟨rfl, HB⟩
  have HFW := hid hfew
  clear hfew
  by_cases hlt : a3 < a2
  · have d1 : decide (a3 < a2) = true := by simpa using hlt
    go_wp2
    go_ret
    exact ⟨rfl, HB⟩
  have d1 : decide (a3 < a2) = false := by simpa using hlt
  have HW := late_law (l := x0) (h := a1) (t := a2) (later := a3) (by omega)
  obtain ⟨e0, he0⟩ : ∃ z, stE x0 a1 = z := ⟨_, rfl⟩
  have Qe0 := hid he0
  clear he0
  obtain ⟨sa, hsa⟩ : ∃ z, stV x0 a1 a2 = z := ⟨_, rfl⟩
  have Qsa := hid hsa
  clear hsa
  obtain ⟨sb, hsb⟩ : ∃ z, stV x0 a1 a3 = z := ⟨_, rfl⟩
  have Qsb := hid hsb
  clear hsb
  rw [Qe0.out, Qsa.out, Qsb.out] at HW
  have HL := hid HW
  clear HW hlt
  go_wp2_with fail
  with_reducible refine (HI.state _ _ _ x0 a1 a2 _ (KA.out _ HB) V1 V2).mono ?_
  rw [Qe0.out, Qsa.out]
  rintro e w3 ⟨rfl, hb⟩
  replace HB := bel_call HB hb
  clear hb
  go_wp2_with fail
  with_reducible refine (HI.state _ _ _ x0 a1 a3 _ (KA.out _ HB) V1 V3).mono ?_
  rw [Qe0.out, Qsb.out]
  rintro e w4 ⟨rfl, hb⟩
  replace HB := bel_call HB hb
  clear hb
  have dee : (e0 != e0) = false := by simp
  rcases HL.out with ⟨h1, rfl, rfl⟩ | ⟨rfl, rfl, h1⟩ | ⟨rfl, h1, rfl, h2, h3⟩
  · have d2 : (e0 != 0) = true := by simpa using h1
    clear h1
    go_wp2
    go_ret
    exact ⟨rfl, HB⟩
  · rcases h1 with rfl | rfl
    · go_wp2
      go_ret
      exact ⟨rfl, HB⟩
    · go_wp2
      go_ret
      exact ⟨rfl, HB⟩
  · have d2 : (sb == 1) = false := by simpa using h1
    have d3 : (sb == sb) = true := by simp
    have d4 : decide ((2 : Int) ≤ sb) = true := by simpa using h2
    have d5 : decide (sb ≤ 4) = true := by simpa using h3
    clear h1 h2 h3
    go_wp2
    go_ret
    exact ⟨rfl, HB⟩
end Go.Proofs.Ytannjlejghmfpaa
