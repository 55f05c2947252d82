/-
  PROVED: for every input the law InvoiceOthers of the document's statements answers true at this commit, and leaves its arguments as they were. No condition beyond the row's own.
-/
import Derived.Test.YtannjlejghmfpaaInvoiceOthersEnd
import Derived.Test.YtannjlejghmfpaaLift
import Derived.Test.YtannjlejghmfpaaTypes
namespace Go.Proofs.Ytannjlejghmfpaa
open Go.ChangeShapes Go.WideShapes Go.ChangeAt Go.RowKit Go.WalkArith
open Go.ChangeMaps (open_string shut_string)
set_option linter.unusedVariables false

set_option maxRecDepth 100000 in
theorem invoiceOthers_lifted (os : Os) (started : os.Started) (H : Type) (enc : TypeId × Value → H) :
    ReturnsInHanded {} Try.checked os 6 .any (Rows.invoiceOthersSpec.pre6 enc Try.prog Try.f6 Rows.invoiceOthersRow.domain false) (Rows.invoiceOthersSpec.post enc Try.prog Try.f6 false true false false) := by
  refine returnsInHanded_of_change (C := Try.checked) Try.own started (by kernel_rfl) Try.func6
    (ChangeSpec.witness6 (enc := enc) (C := Try.checked) false ⟨#[], #[.slice none 0 0, .int .u64 0, .int .u64 0, .int .u64 0, .int .u64 0, .int .u64 0], []⟩ 8 (by kernel_rfl) (by kernel_rfl) (by kernel_rfl) (by kernel_rfl)) ?_
  intro W base args ds gs before hval0 hW hcnd _
  have hval : ∀ (j : Nat) t v, Try.f6.params[j]? = some t → args[j]? = some v → Value.okWide Try.prog W .any base t v := hval0
  have hW' := hW
  obtain ⟨p, q, hA0, hV, rfl, hfz, hnd⟩ := hW
  have hA : DataW.TrodAll enc Try.prog W 0 (fun _ => true) true Try.f6.params.toList args.toList ds p := hA0
  rw [Try.params6] at hA hval
  obtain ⟨v0, vs0, d0, ds0, p0, q0, hargs, rfl, rfl, h0, r0⟩ := trodAll_cons hA
  obtain ⟨v1, vs1, d1, ds1, p1, q1, rfl, rfl, rfl, h1, r1⟩ := trodAll_cons r0
  obtain ⟨v2, vs2, d2, ds2, p2, q2, rfl, rfl, rfl, h2, r2⟩ := trodAll_cons r1
  obtain ⟨v3, vs3, d3, ds3, p3, q3, rfl, rfl, rfl, h3, r3⟩ := trodAll_cons r2
  obtain ⟨v4, vs4, d4, ds4, p4, q4, rfl, rfl, rfl, h4, r4⟩ := trodAll_cons r3
  obtain ⟨v5, vs5, d5, ds5, p5, q5, rfl, rfl, rfl, h5, r5⟩ := trodAll_cons r4
  obtain ⟨rfl, rfl, rfl⟩ := trodAll_nil r5
  obtain rfl : args = #[v0, v1, v2, v3, v4, v5] := by cases args; simp_all
  obtain ⟨rfl, rfl⟩ := trodVars_none hV
  obtain ⟨A0, n0, c0, rfl⟩ := okWide_slice Try.underlying22 (hval 0 22 v0 rfl rfl)
  have k0 := h0
  have lt0 : ∀ x ∈ p0, x.block < W.heap.size := by obtain ⟨m, hm⟩ := k0; exact DataW.trod_lt m _ _ _ hm
  obtain ⟨x0, r0'⟩ := sl_of_trod (layOf_slice Try.underlying22 (by kernel_rfl) of_Invoice (by decide)) h0
  obtain ⟨a1, rfl, rfl, rfl, wf1⟩ := open_int Try.underlying23 (hval 1 23 v1 rfl rfl) h1
  have b1 := bounds_u64 wf1
  obtain ⟨a2, rfl, rfl, rfl, wf2⟩ := open_int Try.underlying23 (hval 2 23 v2 rfl rfl) h2
  have b2 := bounds_u64 wf2
  obtain ⟨a3, rfl, rfl, rfl, wf3⟩ := open_int Try.underlying23 (hval 3 23 v3 rfl rfl) h3
  have b3 := bounds_u64 wf3
  obtain ⟨a4, rfl, rfl, rfl, wf4⟩ := open_int Try.underlying23 (hval 4 23 v4 rfl rfl) h4
  have b4 := bounds_u64 wf4
  obtain ⟨a5, rfl, rfl, rfl, wf5⟩ := open_int Try.underlying23 (hval 5 23 v5 rfl rfl) h5
  have b5 := bounds_u64 wf5
  clear hA0 hval0
  refine (invoiceOthers_walk A0 n0 c0 x0 a1 a2 a3 a4 a5 W r0' b1 b2 b3 b4 b5).mono fun e W' ⟨he, bel⟩ => ?_
  subst he
  exact ⟨_, rfl, _, _, _, [], _, [], hW', trodAll_mk1 (shut_bool Try.underlying4 _), (trodAll_cons_mk (Below.trod Try.laidOut (by kernel_rfl) (of_decide_eq_true (by kernel_rfl)) k0 bel lt0) (trodAll_cons_mk (shut_int Try.underlying23 wf1) (trodAll_cons_mk (shut_int Try.underlying23 wf2) (trodAll_cons_mk (shut_int Try.underlying23 wf3) (trodAll_cons_mk (shut_int Try.underlying23 wf4) (trodAll_cons_mk (shut_int Try.underlying23 wf5) trodAll_mk0)))))), rfl, bel.frame _, fun h => by cases h⟩

theorem invoiceOthers_holds : Rows.InvoiceOthersSaid :=
  OpenClaim.holds_of_wide 6 Try.f6 rfl rfl rfl rfl rfl rfl rfl ⟨rfl, rfl, rfl, rfl, rfl⟩ rfl rfl rfl rfl rfl (by kernel_rfl) Try.func6 (by kernel_rfl)
    (of_decide_eq_true (by kernel_rfl)) (by unfold Func.isWrapper; first | (rw [if_pos (by decide +kernel)]; kernel_rfl) | (rw [if_neg (by decide +kernel)]; exact ⟨rfl, rfl⟩))
    (fun os started H enc _ => invoiceOthers_lifted os started H enc)
#print axioms invoiceOthers_holds
end Go.Proofs.Ytannjlejghmfpaa
