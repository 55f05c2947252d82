/-
  Caveats compared; the statements' example of layer 6; the walk of CaveatTighter.
-/
import Derived.Test.YtikfdfdancgnpaaCaveatAll
import Derived.Test.YtikfdfdancgnpaaCaveatEq
namespace Go.Proofs.Ytikfdfdancgnpaa
open Go.RowKit Go.WalkArith

def eg6 : Cav := ⟨1, 9, 0⟩
set_option maxHeartbeats 2000000 in
theorem live6_any (w : World) : Calls Try.prog 8 #[] w fun e w' => e = .returned (.bool true) ∧ Below w.heap.size w w' := by
  have H1 := hid (show hlV eg6 ⟨9, 0, 0, 0⟩ = true ∧ hlE eg6 ⟨9, 0, 0, 0⟩ = 0 from by decide)
  have H2 := hid (show hlV eg6 ⟨10, 0, 0, 0⟩ = false ∧ hlE eg6 ⟨10, 0, 0, 0⟩ = 0 from by decide)
  have W1 : CavWf eg6 := ⟨by decide, by decide, by decide⟩
  go_enter Try.func8, Try.ntmps8
  go_wp2_with fail
  refine (cHolds_any #[.int .i64 1, .int .u64 9, .int .u64 0] #[.int .u64 9, .int .i64 0, .int .u64 0, .int .u64 0] (fun _ => True) eg6 ⟨9, 0, 0, 0⟩ w (rep_Caveat.2 ⟨rfl, W1⟩) (rep_Use.2 ⟨rfl, ⟨by decide, by decide, by decide, by decide⟩⟩)).mono ?_
  rw [H1.out.1, H1.out.2]
  rintro e w1 ⟨rfl, hb1⟩
  go_wp2_with fail
  refine (cHolds_any #[.int .i64 1, .int .u64 9, .int .u64 0] #[.int .u64 10, .int .i64 0, .int .u64 0, .int .u64 0] (fun _ => True) eg6 ⟨10, 0, 0, 0⟩ w1 (rep_Caveat.2 ⟨rfl, W1⟩) (rep_Use.2 ⟨rfl, ⟨by decide, by decide, by decide, by decide⟩⟩)).mono ?_
  rw [H2.out.1, H2.out.2]
  rintro e w2 ⟨rfl, hb2⟩
  go_wp2
  go_ret
  exact ⟨rfl, bel_call hb1 hb2⟩

theorem tgE_symm (a b : Cav) : tgE a b = tgE b a := by
  unfold tgE
  have : TightOk a b ↔ TightOk b a := ⟨fun ⟨h1, h2, h3, h4⟩ => ⟨h2, h1, h3.symm, h4.symm⟩, fun ⟨h1, h2, h3, h4⟩ => ⟨h2, h1, h3.symm, h4.symm⟩⟩
  by_cases h : TightOk a b
  · rw [if_pos h, if_pos (this.1 h)]
  · rw [if_neg h, if_neg (fun k => h (this.2 k))]
theorem hlE_same {a b : Cav} (u : Usx) (h1 : CavOk a) (h2 : CavOk b) : hlE a u = hlE b u := by
  unfold hlE
  by_cases h : UseOk u
  · rw [if_pos ⟨h1, h⟩, if_pos ⟨h2, h⟩]
  · rw [if_neg (fun k => h k.2), if_neg (fun k => h k.2)]
theorem hlV_tight {a b : Cav} {u : Usx} (h : TightOk a b) (ht : tgB a b = true) (hh : hlV a u = true) : hlV b u = true := by
  unfold hlV at *
  rw [Bool.and_eq_true, decide_eq_true_iff] at hh ⊢
  exact ⟨⟨h.2.1, hh.1.2⟩, tg_holds hh.1.2 h.2.2.1 ht hh.2⟩

set_option maxRecDepth 100000 in
set_option maxHeartbeats 4000000 in
theorem caveatTighter_walk (s0 : Array Value) (x0 : Cav) (s1 : Array Value) (x1 : Cav) (s2 : Array Value) (x2 : Usx) (w : World) (r0 : lay_Caveat.rep w (· < w.heap.size) x0 s0.toList) (r1 : lay_Caveat.rep w (· < w.heap.size) x1 s1.toList) (r2 : lay_Use.rep w (· < w.heap.size) x2 s2.toList) :
    Calls Try.prog 6 #[.agg s0, .agg s1, .agg s2] w fun e w' => e = .returned (.bool true) ∧ Below w.heap.size w w' := by
  obtain ⟨rfl, h0⟩ := agg_Caveat r0
  obtain ⟨rfl, h1⟩ := agg_Caveat r1
  obtain ⟨rfl, h2⟩ := agg_Use r2
  clear r0 r1 r2
  have hb0 : Below w.heap.size w (((w.alloc (Obj.cells #[.int .i64 x0.Kind, .int .u64 x0.A, .int .u64 x0.B] 24)).alloc (Obj.cells #[.int .i64 x1.Kind, .int .u64 x1.A, .int .u64 x1.B] 24)).alloc (Obj.cells #[.int .u64 x2.Tick, .int .i64 x2.Method, .int .u64 x2.Amount, .int .u64 x2.Who] 27)) := bel_alloc (bel_alloc (bel_alloc (Below.refl _ _) _) _) _
  have v0 : Var3 (((w.alloc (Obj.cells #[.int .i64 x0.Kind, .int .u64 x0.A, .int .u64 x0.B] 24)).alloc (Obj.cells #[.int .i64 x1.Kind, .int .u64 x1.A, .int .u64 x1.B] 24)).alloc (Obj.cells #[.int .u64 x2.Tick, .int .i64 x2.Method, .int .u64 x2.Amount, .int .u64 x2.Who] 27)) w.heap.size 24 (.int .i64 x0.Kind) (.int .u64 x0.A) (.int .u64 x0.B) := by
    unfold Var3; rw [heap_alloc_old _ _ (by simp <;> omega)]; exact heap_alloc2_old _ _ _
  have v1 : Var3 (((w.alloc (Obj.cells #[.int .i64 x0.Kind, .int .u64 x0.A, .int .u64 x0.B] 24)).alloc (Obj.cells #[.int .i64 x1.Kind, .int .u64 x1.A, .int .u64 x1.B] 24)).alloc (Obj.cells #[.int .u64 x2.Tick, .int .i64 x2.Method, .int .u64 x2.Amount, .int .u64 x2.Who] 27)) (w.heap.size + 1) 24 (.int .i64 x1.Kind) (.int .u64 x1.A) (.int .u64 x1.B) := by
    unfold Var3; rw [heap_alloc_old _ _ (by simp)]; exact heap_alloc2_new _ _ _
  have v2 : Var4 (((w.alloc (Obj.cells #[.int .i64 x0.Kind, .int .u64 x0.A, .int .u64 x0.B] 24)).alloc (Obj.cells #[.int .i64 x1.Kind, .int .u64 x1.A, .int .u64 x1.B] 24)).alloc (Obj.cells #[.int .u64 x2.Tick, .int .i64 x2.Method, .int .u64 x2.Amount, .int .u64 x2.Who] 27)) (w.heap.size + 1 + 1) 27 (.int .u64 x2.Tick) (.int .i64 x2.Method) (.int .u64 x2.Amount) (.int .u64 x2.Who) := by
    have := heap_alloc2_new (w.alloc (Obj.cells #[.int .i64 x0.Kind, .int .u64 x0.A, .int .u64 x0.B] 24)) (Obj.cells #[.int .i64 x1.Kind, .int .u64 x1.A, .int .u64 x1.B] 24) (Obj.cells #[.int .u64 x2.Tick, .int .i64 x2.Method, .int .u64 x2.Amount, .int .u64 x2.Who] 27)
    unfold Var4
    simpa using this
  have P0 := hid (fun W : World => (show lay_Caveat.rep W (fun _ => True) x0 #[.int .i64 x0.Kind, .int .u64 x0.A, .int .u64 x0.B].toList from rep_Caveat.2 ⟨rfl, h0⟩))
  have P1 := hid (fun W : World => (show lay_Caveat.rep W (fun _ => True) x1 #[.int .i64 x1.Kind, .int .u64 x1.A, .int .u64 x1.B].toList from rep_Caveat.2 ⟨rfl, h1⟩))
  have P2 := hid (fun W : World => (show lay_Use.rep W (fun _ => True) x2 #[.int .u64 x2.Tick, .int .i64 x2.Method, .int .u64 x2.Amount, .int .u64 x2.Who].toList from rep_Use.2 ⟨rfl, h2⟩))
  have heq := run_eqCav h0 h1
  go_enter Try.func6, Try.ntmps6
  go_wp2_with fail
  generalize (((w.alloc (Obj.cells #[.int .i64 x0.Kind, .int .u64 x0.A, .int .u64 x0.B] 24)).alloc (Obj.cells #[.int .i64 x1.Kind, .int .u64 x1.A, .int .u64 x1.B] 24)).alloc (Obj.cells #[.int .u64 x2.Tick, .int .i64 x2.Method, .int .u64 x2.Amount, .int .u64 x2.Who] 27)) = W0 at *
  have C0 := hid (fun (W : World) (h : Below W0.heap.size W0 W) => And.intro (v0.call h).c0 (And.intro (v0.call h).c1 (v0.call h).c2))
  have C1 := hid (fun (W : World) (h : Below W0.heap.size W0 W) => And.intro (v1.call h).c0 (And.intro (v1.call h).c1 (v1.call h).c2))
  have C2 := hid (fun (W : World) (h : Below W0.heap.size W0 W) => And.intro (v2.call h).c0 (And.intro (v2.call h).c1 (And.intro (v2.call h).c2 (v2.call h).c3)))
  clear v0 v1 v2
  refine (live6_any _).mono ?_
  rintro e w1 ⟨rfl, hb1⟩
  have HB := hb1
  clear hb1
  obtain ⟨a0, a1, a2⟩ := C0.out _ HB
  obtain ⟨b0, b1, b2⟩ := C1.out _ HB
  go_wp2_with fail
  refine (cTighter_any _ _ (fun _ => True) x0 x1 _ (P0.out _) (P1.out _)).mono ?_
  rintro e w2 ⟨rfl, hb2⟩
  replace HB := bel_call HB hb2
  clear hb2 a0 a1 a2 b0 b1 b2
  obtain ⟨a0, a1, a2⟩ := C0.out _ HB
  obtain ⟨b0, b1, b2⟩ := C1.out _ HB
  go_wp2_with fail
  refine (cTighter_any _ _ (fun _ => True) x1 x0 _ (P1.out _) (P0.out _)).mono ?_
  rw [tgE_symm x1 x0]
  rintro e w3 ⟨rfl, hb3⟩
  replace HB := bel_call HB hb3
  clear hb3 a0 a1 a2 b0 b1 b2
  rcases tg_is (a := x0) (b := x1) with ⟨t1, t2, t3⟩ | ⟨t1, t2, t3⟩
  rotate_left
  · rw [t1, t2, show tgV x1 x0 = false from by
      rcases tg_is (a := x1) (b := x0) with ⟨_, _, k⟩ | ⟨_, k, _⟩
      · exact absurd ⟨k.2.1, k.1, k.2.2.1.symm, k.2.2.2.symm⟩ t3
      · exact k]
    clear t1 t2 t3
    go_wp2
    go_ret
    exact ⟨rfl, bel_call hb0 HB⟩
  have t4 : TightOk x1 x0 := ⟨t3.2.1, t3.1, t3.2.2.1.symm, t3.2.2.2.symm⟩
  have t5 : tgV x1 x0 = tgB x1 x0 := by
    rcases tg_is (a := x1) (b := x0) with ⟨_, k, _⟩ | ⟨_, _, k⟩
    · exact k
    · exact absurd t4 k
  rw [t1, t2, t5]
  have HBO := hid (tg_both h0 h1 t3)
  have HT1 := hid (fun h => hlV_tight (u := x2) t3 h)
  have HT2 := hid (fun h => hlV_tight (u := x2) t4 h)
  have HES := hid (hlE_same x2 t3.2.1 t3.1)
  clear t1 t2 t3 t4 t5
  obtain ⟨a0, a1, a2⟩ := C0.out _ HB
  obtain ⟨b0, b1, b2, b3⟩ := C2.out _ HB
  go_wp2_with fail
  refine (cHolds_any _ _ (fun _ => True) x0 x2 _ (P0.out _) (P2.out _)).mono ?_
  rintro e w4 ⟨rfl, hb4⟩
  replace HB := bel_call HB hb4
  clear hb4 a0 a1 a2 b0 b1 b2 b3
  obtain ⟨a0, a1, a2⟩ := C1.out _ HB
  obtain ⟨b0, b1, b2, b3⟩ := C2.out _ HB
  go_wp2_with fail
  refine (cHolds_any _ _ (fun _ => True) x1 x2 _ (P1.out _) (P2.out _)).mono ?_
  rw [HES.out]
  rintro e w5 ⟨rfl, hb5⟩
  replace HB := bel_call HB hb5
  clear hb5 b0 b1 b2 b3 a0 a1 a2
  obtain ⟨a0, a1, a2⟩ := C0.out _ HB
  obtain ⟨b0, b1, b2⟩ := C1.out _ HB
  have hnn : (hlE x0 x2 != hlE x0 x2) = false := by simp
  generalize hlE x0 x2 = he at *
  have HBE := hid (bel_call hb0 HB)
  clear HES
  generalize decide (x0 = x1) = dd at *
  generalize hlV x0 x2 = p at *
  generalize hlV x1 x2 = q at *
  generalize tgB x0 x1 = x at *
  generalize tgB x1 x0 = y at *
  cases x <;> cases y <;> cases p <;> cases q
  all_goals try (exfalso; have k := HT1.out; simp at k; done)
  all_goals try (exfalso; have k := HT2.out; simp at k; done)
  all_goals
    have h1 := HBO.out
    simp at h1
    subst h1
    clear HBO HT1 HT2
    go_wp2
    go_ret
    exact ⟨rfl, HBE.out⟩
end Go.Proofs.Ytikfdfdancgnpaa
