/-
  The walk of RootsOrder.
-/
import Derived.Test.YtlenoiaepanejaaRootsApartWalk
namespace Go.Proofs.Ytlenoiaepanejaa
open Go.RowKit Go.WalkArith

set_option maxRecDepth 100000 in
set_option maxHeartbeats 4000000 in
theorem rootsOrder_walkH (HR : RootsSpec) (A0 : Option Addr) (n0 c0 : Nat) (x0 : List Rtk) (a1 a2 a3 a4 : Int) (w : World) (r0 : Sl lay_RootKey w (· < w.heap.size) A0 n0 c0 x0) (b1 : 0 ≤ a1 ∧ a1 ≤ 18446744073709551615) (b2 : 0 ≤ a2 ∧ a2 ≤ 18446744073709551615) (b3 : 0 ≤ a3 ∧ a3 ≤ 18446744073709551615) (b4 : 0 ≤ a4 ∧ a4 ≤ 18446744073709551615) :
    Calls Try.prog 7 #[.slice A0 n0 c0, .int .u64 a1, .int .u64 a2, .int .u64 a3, .int .u64 a4] w fun e w' => e = .returned (.bool true) ∧ Below w.heap.size w w' := by
  have W1 := wf_u64 b1
  have W2 := wf_u64 b2
  have W3 := wf_u64 b3
  have W4 := wf_u64 b4
  have hc0 := r0.cap
  unfold maxLen at hc0
  have HL := hid r0.len
  have K0 := hid (fun (W : World) (h : Below w.heap.size w W) => Sl.call r0 h)
  clear r0
  go_enter Try.func7, Try.ntmps7
  go_wp2_with fail
  refine (live8_any HR _).mono ?_
  rintro e w1 ⟨rfl, hb1⟩
  have HB := hb1
  clear hb1
  by_cases hbig : 62 < n0
  · have d1 : (62 : Int) < (n0 : Int) := by omega
    go_wp2
    go_ret
    exact ⟨rfl, HB⟩
  have d1 : decide ((62 : Int) < (n0 : Int)) = false := by simp; omega
  have H1 := hid (HR.add _ _ _ x0 a1 a2 _ (K0.out _ HB) W1 W2)
  have H2 := hid (fun (W : World) (h : Below w.heap.size w W) => HR.add _ _ _ x0 a3 a4 W (K0.out W h) W3 W4)
  have HO := hid (fun h1 h2 => order_roots (l := x0) (id := a1) (key := a2) (other := a3) (more := a4) h1 h2 (by rw [HL.out]; omega))
  obtain ⟨e1, he1⟩ : ∃ z, adE x0 a1 a2 = z := ⟨_, rfl⟩
  obtain ⟨e2, he2⟩ : ∃ z, adE x0 a3 a4 = z := ⟨_, rfl⟩
  obtain ⟨l1, hl1⟩ : ∃ z, adL x0 a1 a2 = z := ⟨_, rfl⟩
  obtain ⟨l2, hl2⟩ : ∃ z, adL x0 a3 a4 = z := ⟨_, rfl⟩
  rw [he1, hl1] at H1 HO
  rw [he2, hl2] at H2 HO
  clear he1 he2 hl1 hl2
  go_wp2_with fail
  refine H1.out.mono ?_
  rintro e w2 ⟨v2, rfl, ho2, hb2⟩
  obtain ⟨A2, n2, c2, rfl, hs2⟩ := ho2.read
  replace HB := bel_call HB hb2
  have HX := Below.refl w2.heap.size w2
  clear hb2 ho2 H1
  go_wp2_with fail
  refine (H2.out _ HB).mono ?_
  rintro e w3 ⟨v3, rfl, ho3, hb3⟩
  obtain ⟨A3, n3, c3, rfl, hs3⟩ := ho3.read
  replace HB := bel_call HB hb3
  replace HX := bel_call HX hb3
  have HY := Below.refl w3.heap.size w3
  clear hb3 ho3 H2
  by_cases q1 : e1 = 0
  rotate_left
  · have d2 : (e1 != 0) = true := by simpa using q1
    clear q1 HO
    go_wp2
    go_ret
    exact ⟨rfl, HB⟩
  subst q1
  by_cases q2 : e2 = 0
  rotate_left
  · have d2 : (e2 != 0) = true := by simpa using q2
    clear q2 HO
    go_wp2
    go_ret
    exact ⟨rfl, HB⟩
  subst q2
  obtain ⟨o1, o2, o3, o4⟩ := HO.out rfl rfl
  clear HO
  have H3 := hid (HR.add _ _ _ l1 a3 a4 _ (Sl.call hs2 HX) W3 W4)
  have H4 := hid (fun (W : World) (h : Below w3.heap.size w3 W) => HR.add _ _ _ l2 a1 a2 W (Sl.call hs3 h) W1 W2)
  rw [← o1, ← o2] at H4
  obtain ⟨g, hg⟩ : ∃ z, adE l1 a3 a4 = z := ⟨_, rfl⟩
  obtain ⟨m, hm⟩ : ∃ z, adL l1 a3 a4 = z := ⟨_, rfl⟩
  rw [hg, hm] at H3 H4
  rw [hg] at o3 o4
  clear hg hm o1 o2
  have dgg : (g != g) = false := by simp
  have O3 := hid o3
  have O4 := hid o4
  clear o3 o4
  go_wp2_with fail
  refine H3.out.mono ?_
  rintro e w4 ⟨v4, rfl, ho4, hb4⟩
  obtain ⟨A4, n4, c4, rfl, hs4⟩ := ho4.read
  replace HB := bel_call HB hb4
  replace HY := bel_call HY hb4
  have HZ := Below.refl w4.heap.size w4
  clear hb4 ho4 H3
  go_wp2_with fail
  refine (H4.out _ HY).mono ?_
  rintro e w5 ⟨v5, rfl, ho5, hb5⟩
  obtain ⟨A5, n5, c5, rfl, hs5⟩ := ho5.read
  replace HB := bel_call HB hb5
  replace HZ := bel_call HZ hb5
  clear hb5 ho5 H4
  have HS := hid (HR.same _ _ _ _ _ _ m m _ (Sl.call hs4 HZ) hs5)
  rw [decide_eq_true (rfl : m = m)] at HS
  go_wp2_with fail
  refine HS.out.mono ?_
  rintro e w6 ⟨rfl, hb6⟩
  replace HB := bel_call HB hb6
  clear hb6 HS
  by_cases q3 : g = 0
  · subst q3
    obtain ⟨p1, p2⟩ := O4.out.1 rfl
    have d2 : (a1 != a3) = true := by simpa using p1
    have d3 : (a2 != a4) = true := by simpa using p2
    clear p1 p2 O3 O4
    go_wp2
    go_ret
    exact ⟨rfl, HB⟩
  · have hg6 : g = 6 := by
      rcases O3.out with h | h
      · exact absurd h q3
      · exact h
    have hno := fun h => q3 (O4.out.2 h)
    subst hg6
    clear q3 O3 O4
    by_cases p1 : a1 = a3
    · have d2 : (a1 != a3) = false := by simpa using p1
      clear p1 hno
      go_wp2
      go_ret
      exact ⟨rfl, HB⟩
    · have d2 : (a1 != a3) = true := by simpa using p1
      have p2 : a2 = a4 := by
        by_cases p2 : a2 = a4
        · exact p2
        · exact absurd ⟨p1, p2⟩ hno
      have d3 : (a2 != a4) = false := by simpa using p2
      clear p1 p2 hno
      go_wp2
      go_ret
      exact ⟨rfl, HB⟩
end Go.Proofs.Ytlenoiaepanejaa
