/-
  The walk of RootsApart.
-/
import Derived.Test.YtlenoiaepanejaaRootsSpec
namespace Go.Proofs.Ytlenoiaepanejaa
open Go.RowKit Go.WalkArith

theorem rtks_wf {w : World} {S : Nat → Prop} {A : Option Addr} {n c : Nat} {l : List Rtk} (h : Sl lay_RootKey w S A n c l) : ∀ x ∈ l, RtkWf x := fun x hx => by
  obtain ⟨j, hj, rfl⟩ := List.getElem_of_mem hx
  obtain ⟨_, _, _, _, _, _, _, _, hw⟩ := rtk_at h (show j < n by rw [← h.len]; exact hj)
  exact hw
theorem kyV_wf {l : List Rtk} (h : ∀ x ∈ l, RtkWf x) (id : Int) : (Lit.int .u64 (kyV l id)).wf = true := by
  by_cases q : kyE l id = 0
  · obtain ⟨-, r, -, h3, -, -, h6⟩ := ky_ok q
    rw [h6]
    exact (h r h3).key
  · rw [show kyV l id = 0 from if_neg q]
    decide

set_option maxRecDepth 100000 in
set_option maxHeartbeats 4000000 in
theorem rootsApart_walkH (HR : RootsSpec) (A0 : Option Addr) (n0 c0 : Nat) (x0 : List Rtk) (a1 a2 a3 : Int) (w : World) (r0 : Sl lay_RootKey w (· < w.heap.size) A0 n0 c0 x0) (b1 : 0 ≤ a1 ∧ a1 ≤ 18446744073709551615) (b2 : 0 ≤ a2 ∧ a2 ≤ 18446744073709551615) (b3 : 0 ≤ a3 ∧ a3 ≤ 18446744073709551615) :
    Calls Try.prog 5 #[.slice A0 n0 c0, .int .u64 a1, .int .u64 a2, .int .u64 a3] w fun e w' => e = .returned (.bool true) ∧ Below w.heap.size w w' := by
  have W1 := wf_u64 b1
  have W2 := wf_u64 b2
  have W3 := wf_u64 b3
  have hc0 := r0.cap
  unfold maxLen at hc0
  have WV := kyV_wf (rtks_wf r0) a1
  have K0 := hid (fun (W : World) (h : Below w.heap.size w W) => Sl.call r0 h)
  clear r0
  go_enter Try.func5, Try.ntmps5
  go_wp2_with fail
  refine (live8_any HR _).mono ?_
  rintro e w1 ⟨rfl, hb1⟩
  have HB := hb1
  clear hb1
  by_cases hbig : 70 < n0
  · have d1 : (70 : Int) < (n0 : Int) := by omega
    go_wp2
    go_ret
    exact ⟨rfl, HB⟩
  have d1 : decide ((70 : Int) < (n0 : Int)) = false := by simp; omega
  go_wp2_with fail
  refine (HR.key _ _ _ x0 a1 _ (K0.out _ HB) W1).mono ?_
  rintro e w2 ⟨rfl, hb2⟩
  replace HB := bel_call HB hb2
  clear hb2
  have HT := hid (HR.turn _ _ _ x0 a1 a2 _ (K0.out _ HB) W1 W2)
  by_cases ht : tnE x0 a1 a2 = 0
  rotate_left
  · rw [show tnL x0 a1 a2 = [] from if_neg ht] at HT
    have hne : (tnE x0 a1 a2 != 0) = true := by simpa using ht
    clear ht
    generalize tnE x0 a1 a2 = te at *
    generalize kyV x0 a1 = kv at *
    generalize kyE x0 a1 = ke at *
    go_wp2_with fail
    refine HT.out.mono ?_
    rintro e w3 ⟨v3, rfl, ho3, hb3⟩
    obtain ⟨A3, n3, c3, rfl, hs3⟩ := ho3.read
    have hn3 : n3 = 0 := hs3.len.symm.trans List.length_nil
    subst hn3
    go_wp2
    go_ret
    exact ⟨rfl, bel_call HB hb3⟩
  obtain ⟨g1, g2, g3, g4, g5, g6⟩ := apart_laws ht a3
  rw [ht] at HT
  have G2 := hid g2
  have G4 := hid g4
  have G5 := hid g5
  have G6 := hid g6
  have G3 := hid g3
  rw [g1]
  clear g1 g2 g3 g4 g5 g6 ht
  obtain ⟨m, hm⟩ : ∃ z, tnL x0 a1 a2 = z := ⟨_, rfl⟩
  rw [hm] at HT G2 G3 G4 G5 G6
  clear hm
  go_wp2_with fail
  refine HT.out.mono ?_
  rintro e w3 ⟨v3, rfl, ho3, hb3⟩
  obtain ⟨A3, n3, c3, rfl, hs3⟩ := ho3.read
  replace HB := bel_call HB hb3
  have HM := Below.refl w3.heap.size w3
  clear hb3 ho3 HT
  go_wp2_with fail
  refine (HR.key _ _ _ x0 a3 _ (K0.out _ HB) W3).mono ?_
  rintro e w4 ⟨rfl, hb4⟩
  replace HB := bel_call HB hb4
  replace HM := bel_call HM hb4
  clear hb4
  go_wp2_with fail
  refine (HR.key _ _ _ m a3 _ (Sl.call hs3 HM) W3).mono ?_
  rintro e w5 ⟨rfl, hb5⟩
  replace HB := bel_call HB hb5
  replace HM := bel_call HM hb5
  clear hb5
  have HT1 := hid (HR.turn _ _ _ m a1 a2 _ (Sl.call hs3 HM) W1 W2)
  rw [G4.out] at HT1
  have HT2 := hid (fun (W : World) (h : Below w3.heap.size w3 W) => HR.turn _ _ _ m a1 (kyV x0 a1) W (Sl.call hs3 h) W1 WV)
  rw [G5.out, G6.out] at HT2
  by_cases hne : a3 = a1
  · subst hne
    rw [G3.out.1, G3.out.2]
    have d2 : (a3 != a3) = false := by simp
    have d3 : (a3 == a3) = true := by simp
    have d4 : (a2 != a2) = false := by simp
    clear G2 G3 G4 G5 G6
    generalize kyV x0 a3 = kv at *
    generalize kyE x0 a3 = ke at *
    go_wp2_with fail
    refine HT1.out.mono ?_
    rintro e w6 ⟨v6, rfl, ho6, hb6⟩
    obtain ⟨A6, n6, c6, rfl, hs6⟩ := ho6.read
    replace HB := bel_call HB hb6
    replace HM := bel_call HM hb6
    clear hb6 ho6 hs6
    go_wp2_with fail
    refine (HT2.out _ HM).mono ?_
    rintro e w7 ⟨v7, rfl, ho7, hb7⟩
    obtain ⟨A7, n7, c7, rfl, hs7⟩ := ho7.read
    replace HB := bel_call HB hb7
    have HS := hid (HR.same _ _ _ _ _ _ x0 x0 _ hs7 (K0.out _ HB))
    rw [decide_eq_true (rfl : x0 = x0)] at HS
    go_wp2_with fail
    refine HS.out.mono ?_
    rintro e w8 ⟨rfl, hb8⟩
    go_wp2
    go_ret
    exact ⟨rfl, bel_call HB hb8⟩
  · rw [(G2.out hne).1, (G2.out hne).2]
    have d2 : (a3 != a1) = true := by simpa using hne
    have d3 : (a3 == a1) = false := by simpa using hne
    clear G2 G3 G4 G5 G6 hne
    generalize kyV x0 a1 = kv at *
    generalize kyV x0 a3 = kw at *
    generalize kyE x0 a3 = kf at *
    have d4 : (kw != kw) = false := by simp
    have d5 : (kf != kf) = false := by simp
    go_wp2_with fail
    refine HT1.out.mono ?_
    rintro e w6 ⟨v6, rfl, ho6, hb6⟩
    obtain ⟨A6, n6, c6, rfl, hs6⟩ := ho6.read
    replace HB := bel_call HB hb6
    replace HM := bel_call HM hb6
    clear hb6 ho6 hs6
    go_wp2_with fail
    refine (HT2.out _ HM).mono ?_
    rintro e w7 ⟨v7, rfl, ho7, hb7⟩
    obtain ⟨A7, n7, c7, rfl, hs7⟩ := ho7.read
    replace HB := bel_call HB hb7
    have HS := hid (HR.same _ _ _ _ _ _ x0 x0 _ hs7 (K0.out _ HB))
    rw [decide_eq_true (rfl : x0 = x0)] at HS
    go_wp2_with fail
    refine HS.out.mono ?_
    rintro e w8 ⟨rfl, hb8⟩
    go_wp2
    go_ret
    exact ⟨rfl, bel_call HB hb8⟩
end Go.Proofs.Ytlenoiaepanejaa
