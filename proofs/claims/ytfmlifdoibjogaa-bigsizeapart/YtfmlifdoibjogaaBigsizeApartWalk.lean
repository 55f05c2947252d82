/-
  The walk of BigsizeApart.
-/
import Derived.Test.YtfmlifdoibjogaaBigsizeLive
import Derived.Test.YtfmlifdoibjogaaBigsizeSame
namespace Go.Proofs.Ytfmlifdoibjogaa
open Go.RowKit Go.WalkArith

set_option maxHeartbeats 1000000 in
theorem bigsizeApart_walk (a0 a1 : Int) (w : World) (b0 : 0 ≤ a0 ∧ a0 ≤ 18446744073709551615) (b1 : 0 ≤ a1 ∧ a1 ≤ 18446744073709551615) :
    Calls Try.prog 5 #[.int .u64 a0, .int .u64 a1] w fun e w' => e = .returned (.bool true) ∧ Below w.heap.size w w' := by
  have x0 : octs [a0] = oct a0 := by simp [octs]
  have x1 : octs [a1] = oct a1 := by simp [octs]
  have X0 := hid x0
  have X1 := hid x1
  clear x0 x1
  have W0 := wf_u64 b0
  have W1 := wf_u64 b1
  go_enter Try.func5, Try.ntmps5
  go_wp2_with fail
  refine (live_any _).mono ?_
  rintro e w1 ⟨rfl, hb1⟩
  go_wp2_with fail
  refine (put_any _ _ _ [a0] _ (Rd.lit1 ?_ W0) (by omega)).mono ?_
  · go_simp
  rintro e w2 ⟨v2, rfl, hown2, hb2⟩
  rw [X0.out] at hown2
  obtain ⟨A2, c2, rfl, hr2⟩ := hown2.form
  clear hown2
  go_wp2_with fail
  refine (put_any _ _ _ [a1] _ (Rd.lit1 ?_ W1) (by omega)).mono ?_
  · go_simp
  rintro e w3 ⟨v3, rfl, hown3, hb3⟩
  rw [X1.out] at hown3
  obtain ⟨A3, c3, rfl, hr3⟩ := hown3.form
  clear hown3
  replace hr2 := hr2.below (((Below.refl w2.heap.size w2).alloc (Nat.le_refl _) _).trans (hb3.mono (by simp)))
  have HB : Below w.heap.size w w3 := by (repeat (first | exact Below.refl _ _ | refine Below.drew ?_ | refine bel_drewN ?_ _ | refine bel_alloc ?_ _ | refine bel_call ?_ (by assumption)))
  clear hb1 hb2 hb3 W0 W1
  have l0 := oct_len a0
  have l1 := oct_len a1
  have l2 := bhd_le (fst a0)
  have l3 := bhd_le (fst a1)
  have L0 : (oct a0).length ≤ 9 := by omega
  have L1 : (oct a1).length ≤ 9 := by omega
  clear l0 l1 l2 l3
  by_cases he : a0 = a1
  · subst he
    go_wp2_with (go_at_call 12; go_must (refine (sameBytes_any _ _ _ _ _ _ _ _ _ _ _ hr2 hr3).mono ?_; rintro e w4 ⟨rfl, rfl⟩))
    go_ret
    exact ⟨by simp, HB⟩
  · have hne : (a0 == a1) = false := by simpa using he
    by_cases hlt : a0 < a1
    · have hap := oct_apart b0.1 (by omega) hlt
      have g1 := str_lt (wf_bytes hr2.wf) (wf_bytes hr3.wf)
      rw [hap.2.1] at g1
      have g2 := str_eq (wf_bytes hr2.wf) (wf_bytes (hr3.upto hap.1).wf)
      rw [decide_eq_false hap.2.2] at g2
      have k1 := fun n => (hr2.drewN n).str (P := Try.prog) Try.underlying24 Try.underlying5 Try.underlying9
      have k2 := fun n => (hr3.drewN n).str (P := Try.prog) Try.underlying24 Try.underlying5 Try.underlying9
      have k3 := fun n => ((hr3.upto hap.1).drewN n).str (P := Try.prog) Try.underlying24 Try.underlying5 Try.underlying9
      have hc3 := hr3.cap
      have hle := hap.1
      clear hap hr2 hr3
      generalize oct a0 = o0 at *
      generalize oct a1 = o1 at *
      generalize strOfNums o0 = s0 at *
      generalize strOfNums o1 = s1 at *
      generalize strOfNums (List.take o0.length o1) = s2 at *
      go_wp2_with fail
      go_quiet (fail)
      go_wp2
      go_ret
      exact ⟨rfl, bel_drewN HB _⟩
    · have hap := oct_apart b1.1 (by omega) (show a1 < a0 from by omega)
      have g1 := str_lt (wf_bytes hr3.wf) (wf_bytes hr2.wf)
      rw [hap.2.1] at g1
      have g2 := str_eq (wf_bytes hr3.wf) (wf_bytes (hr2.upto hap.1).wf)
      rw [decide_eq_false hap.2.2] at g2
      have k1 := fun n => (hr3.drewN n).str (P := Try.prog) Try.underlying24 Try.underlying5 Try.underlying9
      have k2 := fun n => (hr2.drewN n).str (P := Try.prog) Try.underlying24 Try.underlying5 Try.underlying9
      have k3 := fun n => ((hr2.upto hap.1).drewN n).str (P := Try.prog) Try.underlying24 Try.underlying5 Try.underlying9
      have hc3 := hr2.cap
      have hle := hap.1
      clear hap hr3 hr2
      generalize oct a1 = o0 at *
      generalize oct a0 = o1 at *
      generalize strOfNums o0 = s0 at *
      generalize strOfNums o1 = s1 at *
      generalize strOfNums (List.take o0.length o1) = s2 at *
      go_wp2_with fail
      go_quiet (fail)
      go_wp2
      go_ret
      exact ⟨rfl, bel_drewN HB _⟩
end Go.Proofs.Ytfmlifdoibjogaa
