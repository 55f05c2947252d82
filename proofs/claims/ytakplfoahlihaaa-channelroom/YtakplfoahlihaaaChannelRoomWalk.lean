/-
  The walk of ChannelRoom.
-/
import Derived.Test.YtakplfoahlihaaaChannelSpec
namespace Go.Proofs.Ytakplfoahlihaaa
open Go.RowKit Go.WalkArith

set_option maxRecDepth 100000 in
set_option maxHeartbeats 4000000 in
theorem channelRoom_walkH (HC : ChannelSpec) (s0 : Array Value) (x0 : Chn) (a1 a2 : Int) (w : World) (r0 : lay_Channel.rep w (· < w.heap.size) x0 s0.toList) (b1 : 0 ≤ a1 ∧ a1 ≤ 18446744073709551615) (b2 : 0 ≤ a2 ∧ a2 ≤ 18446744073709551615) :
    Calls Try.prog 7 #[.agg s0, .int .u64 a1, .int .u64 a2] w fun e w' => e = .returned (.bool true) ∧ Below w.heap.size w w' := by
  have V1 := wf_u64 b1
  have V2 := wf_u64 b2
  obtain ⟨A0, n0, c0, rfl, hw0, hs0⟩ := agg_Channel r0
  clear r0
  have Z0 := hid hs0.len
  have hcap := hs0.cap
  unfold maxLen at hcap
  have hh0 := sl_hlds hs0
  have hb0 : Below w.heap.size w (w.alloc (Obj.cells #[.int .u64 x0.Id, .int .u64 x0.Local, .int .u64 x0.Remote, .int .u64 x0.Reserve, .int .u64 x0.Most, .slice A0 n0 c0, .bool x0.Open] 25)) := bel_alloc (Below.refl _ _) _
  have B0 := BoxC.new w x0 A0 n0 c0
  have S0 := Sl.call hs0 hb0
  clear hs0
  go_enter Try.func7, Try.ntmps7
  go_wp2_with fail
  generalize w.alloc (Obj.cells #[.int .u64 x0.Id, .int .u64 x0.Local, .int .u64 x0.Remote, .int .u64 x0.Reserve, .int .u64 x0.Most, .slice A0 n0 c0, .bool x0.Open] 25) = W0 at *
  have K0 := hid (fun (W : World) (h : Below W0.heap.size W0 W) => (B0.call h).all)
  have P0 := hid (fun (W : World) (h : Below W0.heap.size W0 W) => chan_in hw0 S0 h)
  refine (live9_any HC _).mono ?_
  rintro e w1 ⟨rfl, HB0⟩
  clear B0 S0
  by_cases hbig : 70 < n0
  · have d1 : decide ((70 : Int) < (n0 : Int)) = true := by simp; omega
    obtain ⟨p00, p01, p02, p03, p04, p05, p06⟩ := K0.out _ HB0
    go_wp2
    go_ret
    exact ⟨rfl, bel_call hb0 HB0⟩
  have d1 : decide ((70 : Int) < (n0 : Int)) = false := by simp; omega
  obtain ⟨ce, hce⟩ : ∃ z, chE x0 = z := ⟨_, rfl⟩
  have Qce := hid hce
  clear hce
  obtain ⟨rm, hrm⟩ : ∃ z, rmV x0 = z := ⟨_, rfl⟩
  have Qrm := hid hrm
  clear hrm
  obtain ⟨e1, he1⟩ : ∃ z, hoE x0 a1 a2 = z := ⟨_, rfl⟩
  have Qe1 := hid he1
  clear he1
  obtain ⟨d, hd⟩ : ∃ z, hoC x0 a1 a2 = z := ⟨_, rfl⟩
  have Qd := hid hd
  clear hd
  obtain ⟨p00, p01, p02, p03, p04, p05, p06⟩ := K0.out _ HB0
  go_wp2_with fail
  refine (HC.room _ x0 _ (P0.out _ HB0)).mono ?_
  rw [Qce.out, Qrm.out]
  rintro e w2 ⟨rfl, hb⟩
  replace HB0 := bel_call HB0 hb
  clear p00 p01 p02 p03 p04 p05 p06
  clear hb
  obtain ⟨p00, p01, p02, p03, p04, p05, p06⟩ := K0.out _ HB0
  go_wp2_with fail
  refine (HC.hold _ x0 a1 a2 _ (P0.out _ HB0) V1 V2).mono ?_
  rw [Qe1.out, Qd.out]
  rintro e w3 ⟨v, rfl, hv, hb⟩
  replace HB0 := bel_call HB0 hb
  clear p00 p01 p02 p03 p04 p05 p06
  clear hb
  obtain ⟨A1, n1, c1, rfl, hs1⟩ := hv.read
  have hw1 : ChnWf d := (by rw [← Qd.out]; exact ho_wf hw0 b2.1)
  clear hv
  have Z1 := hid hs1.len
  have hh1 := sl_hlds hs1
  have hba := bel_alloc (Below.refl w3.heap.size w3) (Obj.cells #[.int .u64 d.Id, .int .u64 d.Local, .int .u64 d.Remote, .int .u64 d.Reserve, .int .u64 d.Most, .slice A1 n1 c1, .bool d.Open] 25)
  have B1 := BoxC.new w3 d A1 n1 c1
  have S1 := Sl.call hs1 hba
  replace HB0 := bel_call HB0 hba
  clear hba hs1
  go_upto_region 7 with (fail)
  generalize w3.alloc (Obj.cells #[.int .u64 d.Id, .int .u64 d.Local, .int .u64 d.Remote, .int .u64 d.Reserve, .int .u64 d.Most, .slice A1 n1 c1, .bool d.Open] 25) = W1 at *
  generalize hg : w3.heap.size = g1 at *
  clear hg
  have K1 := hid (fun (W : World) (h : Below W1.heap.size W1 W) => (B1.call h).all)
  have P1 := hid (fun (W : World) (h : Below W1.heap.size W1 W) => chan_in hw1 S1 h)
  have HB1 := Below.refl W1.heap.size W1
  clear B1 S1
  have hm : mMax = 4611686018427387904 := rfl
  by_cases hok : ChOk x0
  rotate_left
  · have q1 : ce = 1 := by rw [← Qce.out]; exact if_neg hok
    have q2 : e1 = 1 := by rw [← Qe1.out]; exact if_neg fun k => hok k.1
    subst q1 q2
    clear hok
    go_wp2
    go_ret
    exact ⟨rfl, bel_call hb0 HB0⟩
  have q1 : ce = 0 := by rw [← Qce.out]; exact if_pos hok
  subst q1
  by_cases h0 : a2 = 0
  · have q2 : e1 = 1 := by rw [← Qe1.out]; exact if_neg fun k => k.2.1 h0
    have d0 : (a2 == 0) = true := by simpa using h0
    subst q2
    clear h0 hok
    go_wp2
    go_ret
    exact ⟨rfl, bel_call hb0 HB0⟩
  have d0 : (a2 == 0) = false := by simpa using h0
  by_cases hx : 4611686018427387904 < a2
  · have q2 : e1 = 1 := by rw [← Qe1.out]; exact if_neg fun k => by have := k.2.2; omega
    have d2 : decide (4611686018427387904 < a2) = true := decide_eq_true hx
    subst q2
    clear hx hok h0
    go_wp2
    go_ret
    exact ⟨rfl, bel_call hb0 HB0⟩
  have d2 : decide (4611686018427387904 < a2) = false := decide_eq_false hx
  have hl := room_law (id := a1) hok (n := a2) (by omega) (by omega)
  rw [Qe1.out, show roomN x0 = rm from by rw [← Qrm.out]; exact (if_pos hok).symm] at hl
  clear hok h0 hx hm
  rcases hl with h6 | ⟨h6, hq⟩
  · subst h6
    go_wp2
    go_ret
    exact ⟨rfl, bel_call hb0 HB0⟩
  have d6 : (e1 == 6) = false := by simpa using h6
  by_cases hz : e1 = 0
  · have d3 : decide (a2 ≤ rm) = true := decide_eq_true (hq.1 hz)
    subst hz
    clear hq h6
    go_wp2
    go_ret
    exact ⟨rfl, bel_call hb0 HB0⟩
  have d3 : decide (a2 ≤ rm) = false := decide_eq_false fun k => hz (hq.2 k)
  have dz : (e1 == 0) = false := by simpa using hz
  clear hq h6 hz
  go_wp2
  go_ret
  exact ⟨rfl, bel_call hb0 HB0⟩
end Go.Proofs.Ytakplfoahlihaaa
