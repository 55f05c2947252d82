/-
  The walk of ScoreScales.
-/
import Derived.Test.YtpkfejfdbjoehaaScoreSpec
import Derived.Test.YtpkfejfdbjoehaaPackLR
namespace Go.Proofs.Ytpkfejfdbjoehaa
open Go.RowKit Go.WalkArith

theorem oneO_bad {c : Chn} {a n r : Nat} (h : chE c ≠ 0) (hf : FVal (oneO c a n) r) : r = 0 := by
  unfold oneO at hf
  rw [if_neg h] at hf
  exact hf
theorem score_zero {rm aa : Int} {n : Nat} : scoreV rm aa 0 n = none ∨ ∃ b, scoreV rm aa 0 n = some b ∧ nanB b = false ∧ scK b = (0, 0) := by
  unfold scoreV
  cases floatBits .sub .f64 (floatOfInt .f64 rm) n with
  | none => exact .inl rfl
  | some l =>
    simp only [Option.bind_some]
    cases floatBits .quo .f64 l (floatOfInt .f64 aa) with
    | none => exact .inl rfl
    | some p => exact mul_zero p
theorem score_opp {rm aa : Int} {a n : Nat} : (scoreV rm aa a n = none ∧ scoreV rm aa (Go.Op.negFloat .f64 a) n = none) ∨ ∃ b c, scoreV rm aa a n = some b ∧ scoreV rm aa (Go.Op.negFloat .f64 a) n = some c ∧ nanB b = false ∧ scK c = negK (scK b) := by
  unfold scoreV
  cases floatBits .sub .f64 (floatOfInt .f64 rm) n with
  | none => exact .inl ⟨rfl, rfl⟩
  | some l =>
    simp only [Option.bind_some]
    cases floatBits .quo .f64 l (floatOfInt .f64 aa) with
    | none => exact .inl ⟨rfl, rfl⟩
    | some p => exact mul_neg a p
theorem negK_negK (p : Int × Int) : negK (negK p) = p := by simp [negK]
theorem nan_of_key {x y : Nat} (h : nanB x = false) (hk : scK y = negK (scK x)) : nanB y = false := by
  cases hy : nanB y with
  | false => rfl
  | true =>
    rw [nan_is hy] at hk
    unfold nanB at h
    unfold scK at hk
    cases hr : dbl.read x with
    | nan s t => rw [hr] at h; simp [Ieee.Datum.isNaN] at h
    | infinity s => rw [hr] at hk; cases s <;> simp [datK, negK] at hk
    | number s m i => rw [hr] at hk; simp [datK, negK] at hk

set_option maxRecDepth 100000 in
set_option maxHeartbeats 4000000 in
theorem scoreScales_walkH (HS : ScoreSpec) (s0 : Array Value) (x0 : Chn) (a1 a2 : Nat) (w : World) (r0 : lay_Channel.rep w (· < w.heap.size) x0 s0.toList) (_ : (Lit.float .f64 a1).wf = true) (_ : (Lit.float .f64 a2).wf = true) :
    Calls Try.prog 8 #[.agg s0, .float .f64 a1, .float .f64 a2] w fun e w' => e = .returned (.bool true) ∧ Below w.heap.size w w' := by
  obtain ⟨A0a, n0a, c0a, rfl, hw0, hs0a⟩ := agg_Channel r0
  clear r0
  have hcap := hs0a.cap
  unfold maxLen at hcap
  have hng : ∀ b, Go.Op.unary .neg (.float .f64 b) = pure (.float .f64 (Go.Op.negFloat .f64 b)) := fun _ => rfl
  have HB := Below.refl w.heap.size w
  go_enter Try.func8, Try.ntmps8
  have hba := bel_alloc (Below.refl w.heap.size w) (Obj.cells #[.int .u64 x0.Id, .int .u64 x0.Local, .int .u64 x0.Remote, .int .u64 x0.Reserve, .int .u64 x0.Most, .slice A0a n0a c0a, .bool x0.Open] 28)
  have B0 : Box (w.alloc (Obj.cells #[.int .u64 x0.Id, .int .u64 x0.Local, .int .u64 x0.Remote, .int .u64 x0.Reserve, .int .u64 x0.Most, .slice A0a n0a c0a, .bool x0.Open] 28)) w.heap.size 28 [.int .u64 x0.Id, .int .u64 x0.Local, .int .u64 x0.Remote, .int .u64 x0.Reserve, .int .u64 x0.Most, .slice A0a n0a c0a, .bool x0.Open] := Box.new w _ _
  have S0a := Sl.call hs0a hba
  replace HB := bel_call HB hba
  clear hba hs0a
  go_upto_region 1 with (fail)
  generalize w.alloc (Obj.cells #[.int .u64 x0.Id, .int .u64 x0.Local, .int .u64 x0.Remote, .int .u64 x0.Reserve, .int .u64 x0.Most, .slice A0a n0a c0a, .bool x0.Open] 28) = W0 at *
  have K0 := hid (fun (W : World) (h : Below W0.heap.size W0 W) => (show W.cell? ⟨w.heap.size, 0, none⟩ = some (.int .u64 x0.Id) ∧ W.cell? ⟨w.heap.size, 1, none⟩ = some (.int .u64 x0.Local) ∧ W.cell? ⟨w.heap.size, 2, none⟩ = some (.int .u64 x0.Remote) ∧ W.cell? ⟨w.heap.size, 3, none⟩ = some (.int .u64 x0.Reserve) ∧ W.cell? ⟨w.heap.size, 4, none⟩ = some (.int .u64 x0.Most) ∧ W.cell? ⟨w.heap.size, 5, none⟩ = some (.slice A0a n0a c0a) ∧ W.cell? ⟨w.heap.size, 6, none⟩ = some (.bool x0.Open) from ⟨(B0.call h).at_ 0 rfl, (B0.call h).at_ 1 rfl, (B0.call h).at_ 2 rfl, (B0.call h).at_ 3 rfl, (B0.call h).at_ 4 rfl, (B0.call h).at_ 5 rfl, (B0.call h).at_ 6 rfl⟩))
  have P0 := hid (fun (W : World) (h : Below W0.heap.size W0 W) => (show lay_Channel.rep W (· < W.heap.size) x0 #[.int .u64 x0.Id, .int .u64 x0.Local, .int .u64 x0.Remote, .int .u64 x0.Reserve, .int .u64 x0.Most, .slice A0a n0a c0a, .bool x0.Open].toList from chan_in hw0 S0a h))
  have HB0 := Below.refl W0.heap.size W0
  clear B0 S0a
  go_wp2_with fail
  with_reducible refine (live11_any HS _).mono ?_
  rintro e w1 ⟨rfl, hb⟩
  replace HB := bel_call HB hb
  replace HB0 := bel_call HB0 hb
  clear hb
  by_cases hbig : 70 < n0a
  · obtain ⟨p0x0, p0x1, p0x2, p0x3, p0x4, p0x5, p0x6⟩ := K0.out _ HB0
    have d1 : decide ((70 : Int) < (n0a : Int)) = true := by simp; omega
    go_wp2
    go_ret
    exact ⟨rfl, HB⟩
  have d1 : decide ((70 : Int) < (n0a : Int)) = false := by simp; omega
  obtain ⟨ce, hce⟩ : ∃ z, chE x0 = z := ⟨_, rfl⟩
  have Qce := hid hce
  clear hce
  obtain ⟨p0x0, p0x1, p0x2, p0x3, p0x4, p0x5, p0x6⟩ := K0.out _ HB0
  go_wp2_with fail
  with_reducible refine (HS.one _ x0 a1 a2 _ (P0.out _ HB0)).mono ?_
  rw [Qce.out]
  rintro e w2 ⟨ra, rfl, hra, hb⟩
  replace HB := bel_call HB hb
  replace HB0 := bel_call HB0 hb
  clear p0x0 p0x1 p0x2 p0x3 p0x4 p0x5 p0x6
  clear hb
  obtain ⟨p0x0, p0x1, p0x2, p0x3, p0x4, p0x5, p0x6⟩ := K0.out _ HB0
  go_wp2_with fail
  with_reducible refine (HS.one _ x0 (Go.Op.negFloat .f64 a1) a2 _ (P0.out _ HB0)).mono ?_
  rw [Qce.out]
  rintro e w3 ⟨rb, rfl, hrb, hb⟩
  replace HB := bel_call HB hb
  replace HB0 := bel_call HB0 hb
  clear p0x0 p0x1 p0x2 p0x3 p0x4 p0x5 p0x6
  clear hb
  obtain ⟨p0x0, p0x1, p0x2, p0x3, p0x4, p0x5, p0x6⟩ := K0.out _ HB0
  go_wp2_with fail
  with_reducible refine (HS.one _ x0 0 a2 _ (P0.out _ HB0)).mono ?_
  rw [Qce.out]
  rintro e w4 ⟨rz, rfl, hrz, hb⟩
  replace HB := bel_call HB hb
  replace HB0 := bel_call HB0 hb
  clear p0x0 p0x1 p0x2 p0x3 p0x4 p0x5 p0x6
  clear hb
  have tce : (ce != ce) = false := by simp
  by_cases hz : ce = 0
  rotate_left
  · have dz : (ce != 0) = true := by simpa using hz
    obtain rfl := oneO_bad (by rw [Qce.out]; exact hz) hra
    obtain rfl := oneO_bad (by rw [Qce.out]; exact hz) hrb
    obtain rfl := oneO_bad (by rw [Qce.out]; exact hz) hrz
    have z0 := order_same 0
    rw [key_zero.2] at z0
    clear hz hra hrb hrz
    go_wp2
    go_ret
    exact ⟨rfl, HB⟩
  subst hz
  have e0 : ∀ a n, oneO x0 a n = scoreV (rmV x0) (aaV x0) a n := fun a n => if_pos Qce.out
  rw [e0] at hra hrb hrz
  have HZ : nanB rz = true ∨ (nanB rz = false ∧ scK rz = (0, 0)) := by
    rcases score_zero (rm := rmV x0) (aa := aaV x0) (n := a2) with q | ⟨b, q1, q2, q3⟩
    · rw [q] at hrz; exact .inl hrz
    · rw [q1] at hrz
      have : rz = b := hrz
      subst this
      exact .inr ⟨q2, q3⟩
  have HAB : (nanB ra = true ∧ nanB rb = true) ∨ (nanB ra = false ∧ nanB rb = false ∧ scK rb = negK (scK ra)) := by
    rcases score_opp (rm := rmV x0) (aa := aaV x0) (a := a1) (n := a2) with ⟨q1, q2⟩ | ⟨b, c, q1, q2, q3, q4⟩
    · rw [q1] at hra; rw [q2] at hrb; exact .inl ⟨hra, hrb⟩
    · rw [q1] at hra; rw [q2] at hrb
      have e1 : ra = b := hra
      have e2 : rb = c := hrb
      subst e1 e2
      exact .inr ⟨q3, nan_of_key q3 q4, q4⟩
  clear hra hrb hrz e0
  have na := order_ne ra
  have nb := order_ne rb
  have nz := order_same rz
  have H1 := hid (fun (W : World) => HS.less rz 0 W)
  have H2 := hid (fun (W : World) => HS.less 0 rz W)
  have H3 := hid (fun (W : World) => HS.less ra (Go.Op.negFloat .f64 rb) W)
  have H4 := hid (fun (W : World) => HS.less (Go.Op.negFloat .f64 rb) ra W)
  rcases HZ with hz | ⟨hz, hk⟩
  all_goals rcases HAB with ⟨ha, hb'⟩ | ⟨ha, hb', hk2⟩
  all_goals
    rw [hz] at nz
    rw [ha] at na
    rw [hb'] at nb
    try (rw [hk, key_zero.1, ltK_irr] at H1 H2)
    try (rw [key_neg hb', hk2, negK_negK, ltK_irr] at H3 H4)
    try clear hk
    try clear hk2
    clear hz ha hb'
    go_wp2_with (first
      | ((with_reducible refine (H1.out _).mono ?_); rintro e wx ⟨rfl, hb⟩; replace HB := bel_call HB hb; clear hb)
      | ((with_reducible refine (H2.out _).mono ?_); rintro e wx ⟨rfl, hb⟩; replace HB := bel_call HB hb; clear hb)
      | ((with_reducible refine (H3.out _).mono ?_); rintro e wx ⟨rfl, hb⟩; replace HB := bel_call HB hb; clear hb)
      | ((with_reducible refine (H4.out _).mono ?_); rintro e wx ⟨rfl, hb⟩; replace HB := bel_call HB hb; clear hb))
    go_ret
    exact ⟨rfl, HB⟩
end Go.Proofs.Ytpkfejfdbjoehaa
