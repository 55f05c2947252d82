/-
  The walk of ScoreDoes.
-/
import Derived.Test.YtpkfejfdbjoehaaScoreRef2
import Derived.Test.YtpkfejfdbjoehaaBigsizeSame
namespace Go.Proofs.Ytpkfejfdbjoehaa
open Go.RowKit Go.WalkArith

set_option maxRecDepth 100000 in
set_option maxHeartbeats 8000000 in
theorem scoreDoes_walkH (HS : ScoreSpec) (A0 : Option Addr) (n0 c0 : Nat) (x0 : List Chn) (A1 : Option Addr) (n1 c1 : Nat) (x1 : List Wgt) (a2 : Int) (a3 a4 : Nat) (a5 : Int) (s6 : Array Value) (x6 : Chn) (w : World) (r0 : Sl lay_Channel w (· < w.heap.size) A0 n0 c0 x0) (r1 : Sl lay_Weight w (· < w.heap.size) A1 n1 c1 x1) (b2 : 0 ≤ a2 ∧ a2 ≤ 18446744073709551615) (_ : (Lit.float .f64 a3).wf = true) (_ : (Lit.float .f64 a4).wf = true) (b5 : 0 ≤ a5 ∧ a5 ≤ 18446744073709551615) (r6 : lay_Channel.rep w (· < w.heap.size) x6 s6.toList) :
    Calls Try.prog 3 #[.slice A0 n0 c0, .slice A1 n1 c1, .int .u64 a2, .float .f64 a3, .float .f64 a4, .int .u64 a5, .agg s6] w fun e w' => e = .returned (.bool true) ∧ Below w.heap.size w w' := by
  have V2 := wf_u64 b2
  have V5 := wf_u64 b5
  have hc1 := r1.cap
  unfold maxLen at hc1
  obtain ⟨A6a, n6a, c6a, rfl, hw6, hs6a⟩ := agg_Channel r6
  clear r6
  have hc6 := hs6a.cap
  unfold maxLen at hc6
  have KA := hid (fun (W : World) (h : Below w.heap.size w W) => Sl.call r0 h)
  have KW := hid (fun (W : World) (h : Below w.heap.size w W) => Sl.call r1 h)
  clear r0 r1
  have HB := Below.refl w.heap.size w
  go_enter Try.func3, Try.ntmps3
  have hba := bel_alloc (Below.refl w.heap.size w) (Obj.cells #[.int .u64 x6.Id, .int .u64 x6.Local, .int .u64 x6.Remote, .int .u64 x6.Reserve, .int .u64 x6.Most, .slice A6a n6a c6a, .bool x6.Open] 28)
  have B6 : Box (w.alloc (Obj.cells #[.int .u64 x6.Id, .int .u64 x6.Local, .int .u64 x6.Remote, .int .u64 x6.Reserve, .int .u64 x6.Most, .slice A6a n6a c6a, .bool x6.Open] 28)) w.heap.size 28 [.int .u64 x6.Id, .int .u64 x6.Local, .int .u64 x6.Remote, .int .u64 x6.Reserve, .int .u64 x6.Most, .slice A6a n6a c6a, .bool x6.Open] := Box.new w _ _
  have S6a := Sl.call hs6a hba
  replace HB := bel_call HB hba
  clear hba hs6a
  go_upto_region 1 with (fail)
  generalize w.alloc (Obj.cells #[.int .u64 x6.Id, .int .u64 x6.Local, .int .u64 x6.Remote, .int .u64 x6.Reserve, .int .u64 x6.Most, .slice A6a n6a c6a, .bool x6.Open] 28) = W6 at *
  have K6 := hid (fun (W : World) (h : Below W6.heap.size W6 W) => (show W.cell? ⟨w.heap.size, 0, none⟩ = some (.int .u64 x6.Id) ∧ W.cell? ⟨w.heap.size, 1, none⟩ = some (.int .u64 x6.Local) ∧ W.cell? ⟨w.heap.size, 2, none⟩ = some (.int .u64 x6.Remote) ∧ W.cell? ⟨w.heap.size, 3, none⟩ = some (.int .u64 x6.Reserve) ∧ W.cell? ⟨w.heap.size, 4, none⟩ = some (.int .u64 x6.Most) ∧ W.cell? ⟨w.heap.size, 5, none⟩ = some (.slice A6a n6a c6a) ∧ W.cell? ⟨w.heap.size, 6, none⟩ = some (.bool x6.Open) from ⟨(B6.call h).at_ 0 rfl, (B6.call h).at_ 1 rfl, (B6.call h).at_ 2 rfl, (B6.call h).at_ 3 rfl, (B6.call h).at_ 4 rfl, (B6.call h).at_ 5 rfl, (B6.call h).at_ 6 rfl⟩))
  have P6 := hid (fun (W : World) (h : Below W6.heap.size W6 W) => (show lay_Channel.rep W (· < W.heap.size) x6 #[.int .u64 x6.Id, .int .u64 x6.Local, .int .u64 x6.Remote, .int .u64 x6.Reserve, .int .u64 x6.Most, .slice A6a n6a c6a, .bool x6.Open].toList from chan_in hw6 S6a h))
  have HB6 := Below.refl W6.heap.size W6
  clear B6 S6a
  go_wp2_with fail
  with_reducible refine (live11_any HS _).mono ?_
  rintro e w1 ⟨rfl, hb⟩
  replace HB := bel_call HB hb
  replace HB6 := bel_call HB6 hb
  clear hb
  go_wp2_with fail
  with_reducible refine (refFew10_any _ _ _ x0 _ (KA.out _ HB)).mono ?_
  rintro e w2 ⟨rfl, hb⟩
  replace HB := bel_call HB hb
  replace HB6 := bel_call HB6 hb
  clear hb
  cases hfew : fewL x0
  · go_wp2
    go_ret
    exact ⟨rfl, HB⟩
  clear hfew
  by_cases hbig : 100 < n1
  · have d1 : decide ((100 : Int) < (n1 : Int)) = true := by simp; omega
    go_wp2
    go_ret
    exact ⟨rfl, HB⟩
  have d1 : decide ((100 : Int) < (n1 : Int)) = false := by simp; omega
  by_cases hbig2 : 70 < n6a
  · obtain ⟨p6x0, p6x1, p6x2, p6x3, p6x4, p6x5, p6x6⟩ := K6.out _ HB6
    have d2 : decide ((70 : Int) < (n6a : Int)) = true := by simp; omega
    go_wp2
    go_ret
    exact ⟨rfl, HB⟩
  have d2 : decide ((70 : Int) < (n6a : Int)) = false := by simp; omega
  obtain ⟨ce, hce⟩ : ∃ z, chE x6 = z := ⟨_, rfl⟩
  have Qce := hid hce
  clear hce
  obtain ⟨le, hle⟩ : ∃ z, lgE x0 = z := ⟨_, rfl⟩
  have Qle := hid hle
  clear hle
  obtain ⟨ol, hol⟩ : ∃ z, ordL x0 x1 a2 = z := ⟨_, rfl⟩
  have Qol := hid hol
  clear hol
  obtain ⟨fv, hfv⟩ : ∃ z, fiV x0 x1 a2 = z := ⟨_, rfl⟩
  have Qfv := hid hfv
  clear hfv
  obtain ⟨fe, hfe⟩ : ∃ z, fiE x0 x1 a2 = z := ⟨_, rfl⟩
  have Qfe := hid hfe
  clear hfe
  obtain ⟨wv, hwv⟩ : ∃ z, weighV x1 a5 = z := ⟨_, rfl⟩
  have Qwv := hid hwv
  clear hwv
  obtain ⟨lk, hlk⟩ : ∃ z, ltK (scK a3) (scK a4) = z := ⟨_, rfl⟩
  have Qlk := hid hlk
  clear hlk
  obtain ⟨p6x0, p6x1, p6x2, p6x3, p6x4, p6x5, p6x6⟩ := K6.out _ HB6
  go_wp2_with fail
  with_reducible refine (HS.one _ x6 a3 a4 _ (P6.out _ HB6)).mono ?_
  rw [Qce.out]
  rintro e w3 ⟨rx, rfl, hrx, hb⟩
  replace HB := bel_call HB hb
  replace HB6 := bel_call HB6 hb
  clear p6x0 p6x1 p6x2 p6x3 p6x4 p6x5 p6x6
  clear hb
  obtain ⟨p6x0, p6x1, p6x2, p6x3, p6x4, p6x5, p6x6⟩ := K6.out _ HB6
  go_wp2_with fail
  with_reducible refine (refOne11_any _ x6 a3 a4 _ (P6.out _ HB6)).mono ?_
  rw [Qce.out]
  rintro e w4 ⟨ry, rfl, hry, -, hb⟩
  replace HB := bel_call HB hb
  replace HB6 := bel_call HB6 hb
  clear p6x0 p6x1 p6x2 p6x3 p6x4 p6x5 p6x6
  clear hb
  have HXY := hid (show sameK rx ry = true from sameK_of (by rw [hrx.key, hry.key]))
  clear hrx hry
  go_wp2_with fail
  with_reducible refine (HS.order _ _ _ x0 _ _ _ x1 a2 _ (KA.out _ HB) (KW.out _ HB) V2).mono ?_
  rw [Qle.out, Qol.out]
  rintro e w5 ⟨v, rfl, hv, hb⟩
  replace HB := bel_call HB hb
  replace HB6 := bel_call HB6 hb
  clear hb
  obtain ⟨A7, n7, c7, rfl, R7⟩ := hv.formN
  clear hv
  have HB7 := Below.refl w5.heap.size w5
  go_wp2_with fail
  with_reducible refine (refOrder11_any _ _ _ x0 _ _ _ x1 a2 _ (KA.out _ HB) (KW.out _ HB)).mono ?_
  rw [Qle.out, Qol.out]
  rintro e w6 ⟨v, rfl, hv, hb⟩
  replace HB := bel_call HB hb
  replace HB6 := bel_call HB6 hb
  replace HB7 := bel_call HB7 hb
  clear hb
  obtain ⟨A8, n8, c8, rfl, R8⟩ := hv.formN
  clear hv
  have HB8 := Below.refl w6.heap.size w6
  go_wp2_with fail
  with_reducible refine (HS.first _ _ _ x0 _ _ _ x1 a2 _ (KA.out _ HB) (KW.out _ HB) V2).mono ?_
  rw [Qfv.out, Qfe.out]
  rintro e w7 ⟨rfl, hb⟩
  replace HB := bel_call HB hb
  replace HB6 := bel_call HB6 hb
  replace HB7 := bel_call HB7 hb
  replace HB8 := bel_call HB8 hb
  clear hb
  go_wp2_with fail
  with_reducible refine (refFirst11_any _ _ _ x0 _ _ _ x1 a2 _ (KA.out _ HB) (KW.out _ HB)).mono ?_
  rw [Qfv.out, Qfe.out]
  rintro e w8 ⟨rfl, hb⟩
  replace HB := bel_call HB hb
  replace HB6 := bel_call HB6 hb
  replace HB7 := bel_call HB7 hb
  replace HB8 := bel_call HB8 hb
  clear hb
  have tce : (ce == ce) = true := by simp
  have tle : (le == le) = true := by simp
  have tfv : (fv == fv) = true := by simp
  have tfe : (fe == fe) = true := by simp
  have tlk : (lk == lk) = true := by simp
  go_wp2_with fail
  with_reducible refine (HS.less a3 a4 _).mono ?_
  rw [Qlk.out]
  rintro e w9 ⟨rfl, hb⟩
  replace HB := bel_call HB hb
  replace HB6 := bel_call HB6 hb
  replace HB7 := bel_call HB7 hb
  replace HB8 := bel_call HB8 hb
  clear hb
  go_wp2_with fail
  with_reducible refine (refLess11_any a3 a4 _).mono ?_
  rw [Qlk.out]
  rintro e wpure ⟨rfl, rfl⟩
  go_wp2_with fail
  with_reducible refine (refSame11_any rx ry _).mono ?_
  rw [HXY.out]
  rintro e wpure ⟨rfl, rfl⟩
  go_wp2_with fail
  with_reducible refine (HS.weigh _ _ _ x1 a5 _ (KW.out _ HB) V5).mono ?_
  rw [Qwv.out]
  rintro e w10 ⟨rfl, hb⟩
  replace HB := bel_call HB hb
  replace HB6 := bel_call HB6 hb
  replace HB7 := bel_call HB7 hb
  replace HB8 := bel_call HB8 hb
  clear hb
  go_wp2_with fail
  with_reducible refine (refWeigh11_any _ _ _ x1 a5 _ (KW.out _ HB)).mono ?_
  rw [Qwv.out]
  rintro e w11 ⟨rfl, hb⟩
  replace HB := bel_call HB hb
  replace HB6 := bel_call HB6 hb
  replace HB7 := bel_call HB7 hb
  replace HB8 := bel_call HB8 hb
  clear hb
  go_wp2_with fail
  with_reducible refine (refSame11_any wv wv _).mono ?_
  rw [sameK_of rfl]
  rintro e wpure ⟨rfl, rfl⟩
  go_wp2_with fail
  with_reducible refine (sameNumbers_any _ _ _ _ _ _ ol ol _ ((R7.below HB7).more HB7.size) ((R8.below HB8).more HB8.size)).mono ?_
  rw [show decide (ol = ol) = true from decide_eq_true rfl]
  rintro e w12 ⟨rfl, hb⟩
  replace HB := bel_call HB hb
  replace HB6 := bel_call HB6 hb
  replace HB7 := bel_call HB7 hb
  replace HB8 := bel_call HB8 hb
  clear hb
  go_wp2
  go_ret
  exact ⟨rfl, HB⟩
end Go.Proofs.Ytpkfejfdbjoehaa
