/-
  The contracts of the document's Less, Same, Weigh and One of layer 11.
-/
import Derived.Test.YtpkfejfdbjoehaaScoreSpec
import Derived.Test.YtpkfejfdbjoehaaBox
import Derived.Test.YtpkfejfdbjoehaaPackCR
namespace Go.Proofs.Ytpkfejfdbjoehaa
open Go.RowKit Go.WalkArith

theorem refLess11_any (a b : Nat) (w : World) : Calls Try.prog 18 #[.float .f64 a, .float .f64 b] w fun e w' => e = .returned (.bool (ltK (scK a) (scK b))) ∧ w = w' := by
  have n0 := order_ne a
  have s1 := order_same b
  have lt0 := order_lt a b
  have HN := hid (@nan_lt a b)
  cases hn : nanB a with
  | true =>
    rw [hn] at n0
    have HK := hid (HN.out hn)
    clear hn lt0
    go_enter Try.func18, Try.ntmps18
    go_wp2
    go_ret
    exact ⟨by rw [HK.out]; rfl, rfl⟩
  | false =>
    rw [hn] at n0
    have lt1 := lt0 hn
    clear hn lt0 s1
    go_enter Try.func18, Try.ntmps18
    go_wp2
    go_ret
    exact ⟨rfl, rfl⟩
theorem refSame11_any (a b : Nat) (w : World) : Calls Try.prog 19 #[.float .f64 a, .float .f64 b] w fun e w' => e = .returned (.bool (sameK a b)) ∧ w = w' := by
  have H1 := hid (fun (W : World) => refLess11_any a b W)
  have H2 := hid (fun (W : World) => refLess11_any b a W)
  unfold sameK
  generalize ltK (scK a) (scK b) = x at *
  generalize ltK (scK b) (scK a) = y at *
  cases x with
  | true =>
    go_enter Try.func19, Try.ntmps19
    go_wp2_with fail
    with_reducible refine (H1.out _).mono ?_
    rintro e w1 ⟨rfl, rfl⟩
    go_wp2
    go_ret
    exact ⟨rfl, rfl⟩
  | false =>
    go_enter Try.func19, Try.ntmps19
    go_wp2_with fail
    with_reducible refine (H1.out _).mono ?_
    rintro e w1 ⟨rfl, rfl⟩
    go_wp2_with fail
    with_reducible refine (H2.out _).mono ?_
    rintro e w1 ⟨rfl, rfl⟩
    go_wp2
    go_ret
    exact ⟨rfl, rfl⟩

theorem weigh_hit {l : List Wgt} {j : Nat} (hj : j < l.length) {id : Int} (h : ∀ i (hi : i < l.length), i < j → l[i].Id ≠ id) (e : l[j].Id = id) : weighV l id = l[j].W := by
  have : l.find? (fun x => x.Id == id) = some l[j] := by
    rw [List.find?_eq_some_iff_getElem]
    refine ⟨by simpa using e, j, hj, rfl, fun i hi => ?_⟩
    simpa using h i (by omega) hi
  unfold weighV
  rw [this]
theorem weigh_none {l : List Wgt} {id : Int} (h : ∀ i (hi : i < l.length), l[i].Id ≠ id) : weighV l id = oneF := by
  have : l.find? (fun x => x.Id == id) = none := by
    rw [List.find?_eq_none]
    intro x hx
    obtain ⟨i, hi, rfl⟩ := List.getElem_of_mem hx
    simpa using h i hi
  unfold weighV
  rw [this]

set_option maxRecDepth 100000 in
set_option maxHeartbeats 1000000 in
theorem refWeigh11_any (A : Option Addr) (n c : Nat) (l : List Wgt) (id : Int) (w : World) (h : Sl lay_Weight w (· < w.heap.size) A n c l) :
    Calls Try.prog 21 #[.slice A n c, .int .u64 id] w fun e w' => e = .returned (.float .f64 (weighV l id)) ∧ Below w.heap.size w w' := by
  have HL := hid h.len
  have hcap := h.cap
  unfold maxLen at hcap
  have hsf : ∀ (a : Addr) (b : Nat) (m : Mode) (W : World), (store a (.float .f64 b) m).run Try.prog W = stored Try.prog W a (.float .f64 b) m := fun a b m W => run_store Try.prog W a _ m rfl
  have HSL := hid (fun (W : World) (h' : Below w.heap.size w W) => Sl.call h h')
  go_enter Try.func21, Try.ntmps21
  go_wp2
  go_loopw [9] (fun i wr => ∃ j : Nat, j ≤ n ∧ i = .int .i64 j ∧ Hid (∀ i (hi : i < l.length), i < j → l[i].Id ≠ id) ∧ Below w.heap.size w wr) (fun i _ => n - (intOf i).toNat)
  case atStart => exact ⟨0, Nat.zero_le _, rfl, hid fun i hi h => absurd h (by omega), Below.refl _ _⟩
  case round =>
  obtain ⟨j, hj, rfl, HP, hbel⟩ := hrel
  by_cases hlt : j < n
  rotate_left
  · have HE := hid (show weighV l id = 4607182418800017408 from weigh_none fun i hi => HP.out i hi (by rw [HL.out] at hi; omega))
    go_wp2
    go_ret
    exact ⟨by rw [HE.out]; rfl, hbel⟩
  obtain ⟨b1, o1, hx1, rfl, hb1, t0, t1, -⟩ := at_Weight (HSL.out _ hbel) hlt
  have hba := bel_call hbel (bel_alloc (Below.refl wr.heap.size wr) (Obj.cells #[.int .u64 l[j].Id, .float .f64 l[j].W] 54))
  by_cases he : l[j].Id = id
  · have e1 : (l[j].Id == id) = true := by simpa using he
    have HE := hid (weigh_hit hx1 HP.out he)
    clear he
    go_wp2
    go_ret
    exact ⟨by rw [HE.out]; rfl, hba⟩
  · have e1 : (l[j].Id == id) = false := by simpa using he
    have HN := hid (show ∀ i (hi : i < l.length), i < j + 1 → l[i].Id ≠ id from fun i hi h => by
      by_cases hij : i < j
      · exact HP.out i hi hij
      · have e : i = j := by omega
        subst e; exact he)
    clear he
    go_wp2
    go_roundw
    case rel => exact ⟨j + 1, by omega, by go_num, HN, hba⟩
    case measure => simp [intOf]; omega

theorem nan_first {op : BinOp} {x y : Nat} (h : nanB x = true) (ho : op = .sub ∨ op = .quo ∨ op = .mul) : floatBits op .f64 x y = none := by
  unfold nanB at h
  cases hx : dbl.read x with
  | infinity s => rw [hx] at h; cases h
  | number s m i => rw [hx] at h; cases h
  | nan s t =>
    rcases ho with rfl | rfl | rfl
    · show ((dbl.read x).sum (dbl.read y).opposite).map dbl.write = none
      rw [hx]; rfl
    · show ((dbl.read x).quotient _ (dbl.read y)).map dbl.write = none
      rw [hx]; rfl
    · show ((dbl.read x).product (dbl.read y)).map dbl.write = none
      rw [hx]; rfl
theorem nan_second {x y : Nat} (h : nanB y = true) : floatBits .mul .f64 x y = none := by
  unfold nanB at h
  show ((dbl.read x).product (dbl.read y)).map dbl.write = none
  cases hy : dbl.read y with
  | infinity s => rw [hy] at h; cases h
  | number s m i => rw [hy] at h; cases h
  | nan s t => cases dbl.read x <;> rfl
/-- The three steps of a score, put together. -/
theorem score_steps {rm aa : Int} {w n r1 r2 r3 : Nat} (h1 : FVal (floatBits .sub .f64 (floatOfInt .f64 rm) n) r1) (h2 : FVal (floatBits .quo .f64 r1 (floatOfInt .f64 aa)) r2) (h3 : FVal (floatBits .mul .f64 w r2) r3) : FVal (scoreV rm aa w n) r3 := by
  unfold scoreV
  cases e1 : floatBits .sub .f64 (floatOfInt .f64 rm) n with
  | none =>
    rw [e1] at h1
    rw [nan_first h1 (.inr (.inl rfl))] at h2
    rw [nan_second h2] at h3
    exact h3
  | some l =>
    rw [e1] at h1
    obtain rfl : r1 = l := h1
    simp only [Option.bind_some]
    cases e2 : floatBits .quo .f64 r1 (floatOfInt .f64 aa) with
    | none =>
      rw [e2] at h2
      rw [nan_second h2] at h3
      exact h3
    | some p =>
      rw [e2] at h2
      obtain rfl : r2 = p := h2
      exact h3

set_option maxRecDepth 100000 in
set_option maxHeartbeats 1000000 in
theorem refOne11_any (s : Array Value) (c : Chn) (a b : Nat) (w : World) (r : lay_Channel.rep w (· < w.heap.size) c s.toList) :
    Calls Try.prog 12 #[.agg s, .float .f64 a, .float .f64 b] w fun e w' => ∃ r, e = .returned (.tuple #[.float .f64 r, .int .i64 (chE c)]) ∧ FVal (oneO c a b) r ∧ (Lit.float .f64 r).wf = true ∧ Below w.heap.size w w' := by
  obtain ⟨A0a, n0a, c0a, rfl, hw0, hs0a⟩ := agg_Channel r
  clear r
  have HB := Below.refl w.heap.size w
  go_enter Try.func12, Try.ntmps12
  have hba := bel_alloc (Below.refl w.heap.size w) (Obj.cells #[.int .u64 c.Id, .int .u64 c.Local, .int .u64 c.Remote, .int .u64 c.Reserve, .int .u64 c.Most, .slice A0a n0a c0a, .bool c.Open] 28)
  have B0 : Box (w.alloc (Obj.cells #[.int .u64 c.Id, .int .u64 c.Local, .int .u64 c.Remote, .int .u64 c.Reserve, .int .u64 c.Most, .slice A0a n0a c0a, .bool c.Open] 28)) w.heap.size 28 [.int .u64 c.Id, .int .u64 c.Local, .int .u64 c.Remote, .int .u64 c.Reserve, .int .u64 c.Most, .slice A0a n0a c0a, .bool c.Open] := Box.new w _ _
  have S0a := Sl.call hs0a hba
  replace HB := bel_call HB hba
  clear hba hs0a
  go_upto_region 1 with (fail)
  generalize w.alloc (Obj.cells #[.int .u64 c.Id, .int .u64 c.Local, .int .u64 c.Remote, .int .u64 c.Reserve, .int .u64 c.Most, .slice A0a n0a c0a, .bool c.Open] 28) = W0 at *
  have K0 := hid (fun (W : World) (h : Below W0.heap.size W0 W) => (show W.cell? ⟨w.heap.size, 0, none⟩ = some (.int .u64 c.Id) ∧ W.cell? ⟨w.heap.size, 1, none⟩ = some (.int .u64 c.Local) ∧ W.cell? ⟨w.heap.size, 2, none⟩ = some (.int .u64 c.Remote) ∧ W.cell? ⟨w.heap.size, 3, none⟩ = some (.int .u64 c.Reserve) ∧ W.cell? ⟨w.heap.size, 4, none⟩ = some (.int .u64 c.Most) ∧ W.cell? ⟨w.heap.size, 5, none⟩ = some (.slice A0a n0a c0a) ∧ W.cell? ⟨w.heap.size, 6, none⟩ = some (.bool c.Open) from ⟨(B0.call h).at_ 0 rfl, (B0.call h).at_ 1 rfl, (B0.call h).at_ 2 rfl, (B0.call h).at_ 3 rfl, (B0.call h).at_ 4 rfl, (B0.call h).at_ 5 rfl, (B0.call h).at_ 6 rfl⟩))
  have P0 := hid (fun (W : World) (h : Below W0.heap.size W0 W) => (show lay_Channel.rep W (· < W.heap.size) c #[.int .u64 c.Id, .int .u64 c.Local, .int .u64 c.Remote, .int .u64 c.Reserve, .int .u64 c.Most, .slice A0a n0a c0a, .bool c.Open].toList from chan_in hw0 S0a h))
  have HB0 := Below.refl W0.heap.size W0
  clear B0 S0a
  obtain ⟨ce, hce⟩ : ∃ z, chE c = z := ⟨_, rfl⟩
  have Qce := hid hce
  clear hce
  obtain ⟨rv, hrv⟩ : ∃ z, rmV c = z := ⟨_, rfl⟩
  have Qrv := hid hrv
  clear hrv
  obtain ⟨av, hav⟩ : ∃ z, aaV c = z := ⟨_, rfl⟩
  have Qav := hid hav
  clear hav
  obtain ⟨p0x0, p0x1, p0x2, p0x3, p0x4, p0x5, p0x6⟩ := K0.out _ HB0
  go_wp2_with fail
  with_reducible refine (refRoom9_any _ c _ (P0.out _ HB0)).mono ?_
  rw [Qrv.out, Qce.out]
  rintro e w1 ⟨rfl, hb⟩
  replace HB := bel_call HB hb
  replace HB0 := bel_call HB0 hb
  clear p0x0 p0x1 p0x2 p0x3 p0x4 p0x5 p0x6
  clear hb
  by_cases hz : ce = 0
  rotate_left
  · have dz : (ce != 0) = true := by simpa using hz
    have HO := hid (show oneO c a b = some 0 from if_neg (by rw [Qce.out]; exact hz))
    clear hz
    go_wp2
    go_ret2
    exact ⟨0, by rw [Qce.out]; rfl, by rw [HO.out]; rfl, by decide, HB⟩
  subst hz
  have HO := hid (show oneO c a b = scoreV (rmV c) (aaV c) a b from if_pos Qce.out)
  obtain ⟨p0x0, p0x1, p0x2, p0x3, p0x4, p0x5, p0x6⟩ := K0.out _ HB0
  go_wp2_with fail
  with_reducible refine (refAll9_any _ c _ (P0.out _ HB0)).mono ?_
  rw [Qav.out, Qce.out]
  rintro e w2 ⟨rfl, hb⟩
  replace HB := bel_call HB hb
  replace HB0 := bel_call HB0 hb
  clear p0x0 p0x1 p0x2 p0x3 p0x4 p0x5 p0x6
  clear hb
  go_upto_region 5 with (fail)
  obtain ⟨r1, w91, h1, f1, g1, b1⟩ := run_float (P := Try.prog) w2 .sub (.inr (.inl rfl)) 25 (floatOfInt .f64 rv) b
  obtain ⟨r2, w92, h2, f2, g2, b2⟩ := run_float (P := Try.prog) w91 .quo (.inr (.inr (.inr rfl))) 25 r1 (floatOfInt .f64 av)
  obtain ⟨r3, w93, h3, f3, g3, b3⟩ := run_float (P := Try.prog) w92 .mul (.inr (.inr (.inl rfl))) 25 a r2
  have HF := hid (score_steps f1 f2 f3)
  have HBE := hid (bel_call (bel_call (bel_call HB b1) b2) b3)
  clear f1 f2 f3 b1 b2 b3
  go_wp2
  go_ret2
  exact ⟨r3, by rw [Qce.out]; rfl, by rw [HO.out, Qrv.out, Qav.out]; exact HF.out, g3, HBE.out⟩
end Go.Proofs.Ytpkfejfdbjoehaa
