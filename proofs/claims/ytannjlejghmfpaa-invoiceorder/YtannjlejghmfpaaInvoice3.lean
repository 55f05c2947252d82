/-
  Package invoice: State; something done with one invoice that is open; Cancel, Pay.
-/
import Derived.Test.YtannjlejghmfpaaInvoice2
import Derived.Test.YtannjlejghmfpaaDel
namespace Go.Proofs.Ytannjlejghmfpaa
open Go.RowKit Go.WalkArith

theorem in_two {l : List Inv} : (InOk l ∧ inE l = 0) ∨ (¬ InOk l ∧ inE l = 1) := by
  by_cases g : InOk l
  · exact .inl ⟨g, if_pos g⟩
  · exact .inr ⟨g, if_neg g⟩
theorem setFrom4 (w : World) (g i : Nat) (a b c d : Value) : setFrom w g i [a, b, c, d] = (((w.setCell ⟨g, i, none⟩ a).setCell ⟨g, i + 1, none⟩ b).setCell ⟨g, i + 2, none⟩ c).setCell ⟨g, i + 3, none⟩ d := rfl

set_option maxHeartbeats 2000000 in
theorem iState_any (A : Option Addr) (n k : Nat) (l : List Inv) (h t : Int) (w : World) (hs : Sl lay_Invoice w (· < w.heap.size) A n k l) :
    Calls Try.prog 19 #[.slice A n k, .int .u64 h, .int .u64 t] w fun e w' => e = .returned (.tuple #[.int .i64 (stV l h t), .int .i64 (stE l h)]) ∧ Below w.heap.size w w' := by
  have HL := hid hs.len
  have HSL := hid (fun (W : World) (h' : Below w.heap.size w W) => Sl.call hs h')
  have hcap := hs.cap
  unfold maxLen at hcap
  rcases in_two (l := l) with ⟨g, e⟩ | ⟨g, e⟩
  rotate_left
  · have HC := hid (iCheck_any A n k l w hs)
    rw [e] at HC
    have HE := hid (st_bad g h t)
    clear e g
    go_enter Try.func19, Try.ntmps19
    go_wp2_with (go_at_call 22; go_must (refine HC.out.mono ?_; rintro e w1 ⟨rfl, hb1⟩))
    go_ret2
    exact ⟨by rw [HE.out.1, HE.out.2]; rfl, hb1⟩
  have HC := hid (iCheck_any A n k l w hs)
  rw [e] at HC
  have HU := hid g.2.1
  have hn : n ≤ 300 := by rw [← HL.out]; exact Nat.le_trans g.1 (by decide)
  have HNO := hid (fun hf => st_none g (h := h) hf t)
  have HON := hid (fun x (hx : x ∈ l) => on_of g hx t)
  clear e g
  go_enter Try.func19, Try.ntmps19
  go_wp2_with (go_at_call 22; go_must (refine HC.out.mono ?_; rintro e w1 ⟨rfl, hb1⟩))
  with_reducible refine (placeI_any A n k l h _ (HSL.out _ hb1) hn HU.out).mono ?_
  rintro e w2 ⟨j, rfl, hat, hb2⟩
  have HB := bel_call hb1 hb2
  obtain ⟨d, hd⟩ : ∃ d, hitF Inv.Hash l h j = d := ⟨_, rfl⟩
  rw [hd]
  cases d
  · have HE := hid (HNO.out (hat.none HU.out hd))
    clear hat hd
    go_wp2
    go_ret2
    exact ⟨by rw [HE.out.1, HE.out.2]; rfl, HB⟩
  · obtain ⟨hj, hji, hfd⟩ := hat.find hd
    have hjn : j < n := by rw [← HL.out]; exact hj
    obtain ⟨b1, o1, hx1, rfl, hbb, t0, t1, t2, t3, hw⟩ := at_Invoice (HSL.out _ HB) hjn
    have ho := HON.out _ (List.getElem_mem hj)
    rw [hji] at ho
    have HE := hid (show stE l h = 0 ∧ stV l h t = stateI l[j] t from ⟨ho.1, ho.2.1⟩)
    have ij : (0 : Int) ≤ (j : Int) ∧ (j : Int) < (n : Int) := by omega
    clear hat hd hji hfd ho hw
    go_wp2_with fail
    with_reducible refine (stateOf_any l[j] t _).mono ?_
    rintro e w3 ⟨rfl, hb3⟩
    have HB3 := bel_call HB hb3
    go_wp2
    go_ret2
    exact ⟨by rw [HE.out.1, HE.out.2]; rfl, HB3⟩

set_option maxRecDepth 100000 in
set_option maxHeartbeats 4000000 in
/-- What is told of one that is open, and the rows behind it. -/
theorem ichange0_any (K : Nat) (hE : ∀ (args : Array Value) (w : World), (callFunc K args).run Try.prog w = .ok (.enter K args) w) (C : World → Prop) (hC : ∀ W W', C W → Below W.heap.size W W' → C W') (err : Inv → Int) (s : Int)
    (hws : (Lit.int .i64 s).wf = true) (A : Option Addr) (n k : Nat) (l : List Inv) (h t : Int) (w : World) (hs : Sl lay_Invoice w (· < w.heap.size) A n k l) (hCw : C w)
    (hBad : ∀ (x : Inv) (g o : Nat) (W : World), C W → err x ≠ 0 → W.cell? ⟨g, o + 1, none⟩ = some (.int .u64 x.N) → W.cell? ⟨g, o + 3, none⟩ = some (.int .i64 x.State) → W.frozen? ⟨g, o + 3, none⟩ = false →
      Calls Try.prog K #[.pointer (some ⟨g, o, none⟩)] W fun e w' => ∃ m, e = .returned (.int .i64 (err x)) ∧ w' = W.drewN m)
    (hGood : ∀ (x : Inv) (g o : Nat) (W : World), C W → err x = 0 → W.cell? ⟨g, o + 1, none⟩ = some (.int .u64 x.N) → W.cell? ⟨g, o + 3, none⟩ = some (.int .i64 x.State) → W.frozen? ⟨g, o + 3, none⟩ = false →
      Calls Try.prog K #[.pointer (some ⟨g, o, none⟩)] W fun e w' => ∃ m, e = .returned (.int .i64 0) ∧ w' = (W.drewN m).setCell ⟨g, o + 3, none⟩ (.int .i64 s)) :
    Calls Try.prog 31 #[.slice A n k, .int .u64 h, .int .u64 t, .func (.func K) #[] #[]] w fun e w' => ∃ v, e = .returned (.tuple #[v, .int .i64 (if onE l h t ≠ 0 then onE l h t else err (onI l h t))]) ∧ OwnL lay_Invoice w' w.heap.size (some w.heap.size) 37 v (if onE l h t = 0 ∧ err (onI l h t) = 0 then withI l { onI l h t with State := s } else []) ∧ Below w.heap.size w w' := by
  have HL := hid hs.len
  have HSL := hid (fun (W : World) (h' : Below w.heap.size w W) => Sl.call hs h')
  have HC := hid hC
  have HCW := hid hCw
  have HBAD := hid hBad
  have HGOOD := hid hGood
  have hcap := hs.cap
  unfold maxLen at hcap
  clear hC hCw hBad hGood
  have HS := hid (iState_any A n k l h t w hs)
  have HON := hid (show onE l h t = (if stE l h ≠ 0 then stE l h else if stV l h t = 4 then 13 else if stV l h t ≠ 1 then 10 else 0) from rfl)
  by_cases q1 : stE l h = 0
  rotate_left
  · have e1 : onE l h t = stE l h := by rw [HON.out, if_pos q1]
    have HE := hid (show (if onE l h t ≠ 0 then onE l h t else err (onI l h t)) = stE l h ∧ (if onE l h t = 0 ∧ err (onI l h t) = 0 then withI l { onI l h t with State := s } else []) = [] from ⟨by rw [e1, if_pos q1], if_neg fun r => q1 (e1.symm.trans r.1)⟩)
    have d1 : (stE l h != 0) = true := by simpa using q1
    have d2 : (stE l h == 0) = false := by simpa using q1
    obtain ⟨x, hx⟩ : ∃ x, stE l h = x := ⟨_, rfl⟩
    rw [hx] at HE d1 d2 HS
    rw [HE.out.1, HE.out.2]
    clear hx e1 q1 HON
    go_enter Try.func31, Try.ntmps31
    go_wp2_with (go_at_call 19; go_must (refine HS.out.mono ?_; rintro e w1 ⟨rfl, hb1⟩))
    go_ret2
    exact ⟨_, rfl, OwnL.nil _ _ _ _ _, hb1⟩
  have e2 : onE l h t = if stV l h t = 4 then 13 else if stV l h t ≠ 1 then 10 else 0 := by rw [HON.out, if_neg (by simpa using q1)]
  rw [q1] at HS
  by_cases q2 : stV l h t = 4
  · have e1 : onE l h t = 13 := by rw [e2, if_pos q2]
    have HE := hid (show (if onE l h t ≠ 0 then onE l h t else err (onI l h t)) = 13 ∧ (if onE l h t = 0 ∧ err (onI l h t) = 0 then withI l { onI l h t with State := s } else []) = [] from ⟨by rw [e1]; rfl, if_neg fun r => by rw [e1] at r; exact absurd r.1 (by decide)⟩)
    rw [HE.out.1, HE.out.2]
    rw [q2] at HS
    clear e1 e2 q2 q1 HON
    go_enter Try.func31, Try.ntmps31
    go_wp2_with (go_at_call 19; go_must (refine HS.out.mono ?_; rintro e w1 ⟨rfl, hb1⟩))
    go_ret2
    exact ⟨_, rfl, OwnL.nil _ _ _ _ _, hb1⟩
  by_cases q3 : stV l h t = 1
  rotate_left
  · have e1 : onE l h t = 10 := by rw [e2, if_neg q2, if_pos q3]
    have HE := hid (show (if onE l h t ≠ 0 then onE l h t else err (onI l h t)) = 10 ∧ (if onE l h t = 0 ∧ err (onI l h t) = 0 then withI l { onI l h t with State := s } else []) = [] from ⟨by rw [e1]; rfl, if_neg fun r => by rw [e1] at r; exact absurd r.1 (by decide)⟩)
    rw [HE.out.1, HE.out.2]
    have d2 : (stV l h t == 4) = false := by simpa using q2
    have d3 : (stV l h t != 1) = true := by simpa using q3
    have d4 : (stV l h t == 1) = false := by simpa using q3
    obtain ⟨x, hx⟩ : ∃ x, stV l h t = x := ⟨_, rfl⟩
    rw [hx] at d2 d3 d4 HS
    clear hx e1 e2 q1 q2 q3 HON
    go_enter Try.func31, Try.ntmps31
    go_wp2_with (go_at_call 19; go_must (refine HS.out.mono ?_; rintro e w1 ⟨rfl, hb1⟩))
    go_ret2
    exact ⟨_, rfl, OwnL.nil _ _ _ _ _, hb1⟩
  have e1 : onE l h t = 0 := by rw [e2, if_neg q2, if_neg (by simpa using q3)]
  obtain ⟨g, x, k1, k2, k3, k4, -⟩ := on_is e1
  rw [e1, k2]
  obtain ⟨E, hE9⟩ : ∃ z, (if (0 : Int) ≠ 0 then (0 : Int) else err x) = z := ⟨_, rfl⟩
  obtain ⟨R, hR9⟩ : ∃ z, (if (0 : Int) = 0 ∧ err x = 0 then withI l { x with State := s } else []) = z := ⟨_, rfl⟩
  rw [hE9, hR9]
  have HE9 := hid hE9
  have HR9 := hid hR9
  have HX := hid (And.intro k3 k4)
  clear hE9 hR9
  have HU := hid g.2.1
  have hn : n ≤ 300 := by rw [← HL.out]; exact Nat.le_trans g.1 (by decide)
  rw [q3] at HS
  clear e1 e2 q1 q2 q3 HON k1 k2 k3 k4 g
  go_enter Try.func31, Try.ntmps31
  go_wp2_with (go_at_call 19; go_must (refine HS.out.mono ?_; rintro e w1 ⟨rfl, hb1⟩))
  with_reducible refine (cloneI_any A n k l _ (HSL.out _ hb1) (by omega)).mono ?_
  rintro e w2 ⟨v2, rfl, ho2, hb2⟩
  have HB2 := bel_call hb1 hb2
  have hl0 : 0 < l.length := List.length_pos_of_mem HX.out.1
  obtain ⟨g2, cap2, rfl⟩ := ho2.shape hl0
  have HLn := HL.out
  rw [HLn] at ho2
  have hg2 := ho2.ownG
  have HC2 := hid (HC.out _ _ HCW.out HB2)
  have hso : Sl lay_Invoice w2 (· < w2.heap.size) (some ⟨g2, 0, none⟩) n cap2 l := by
    obtain ⟨A', n', c', e, hs'⟩ := ho2.read
    injection e with e1 e2 e3
    subst e1 e2 e3
    exact hs'
  have HO2 := hid ho2
  have HSO := hid hso
  have hle1 : w.heap.size ≤ g2 := Nat.le_trans hb1.size hg2.1
  clear ho2 hso hb1 hb2
  rw [HLn]
  go_wp2_with fail
  with_reducible refine (placeI_any _ n cap2 l h _ HSO.out hn HU.out).mono ?_
  rintro e w3 ⟨j, rfl, hat, hb3⟩
  have HB3 := bel_call HB2 hb3
  have HC3 := hid (HC.out _ _ HC2.out hb3)
  have HO3 := hid (HO2.out.keep hb3)
  obtain ⟨d, hd⟩ : ∃ d, hitF Inv.Hash l h j = d := ⟨_, rfl⟩
  cases d
  · exact absurd HX.out.2 (fnd_none (hat.none HU.out hd) _ HX.out.1)
  obtain ⟨hj, hji, hfd⟩ := hat.find hd
  have hxj : x = l[j] := upF_one HU.out HX.out.1 (List.getElem_mem hj) (by rw [hji, HX.out.2])
  subst hxj
  have HWS := hid (fun r => hat.with_set HU.out hd r)
  rw [hd]
  have hjn : j < n := by rw [← HLn]; exact hj
  have ij : (0 : Int) ≤ (j : Int) ∧ (j : Int) < (n : Int) := by omega
  have HJH := hid hji
  clear hat hd hfd hji
  obtain ⟨cs4, hr4, hc4, hf4⟩ := HO3.out.elem hj
  obtain ⟨rfl, hwx⟩ := rep_Invoice.1 hr4
  have y1 : w3.cell? ⟨g2, j * 4 + 1, none⟩ = some (.int .u64 l[j].N) := hc4 1 (by decide)
  have y3 : w3.cell? ⟨g2, j * 4 + 3, none⟩ = some (.int .i64 l[j].State) := hc4 3 (by decide)
  have f3 := hf4 (j * 4 + 3)
  have HWX := hid hwx
  clear hc4 hf4 hr4 hwx
  by_cases q4 : err l[j] = 0
  rotate_left
  · have HK := hid (HBAD.out l[j] g2 (j * 4) w3 HC3.out q4 y1 y3 f3)
    have d1 : (err l[j] != 0) = true := by simpa using q4
    have d2 : (err l[j] == 0) = false := by simpa using q4
    obtain ⟨z, hz⟩ : ∃ z, err l[j] = z := ⟨_, rfl⟩
    rw [hz] at d1 d2 HK
    have HZ := hid hz
    have HQ := hid q4
    clear q4 hz
    go_wp2_with fail
    with_reducible refine HK.out.mono ?_
    rintro e w4 ⟨m, rfl, rfl⟩
    have HB4 := bel_drewN HB3 m
    go_wp2
    go_ret2
    exact ⟨_, by rw [← HE9.out, if_neg (by simp), HZ.out]; rfl, by rw [← HR9.out, if_neg (fun r => HQ.out r.2)]; exact OwnL.nil _ _ _ _ _, HB4⟩
  have HK := hid (HGOOD.out l[j] g2 (j * 4) w3 HC3.out q4 y1 y3 f3)
  have HQ := hid q4
  clear q4
  go_wp2_with fail
  with_reducible refine HK.out.mono ?_
  rintro e w4 ⟨m, rfl, rfl⟩
  have HO9 := hid (((HO3.out.keep (bel_drewN (Below.refl _ _) m)).put (i := 3) (k := j) (y := { l[j] with State := s }) (u := .int .i64 s) (by decide) hj fun w S c hc => by
    obtain ⟨rfl, hw⟩ := rep_Invoice.1 hc
    exact rep_Invoice.2 ⟨rfl, ⟨hw.w0, hw.w1, hw.w2, hws⟩⟩).flat flat_Inv (some w.heap.size))
  rw [show lay_Invoice.size = 4 from rfl] at HO9
  have HB9 := hid ((bel_drewN HB3 m).setCell (p := ⟨g2, j * 4 + 3, none⟩) hle1 (.int .i64 s))
  have HSET := hid (HWS.out { l[j] with State := s })
  go_wp2
  go_ret2
  refine ⟨_, by rw [← HE9.out, if_neg (by simp), HQ.out]; rfl, ?_, HB9.out⟩
  rw [← HR9.out, if_pos (by simp [HQ.out])]
  have e9 : withI l { l[j] with State := s } = l.set j { l[j] with State := s } := by
    unfold withI wthF
    rw [← HWS.out, show ({ l[j] with State := s } : Inv).Hash = h from HJH.out]
  rw [e9]
  obtain ⟨cs, ⟨p1, p2⟩, p3⟩ := HO9.out
  refine ⟨cs, ⟨p1, ?_⟩, p3⟩
  rcases p2 with p2 | ⟨g9, cap9, a9, r1, r2, r3⟩
  · exact .inl p2
  · refine .inr ⟨g9, cap9, a9, r1, ?_, r3⟩
    have hr := r1
    simp only [Value.slice.injEq, Option.some.injEq, Addr.mk.injEq] at hr
    rw [← hr.1.1]; exact hle1

set_option maxRecDepth 100000 in
set_option maxHeartbeats 4000000 in
/-- What is told of one that is open, and the rows behind it. -/
theorem ichange1_any (K : Nat) (p1 : Value) (hE : ∀ (args : Array Value) (w : World), (callFunc K args).run Try.prog w = .ok (.enter K args) w) (C : World → Prop) (hC : ∀ W W', C W → Below W.heap.size W W' → C W') (err : Inv → Int) (s : Int)
    (hws : (Lit.int .i64 s).wf = true) (A : Option Addr) (n k : Nat) (l : List Inv) (h t : Int) (w : World) (hs : Sl lay_Invoice w (· < w.heap.size) A n k l) (hCw : C w)
    (hBad : ∀ (x : Inv) (g o : Nat) (W : World), C W → err x ≠ 0 → W.cell? ⟨g, o + 1, none⟩ = some (.int .u64 x.N) → W.cell? ⟨g, o + 3, none⟩ = some (.int .i64 x.State) → W.frozen? ⟨g, o + 3, none⟩ = false →
      Calls Try.prog K #[.pointer (some ⟨g, o, none⟩), p1] W fun e w' => ∃ m, e = .returned (.int .i64 (err x)) ∧ w' = W.drewN m)
    (hGood : ∀ (x : Inv) (g o : Nat) (W : World), C W → err x = 0 → W.cell? ⟨g, o + 1, none⟩ = some (.int .u64 x.N) → W.cell? ⟨g, o + 3, none⟩ = some (.int .i64 x.State) → W.frozen? ⟨g, o + 3, none⟩ = false →
      Calls Try.prog K #[.pointer (some ⟨g, o, none⟩), p1] W fun e w' => ∃ m, e = .returned (.int .i64 0) ∧ w' = (W.drewN m).setCell ⟨g, o + 3, none⟩ (.int .i64 s)) :
    Calls Try.prog 31 #[.slice A n k, .int .u64 h, .int .u64 t, .func (.func K) #[] #[p1]] w fun e w' => ∃ v, e = .returned (.tuple #[v, .int .i64 (if onE l h t ≠ 0 then onE l h t else err (onI l h t))]) ∧ OwnL lay_Invoice w' w.heap.size (some w.heap.size) 37 v (if onE l h t = 0 ∧ err (onI l h t) = 0 then withI l { onI l h t with State := s } else []) ∧ Below w.heap.size w w' := by
  have HL := hid hs.len
  have HSL := hid (fun (W : World) (h' : Below w.heap.size w W) => Sl.call hs h')
  have HC := hid hC
  have HCW := hid hCw
  have HBAD := hid hBad
  have HGOOD := hid hGood
  have hcap := hs.cap
  unfold maxLen at hcap
  clear hC hCw hBad hGood
  have HS := hid (iState_any A n k l h t w hs)
  have HON := hid (show onE l h t = (if stE l h ≠ 0 then stE l h else if stV l h t = 4 then 13 else if stV l h t ≠ 1 then 10 else 0) from rfl)
  by_cases q1 : stE l h = 0
  rotate_left
  · have e1 : onE l h t = stE l h := by rw [HON.out, if_pos q1]
    have HE := hid (show (if onE l h t ≠ 0 then onE l h t else err (onI l h t)) = stE l h ∧ (if onE l h t = 0 ∧ err (onI l h t) = 0 then withI l { onI l h t with State := s } else []) = [] from ⟨by rw [e1, if_pos q1], if_neg fun r => q1 (e1.symm.trans r.1)⟩)
    have d1 : (stE l h != 0) = true := by simpa using q1
    have d2 : (stE l h == 0) = false := by simpa using q1
    obtain ⟨x, hx⟩ : ∃ x, stE l h = x := ⟨_, rfl⟩
    rw [hx] at HE d1 d2 HS
    rw [HE.out.1, HE.out.2]
    clear hx e1 q1 HON
    go_enter Try.func31, Try.ntmps31
    go_wp2_with (go_at_call 19; go_must (refine HS.out.mono ?_; rintro e w1 ⟨rfl, hb1⟩))
    go_ret2
    exact ⟨_, rfl, OwnL.nil _ _ _ _ _, hb1⟩
  have e2 : onE l h t = if stV l h t = 4 then 13 else if stV l h t ≠ 1 then 10 else 0 := by rw [HON.out, if_neg (by simpa using q1)]
  rw [q1] at HS
  by_cases q2 : stV l h t = 4
  · have e1 : onE l h t = 13 := by rw [e2, if_pos q2]
    have HE := hid (show (if onE l h t ≠ 0 then onE l h t else err (onI l h t)) = 13 ∧ (if onE l h t = 0 ∧ err (onI l h t) = 0 then withI l { onI l h t with State := s } else []) = [] from ⟨by rw [e1]; rfl, if_neg fun r => by rw [e1] at r; exact absurd r.1 (by decide)⟩)
    rw [HE.out.1, HE.out.2]
    rw [q2] at HS
    clear e1 e2 q2 q1 HON
    go_enter Try.func31, Try.ntmps31
    go_wp2_with (go_at_call 19; go_must (refine HS.out.mono ?_; rintro e w1 ⟨rfl, hb1⟩))
    go_ret2
    exact ⟨_, rfl, OwnL.nil _ _ _ _ _, hb1⟩
  by_cases q3 : stV l h t = 1
  rotate_left
  · have e1 : onE l h t = 10 := by rw [e2, if_neg q2, if_pos q3]
    have HE := hid (show (if onE l h t ≠ 0 then onE l h t else err (onI l h t)) = 10 ∧ (if onE l h t = 0 ∧ err (onI l h t) = 0 then withI l { onI l h t with State := s } else []) = [] from ⟨by rw [e1]; rfl, if_neg fun r => by rw [e1] at r; exact absurd r.1 (by decide)⟩)
    rw [HE.out.1, HE.out.2]
    have d2 : (stV l h t == 4) = false := by simpa using q2
    have d3 : (stV l h t != 1) = true := by simpa using q3
    have d4 : (stV l h t == 1) = false := by simpa using q3
    obtain ⟨x, hx⟩ : ∃ x, stV l h t = x := ⟨_, rfl⟩
    rw [hx] at d2 d3 d4 HS
    clear hx e1 e2 q1 q2 q3 HON
    go_enter Try.func31, Try.ntmps31
    go_wp2_with (go_at_call 19; go_must (refine HS.out.mono ?_; rintro e w1 ⟨rfl, hb1⟩))
    go_ret2
    exact ⟨_, rfl, OwnL.nil _ _ _ _ _, hb1⟩
  have e1 : onE l h t = 0 := by rw [e2, if_neg q2, if_neg (by simpa using q3)]
  obtain ⟨g, x, k1, k2, k3, k4, -⟩ := on_is e1
  rw [e1, k2]
  obtain ⟨E, hE9⟩ : ∃ z, (if (0 : Int) ≠ 0 then (0 : Int) else err x) = z := ⟨_, rfl⟩
  obtain ⟨R, hR9⟩ : ∃ z, (if (0 : Int) = 0 ∧ err x = 0 then withI l { x with State := s } else []) = z := ⟨_, rfl⟩
  rw [hE9, hR9]
  have HE9 := hid hE9
  have HR9 := hid hR9
  have HX := hid (And.intro k3 k4)
  clear hE9 hR9
  have HU := hid g.2.1
  have hn : n ≤ 300 := by rw [← HL.out]; exact Nat.le_trans g.1 (by decide)
  rw [q3] at HS
  clear e1 e2 q1 q2 q3 HON k1 k2 k3 k4 g
  go_enter Try.func31, Try.ntmps31
  go_wp2_with (go_at_call 19; go_must (refine HS.out.mono ?_; rintro e w1 ⟨rfl, hb1⟩))
  with_reducible refine (cloneI_any A n k l _ (HSL.out _ hb1) (by omega)).mono ?_
  rintro e w2 ⟨v2, rfl, ho2, hb2⟩
  have HB2 := bel_call hb1 hb2
  have hl0 : 0 < l.length := List.length_pos_of_mem HX.out.1
  obtain ⟨g2, cap2, rfl⟩ := ho2.shape hl0
  have HLn := HL.out
  rw [HLn] at ho2
  have hg2 := ho2.ownG
  have HC2 := hid (HC.out _ _ HCW.out HB2)
  have hso : Sl lay_Invoice w2 (· < w2.heap.size) (some ⟨g2, 0, none⟩) n cap2 l := by
    obtain ⟨A', n', c', e, hs'⟩ := ho2.read
    injection e with e1 e2 e3
    subst e1 e2 e3
    exact hs'
  have HO2 := hid ho2
  have HSO := hid hso
  have hle1 : w.heap.size ≤ g2 := Nat.le_trans hb1.size hg2.1
  clear ho2 hso hb1 hb2
  rw [HLn]
  go_wp2_with fail
  with_reducible refine (placeI_any _ n cap2 l h _ HSO.out hn HU.out).mono ?_
  rintro e w3 ⟨j, rfl, hat, hb3⟩
  have HB3 := bel_call HB2 hb3
  have HC3 := hid (HC.out _ _ HC2.out hb3)
  have HO3 := hid (HO2.out.keep hb3)
  obtain ⟨d, hd⟩ : ∃ d, hitF Inv.Hash l h j = d := ⟨_, rfl⟩
  cases d
  · exact absurd HX.out.2 (fnd_none (hat.none HU.out hd) _ HX.out.1)
  obtain ⟨hj, hji, hfd⟩ := hat.find hd
  have hxj : x = l[j] := upF_one HU.out HX.out.1 (List.getElem_mem hj) (by rw [hji, HX.out.2])
  subst hxj
  have HWS := hid (fun r => hat.with_set HU.out hd r)
  rw [hd]
  have hjn : j < n := by rw [← HLn]; exact hj
  have ij : (0 : Int) ≤ (j : Int) ∧ (j : Int) < (n : Int) := by omega
  have HJH := hid hji
  clear hat hd hfd hji
  obtain ⟨cs4, hr4, hc4, hf4⟩ := HO3.out.elem hj
  obtain ⟨rfl, hwx⟩ := rep_Invoice.1 hr4
  have y1 : w3.cell? ⟨g2, j * 4 + 1, none⟩ = some (.int .u64 l[j].N) := hc4 1 (by decide)
  have y3 : w3.cell? ⟨g2, j * 4 + 3, none⟩ = some (.int .i64 l[j].State) := hc4 3 (by decide)
  have f3 := hf4 (j * 4 + 3)
  have HWX := hid hwx
  clear hc4 hf4 hr4 hwx
  by_cases q4 : err l[j] = 0
  rotate_left
  · have HK := hid (HBAD.out l[j] g2 (j * 4) w3 HC3.out q4 y1 y3 f3)
    have d1 : (err l[j] != 0) = true := by simpa using q4
    have d2 : (err l[j] == 0) = false := by simpa using q4
    obtain ⟨z, hz⟩ : ∃ z, err l[j] = z := ⟨_, rfl⟩
    rw [hz] at d1 d2 HK
    have HZ := hid hz
    have HQ := hid q4
    clear q4 hz
    go_wp2_with fail
    with_reducible refine HK.out.mono ?_
    rintro e w4 ⟨m, rfl, rfl⟩
    have HB4 := bel_drewN HB3 m
    go_wp2
    go_ret2
    exact ⟨_, by rw [← HE9.out, if_neg (by simp), HZ.out]; rfl, by rw [← HR9.out, if_neg (fun r => HQ.out r.2)]; exact OwnL.nil _ _ _ _ _, HB4⟩
  have HK := hid (HGOOD.out l[j] g2 (j * 4) w3 HC3.out q4 y1 y3 f3)
  have HQ := hid q4
  clear q4
  go_wp2_with fail
  with_reducible refine HK.out.mono ?_
  rintro e w4 ⟨m, rfl, rfl⟩
  have HO9 := hid (((HO3.out.keep (bel_drewN (Below.refl _ _) m)).put (i := 3) (k := j) (y := { l[j] with State := s }) (u := .int .i64 s) (by decide) hj fun w S c hc => by
    obtain ⟨rfl, hw⟩ := rep_Invoice.1 hc
    exact rep_Invoice.2 ⟨rfl, ⟨hw.w0, hw.w1, hw.w2, hws⟩⟩).flat flat_Inv (some w.heap.size))
  rw [show lay_Invoice.size = 4 from rfl] at HO9
  have HB9 := hid ((bel_drewN HB3 m).setCell (p := ⟨g2, j * 4 + 3, none⟩) hle1 (.int .i64 s))
  have HSET := hid (HWS.out { l[j] with State := s })
  go_wp2
  go_ret2
  refine ⟨_, by rw [← HE9.out, if_neg (by simp), HQ.out]; rfl, ?_, HB9.out⟩
  rw [← HR9.out, if_pos (by simp [HQ.out])]
  have e9 : withI l { l[j] with State := s } = l.set j { l[j] with State := s } := by
    unfold withI wthF
    rw [← HWS.out, show ({ l[j] with State := s } : Inv).Hash = h from HJH.out]
  rw [e9]
  obtain ⟨cs, ⟨p1, p2⟩, p3⟩ := HO9.out
  refine ⟨cs, ⟨p1, ?_⟩, p3⟩
  rcases p2 with p2 | ⟨g9, cap9, a9, r1, r2, r3⟩
  · exact .inl p2
  · refine .inr ⟨g9, cap9, a9, r1, ?_, r3⟩
    have hr := r1
    simp only [Value.slice.injEq, Option.some.injEq, Addr.mk.injEq] at hr
    rw [← hr.1.1]; exact hle1

set_option maxHeartbeats 1000000 in
theorem cancel1_any (g o : Nat) (s : Int) (W : World) (y3 : W.cell? ⟨g, o + 3, none⟩ = some (.int .i64 s)) (f3 : W.frozen? ⟨g, o + 3, none⟩ = false) :
    Calls Try.prog 32 #[.pointer (some ⟨g, o, none⟩)] W fun e w' => ∃ m, e = .returned (.int .i64 0) ∧ w' = (W.drewN m).setCell ⟨g, o + 3, none⟩ (.int .i64 3) := by
  go_enter Try.func32, Try.ntmps32
  go_wp2
  go_ret
  exact ⟨0, rfl, rfl⟩
set_option maxHeartbeats 1000000 in
theorem iCancel_any (A : Option Addr) (n k : Nat) (l : List Inv) (h t : Int) (w : World) (hs : Sl lay_Invoice w (· < w.heap.size) A n k l) :
    Calls Try.prog 13 #[.slice A n k, .int .u64 h, .int .u64 t] w fun e w' => ∃ v, e = .returned (.tuple #[v, .int .i64 (onE l h t)]) ∧ OwnL lay_Invoice w' w.heap.size (some w.heap.size) 37 v (cnL l h t) ∧ Below w.heap.size w w' := by
  have HX := hid (ichange0_any 32 (fun args w => enter_any Try.func32 (by kernel_rfl) (by rfl) args w) (fun _ => True) (fun _ _ _ _ => trivial) (fun _ => 0) 3 (by decide) A n k l h t w hs trivial (fun _ _ _ _ _ q => absurd rfl q) (fun x g o W _ _ _ y3 f3 => cancel1_any g o _ W y3 f3))
  have e1 : (if onE l h t ≠ 0 then onE l h t else 0) = onE l h t := by
    by_cases q : onE l h t = 0
    · rw [if_neg (by simpa using q), q]
    · rw [if_pos q]
  have e2 : (if onE l h t = 0 ∧ (0 : Int) = 0 then withI l { onI l h t with State := 3 } else []) = cnL l h t := by
    unfold cnL
    by_cases q : onE l h t = 0
    · rw [if_pos ⟨q, rfl⟩, if_pos q]
    · rw [if_neg fun r => q r.1, if_neg q]
  rw [e1, e2] at HX
  obtain ⟨x, hx⟩ : ∃ x, onE l h t = x := ⟨_, rfl⟩
  rw [hx] at HX ⊢
  clear e1 e2 hx
  go_enter Try.func13, Try.ntmps13
  go_wp2_with fail
  with_reducible refine HX.out.mono ?_
  rintro e w1 ⟨v, rfl, ho, hb⟩
  go_wp2
  go_ret2
  exact ⟨_, rfl, ho, hb⟩

set_option maxHeartbeats 1000000 in
theorem pay1bad_any (g o g1 : Nat) (m x : Int) (W : World) (hc : W.cell? ⟨g1, 0, none⟩ = some (.int .u64 m)) (y1 : W.cell? ⟨g, o + 1, none⟩ = some (.int .u64 x)) (hlt : m < x) :
    Calls Try.prog 34 #[.pointer (some ⟨g, o, none⟩), .pointer (some ⟨g1, 0, none⟩)] W fun e w' => ∃ k, e = .returned (.int .i64 9) ∧ w' = W.drewN k := by
  have d1 : decide (m < x) = true := decide_eq_true hlt
  clear hlt
  go_enter Try.func34, Try.ntmps34
  go_wp2_with fail
  go_quiet (fail)
  go_wp2
  go_ret
  exact ⟨_, rfl, rfl⟩
set_option maxHeartbeats 1000000 in
theorem pay1good_any (g o g1 : Nat) (m x s : Int) (W : World) (hc : W.cell? ⟨g1, 0, none⟩ = some (.int .u64 m)) (y1 : W.cell? ⟨g, o + 1, none⟩ = some (.int .u64 x)) (y3 : W.cell? ⟨g, o + 3, none⟩ = some (.int .i64 s)) (f3 : W.frozen? ⟨g, o + 3, none⟩ = false) (hlt : ¬ m < x) :
    Calls Try.prog 34 #[.pointer (some ⟨g, o, none⟩), .pointer (some ⟨g1, 0, none⟩)] W fun e w' => ∃ k, e = .returned (.int .i64 0) ∧ w' = (W.drewN k).setCell ⟨g, o + 3, none⟩ (.int .i64 2) := by
  have d1 : decide (m < x) = false := decide_eq_false hlt
  clear hlt
  go_enter Try.func34, Try.ntmps34
  go_wp2_with fail
  go_quiet (fail)
  go_wp2
  go_ret
  exact ⟨_, rfl, rfl⟩
set_option maxHeartbeats 2000000 in
theorem iPay_any (A : Option Addr) (n k : Nat) (l : List Inv) (h m t : Int) (w : World) (hs : Sl lay_Invoice w (· < w.heap.size) A n k l) :
    Calls Try.prog 15 #[.slice A n k, .int .u64 h, .int .u64 m, .int .u64 t] w fun e w' => ∃ v, e = .returned (.tuple #[v, .int .i64 (pyE l h m t)]) ∧ OwnL lay_Invoice w' w.heap.size (some w.heap.size) 37 v (pyL l h m t) ∧ Below w.heap.size w w' := by
  have hb0 : Below w.heap.size w (w.alloc (Obj.cells #[.int .u64 m] 23)) := bel_alloc (Below.refl _ _) _
  have V : Box (w.alloc (Obj.cells #[.int .u64 m] 23)) w.heap.size 23 [.int .u64 m] := Box.new w _ _
  have HX := hid (fun (W : World) (hw : Sl lay_Invoice W (· < W.heap.size) A n k l) (hV : Box W w.heap.size 23 [.int .u64 m]) => ichange1_any 34 (.pointer (some ⟨w.heap.size, 0, none⟩)) (fun args w => enter_any Try.func34 (by kernel_rfl) (by rfl) args w) (fun W => Box W w.heap.size 23 [.int .u64 m]) (fun _ _ q hb => q.call hb) (fun x => if m < x.N then 9 else 0) 2 (by decide) A n k l h t W hw hV
    (fun x g o W q e y1 _ _ => by
      have hlt : m < x.N := by
        by_cases r : m < x.N
        · exact r
        · exact absurd (if_neg r) e
      rw [if_pos hlt]
      exact pay1bad_any g o _ m x.N W (q.at_ 0 rfl) y1 hlt)
    (fun x g o W q e y1 y3 f3 => by
      have hlt : ¬ m < x.N := fun r => by rw [if_pos r] at e; exact absurd e (by decide)
      exact pay1good_any g o _ m x.N _ W (q.at_ 0 rfl) y1 y3 f3 hlt))
  have e1 : (if onE l h t ≠ 0 then onE l h t else if m < (onI l h t).N then 9 else 0) = pyE l h m t := rfl
  have e2 : (if onE l h t = 0 ∧ (if m < (onI l h t).N then (9 : Int) else 0) = 0 then withI l { onI l h t with State := 2 } else []) = pyL l h m t := by
    unfold pyL pyE
    by_cases q : onE l h t = 0
    · by_cases r : m < (onI l h t).N
      · rw [if_neg (by rw [if_pos r]; simp), if_neg (by rw [if_neg (by simpa using q), if_pos r]; decide)]
      · rw [if_pos ⟨q, if_neg r⟩, if_pos (by rw [if_neg (by simpa using q), if_neg r])]
    · rw [if_neg fun r => q r.1, if_neg (by rw [if_pos q]; exact q)]
  rw [e1, e2] at HX
  obtain ⟨x, hx⟩ : ∃ x, pyE l h m t = x := ⟨_, rfl⟩
  rw [hx] at HX ⊢
  have S0 := hid (Sl.call hs hb0)
  clear e1 e2 hx hs
  have HZ := hid (show (w.alloc (Obj.cells #[.int .u64 m] 23)).heap.size = w.heap.size + 1 from by simp)
  go_enter Try.func15, Try.ntmps15
  go_upto_region 1 with (fail)
  generalize w.alloc (Obj.cells #[.int .u64 m] 23) = W0 at *
  go_wp2_with fail
  with_reducible refine (HX.out _ S0.out V).mono ?_
  rintro e w1 ⟨v, rfl, ho, hb⟩
  go_wp2
  go_ret2
  exact ⟨_, rfl, ho.lows hb0.size hb0.size, bel_call hb0 hb⟩

end Go.Proofs.Ytannjlejghmfpaa
