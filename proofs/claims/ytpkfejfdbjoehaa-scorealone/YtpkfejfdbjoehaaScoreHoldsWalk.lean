/-
  The walk of ScoreHolds.
-/
import Derived.Test.YtpkfejfdbjoehaaScoreSpec
import Derived.Test.YtpkfejfdbjoehaaLedgerCW
import Derived.Test.YtpkfejfdbjoehaaPackLR
namespace Go.Proofs.Ytpkfejfdbjoehaa
open Go.RowKit Go.WalkArith

theorem lg_val {l : List Chn} {e : Int} (h : lgE l = e) : (e = 0 ∧ LgOk l) ∨ (e = 1 ∧ ¬ LgOk l) := by
  subst h
  rcases lg_is (l := l) with ⟨g, q⟩ | ⟨g, q⟩
  · exact .inl ⟨q, g⟩
  · exact .inr ⟨q, g⟩
/-- What the first one is: nothing; or one that holds so much. -/
theorem first_is {l : List Chn} {w : List Wgt} {n : Int} : (fiE l w n = 1 ∧ lgE l = 1 ∧ fiV l w n = 0) ∨ (fiE l w n = 5 ∧ fiV l w n = 0) ∨ (fiE l w n = 0 ∧ LgOk l ∧ ∃ c ∈ l, c.Id = fiV l w n ∧ elig n c = true) := by
  by_cases g : LgOk l
  · by_cases q : ordL l w n = []
    · exact .inr (.inl ⟨by unfold fiE; rw [if_pos g, if_pos q], by unfold fiV; rw [if_pos g, q]; rfl⟩)
    · refine .inr (.inr ⟨by unfold fiE; rw [if_pos g, if_neg q], g, ?_⟩)
      have e : fiV l w n = (ordL l w n).headD 0 := if_pos g
      have eo : ordL l w n = (ordI l w n).map Prod.fst := if_pos g
      cases ho : ordI l w n with
      | nil => rw [eo, ho] at q; exact absurd rfl q
      | cons x r =>
        obtain ⟨c, h1, h2, h3⟩ := ord_mem.1 (show x ∈ ordI l w n from by rw [ho]; simp)
        refine ⟨c, h1, ?_, h2⟩
        rw [e, eo, ho, h3]
        rfl
  · exact .inl ⟨if_neg g, if_neg g, if_neg g⟩
theorem holds_law {l : List Chn} (hw : ChnsWf l) (g : LgOk l) {c : Chn} (hc : c ∈ l) {n hold : Int} (hn0 : n ≠ 0) (hn : 0 ≤ n) (he : elig n c = true) : (lhoE l c.Id hold n = 6 ∧ whE l hold = 0) ∨ (lhoE l c.Id hold n = 0 ∧ whE (lhoL l c.Id hold n) hold = 0 ∧ whV (lhoL l c.Id hold n) hold = c.Id) := by
  obtain ⟨g1, g2⟩ := gt_of g hc
  obtain ⟨e1, e2, e3⟩ := elig_iff.1 he
  have ok := g.2.1 c hc
  have hr : rmV c = roomN c := if_pos ok
  have hm : n ≤ mMax := by
    have : roomN c ≤ mMax := by
      have h1 := ok.2.2.2.2.2.2.2.2.1
      have h2 := (bounds_u64 (hw c hc).1.res).1
      have hmm : mMax = 4611686018427387904 := rfl
      unfold roomN
      split
      · omega
      · have := Int.min_le_left (c.Local - c.Reserve) (c.Most - heldN c); omega
    omega
  have hE : lhoE l c.Id hold n = lhE l hold n c := by
    have : lhoE l c.Id hold n = lhE l hold n (gtC l c.Id) := if_neg (by simpa using g1)
    rw [this, g2]
  cases hw' : whereF l hold with
  | some d =>
    refine .inl ⟨by rw [hE]; exact if_pos (by rw [hw']; rfl), ?_⟩
    obtain ⟨d1, d2⟩ := whereF_some hw'
    exact (wh_of g d1 d2).1
  | none =>
    have h2 : lhE l hold n c = hoE c hold n := if_neg (by rw [hw']; simp)
    rcases room_law (id := hold) ok (show 0 < n by omega) hm with q | ⟨-, q⟩
    · exfalso
      have hn' := whereF_none hw' c hc
      unfold hoE at q
      rw [if_pos ⟨ok, hn0, hm⟩, if_neg (by rw [e1]; simp), if_neg (by rw [hn']; simp)] at q
      (repeat' split at q) <;> cases q
    · have h0 : lhoE l c.Id hold n = 0 := by rw [hE, h2]; exact q.2 (by omega)
      have := lho_ok hw hn h0
      exact .inr ⟨h0, this.2.2.2.2.2.2.2.2.2.1, this.2.2.2.2.2.2.2.2.2.2⟩

set_option maxRecDepth 100000 in
set_option maxHeartbeats 4000000 in
theorem scoreHolds_walkH (HS : ScoreSpec) (HG : LedgerCW) (A0 : Option Addr) (n0 c0 : Nat) (x0 : List Chn) (A1 : Option Addr) (n1 c1 : Nat) (x1 : List Wgt) (a2 a3 : Int) (w : World) (r0 : Sl lay_Channel w (· < w.heap.size) A0 n0 c0 x0) (r1 : Sl lay_Weight w (· < w.heap.size) A1 n1 c1 x1) (b2 : 0 ≤ a2 ∧ a2 ≤ 18446744073709551615) (b3 : 0 ≤ a3 ∧ a3 ≤ 18446744073709551615) :
    Calls Try.prog 6 #[.slice A0 n0 c0, .slice A1 n1 c1, .int .u64 a2, .int .u64 a3] w fun e w' => e = .returned (.bool true) ∧ Below w.heap.size w w' := by
  have V2 := wf_u64 b2
  have V3 := wf_u64 b3
  have hw0 := sl_chns r0
  have HL0 := hid r0.len
  have hc1 := r1.cap
  unfold maxLen at hc1
  have KA := hid (fun (W : World) (h : Below w.heap.size w W) => Sl.call r0 h)
  have KW := hid (fun (W : World) (h : Below w.heap.size w W) => Sl.call r1 h)
  clear r0 r1
  have HB := Below.refl w.heap.size w
  go_enter Try.func6, Try.ntmps6
  go_wp2_with fail
  with_reducible refine (live11_any HS _).mono ?_
  rintro e w1 ⟨rfl, hb⟩
  replace HB := bel_call HB hb
  clear hb
  go_wp2_with fail
  with_reducible refine (refFew10_any _ _ _ x0 _ (KA.out _ HB)).mono ?_
  rintro e w2 ⟨rfl, hb⟩
  replace HB := bel_call HB hb
  clear hb
  cases hfew : fewL x0
  · go_wp2
    go_ret
    exact ⟨rfl, HB⟩
  have HFW := hid hfew
  clear hfew
  by_cases hbig : 100 < n1
  · have d1 : decide ((100 : Int) < (n1 : Int)) = true := by simp; omega
    go_wp2
    go_ret
    exact ⟨rfl, HB⟩
  have d1 : decide ((100 : Int) < (n1 : Int)) = false := by simp; omega
  by_cases hz : a2 = 0
  · subst hz
    go_wp2
    go_ret
    exact ⟨rfl, HB⟩
  have dz : (a2 == 0) = false := by simpa using hz
  obtain ⟨fv, hfv⟩ : ∃ z, fiV x0 x1 a2 = z := ⟨_, rfl⟩
  have Qfv := hid hfv
  clear hfv
  obtain ⟨fe, hfe⟩ : ∃ z, fiE x0 x1 a2 = z := ⟨_, rfl⟩
  have Qfe := hid hfe
  clear hfe
  go_wp2_with fail
  with_reducible refine (HS.first _ _ _ x0 _ _ _ x1 a2 _ (KA.out _ HB) (KW.out _ HB) V2).mono ?_
  rw [Qfv.out, Qfe.out]
  rintro e w3 ⟨rfl, hb⟩
  replace HB := bel_call HB hb
  clear hb
  have HF := first_is (l := x0) (w := x1) (n := a2)
  rw [Qfv.out, Qfe.out] at HF
  rcases HF with ⟨rfl, hl, rfl⟩ | ⟨rfl, rfl⟩ | ⟨rfl, hg, c, hc, hci, hel⟩
  · have QL := hid hl
    clear hl
    go_wp2_with fail
    with_reducible refine (HG.check _ _ _ x0 _ (KA.out _ HB)).mono ?_
    rw [QL.out]
    rintro e w4 ⟨rfl, hb⟩
    replace HB := bel_call HB hb
    clear hb
    go_wp2
    go_ret
    exact ⟨rfl, HB⟩
  · go_wp2
    go_ret
    exact ⟨rfl, HB⟩
  have VF0 := hid (show (Lit.int .u64 fv).wf = true from by rw [← hci]; exact (hw0 c hc).1.id)
  have HLW := hid (holds_law (hold := a3) hw0 hg hc hz b2.1 hel)
  rw [hci] at HLW
  clear hg hc hci hel hz
  obtain ⟨he, hhe⟩ : ∃ z, lhoE x0 fv a3 a2 = z := ⟨_, rfl⟩
  have Qhe := hid hhe
  clear hhe
  obtain ⟨hl, hhl⟩ : ∃ z, lhoL x0 fv a3 a2 = z := ⟨_, rfl⟩
  have Qhl := hid hhl
  clear hhl
  rw [Qhe.out, Qhl.out] at HLW
  have VF : (Lit.int .u64 fv).wf = true := VF0.out
  go_wp2_with fail
  with_reducible refine (HG.hold _ _ _ x0 fv a3 a2 _ (KA.out _ HB) VF V3 V2).mono ?_
  rw [Qhe.out, Qhl.out]
  rintro e w4 ⟨v, rfl, hv, hb⟩
  replace HB := bel_call HB hb
  clear hb
  obtain ⟨A2, n2, c2, rfl, hs2⟩ := hv.read
  have HB2 := Below.refl w4.heap.size w4
  clear hv
  rcases HLW.out with ⟨rfl, q1⟩ | ⟨rfl, q1, q2⟩
  · have QW := hid q1
    clear q1
    obtain ⟨wv, hwv⟩ : ∃ z, whV x0 a3 = z := ⟨_, rfl⟩
    have Qwv := hid hwv
    clear hwv
    go_wp2_with fail
    with_reducible refine (HG.where_ _ _ _ x0 a3 _ (KA.out _ HB) V3).mono ?_
    rw [QW.out, Qwv.out]
    rintro e w5 ⟨rfl, hb⟩
    replace HB := bel_call HB hb
    replace HB2 := bel_call HB2 hb
    clear hb
    go_wp2
    go_ret
    exact ⟨rfl, HB⟩
  have QW := hid (And.intro q1 q2)
  clear q1 q2
  have tf : (fv == fv) = true := by simp
  go_wp2_with fail
  with_reducible refine (HG.where_ _ _ _ hl a3 _ (Sl.call hs2 HB2) V3).mono ?_
  rw [QW.out.1, QW.out.2]
  rintro e w5 ⟨rfl, hb⟩
  replace HB := bel_call HB hb
  replace HB2 := bel_call HB2 hb
  clear hb
  go_wp2
  go_ret
  exact ⟨rfl, HB⟩
end Go.Proofs.Ytpkfejfdbjoehaa
