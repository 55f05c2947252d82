/-
  The walk of ScoreAlone.
-/
import Derived.Test.YtpkfejfdbjoehaaScoreOrderWalk
import Derived.Test.YtpkfejfdbjoehaaBigsizeSame
import Derived.Test.YtpkfejfdbjoehaaPackLR
namespace Go.Proofs.Ytpkfejfdbjoehaa
open Go.RowKit Go.WalkArith

/-- Whether a channel is left: it is another one, or can hold so much. -/
noncomputable def stayC (id n : Int) (c : Chn) : Bool := !(c.Id == id && (rmV c == 0 || decide (rmV c < n)))
def stayW (b : Bool) (id : Int) (x : Wgt) : Bool := !b || x.Id != id
noncomputable def goneC (id n : Int) (l : List Chn) : Bool := l.any fun c => !stayC id n c
theorem sum_sub {f : Chn → Int} {p : Chn → Bool} : ∀ {l : List Chn}, (∀ c ∈ l, 0 ≤ f c) → sumM ((l.filter p).map f) ≤ sumM (l.map f)
  | [], _ => by simp
  | c :: l, h => by
    have h1 := h c (by simp)
    have h2 := @sum_sub f p l fun x hx => h x (List.mem_cons_of_mem _ hx)
    rw [List.filter_cons]
    split
    · simp only [List.map_cons, sumM] at h2 ⊢; omega
    · simp only [List.map_cons, sumM] at h2 ⊢; omega
theorem lg_sub {l : List Chn} (g : LgOk l) (hw : ChnsWf l) (p : Chn → Bool) : LgOk (l.filter p) :=
  ⟨Nat.le_trans (List.length_filter_le _ _) g.1, fun c hc => g.2.1 c (List.mem_filter.1 hc).1, g.2.2.1.filter _, g.2.2.2.1.filter _, by
    have h1 : sumM ((l.filter p).map aaV) ≤ sumM (l.map aaV) := sum_sub fun c hc => aa_nonneg (hw c hc).1 (hw c hc).2
    have h2 := g.2.2.2.2
    show sumM ((l.filter p).map aaV) ≤ mMax
    have h3 : sumC l = sumM (l.map aaV) := rfl
    omega⟩
theorem elig_stay {id n : Int} {c : Chn} (h : elig n c = true) : stayC id n c = true := by
  obtain ⟨-, h1, h2⟩ := elig_iff.1 h
  unfold stayC
  have e1 : (rmV c == 0) = false := by simpa using h1
  have e2 : decide (rmV c < n) = false := by simp; omega
  rw [e1, e2]
  simp
theorem alone_items {l : List Chn} {w : List Wgt} {id n : Int} : itemsI (l.filter (stayC id n)) w n = itemsI l w n := by
  unfold itemsI
  rw [List.filter_filter]
  congr 1
  refine List.filter_congr fun c _ => ?_
  cases h : elig n c with
  | false => rfl
  | true => rw [elig_stay h]; rfl
theorem weigh_filter {w : List Wgt} {id k : Int} (h : k ≠ id) : weighV (w.filter (stayW true id)) k = weighV w k := by
  unfold weighV
  induction w with
  | nil => rfl
  | cons x w ih =>
    rw [List.filter_cons]
    by_cases hx : stayW true id x = true
    · rw [if_pos hx, List.find?_cons, List.find?_cons]
      cases hk : x.Id == k with
      | true => rfl
      | false => exact ih
    · rw [if_neg hx, List.find?_cons]
      have : x.Id = id := by simpa [stayW] using hx
      have hk : (x.Id == k) = false := by simp; omega
      rw [hk]
      exact ih
theorem alone_law {l : List Chn} (g : LgOk l) (hw : ChnsWf l) (w : List Wgt) (id n : Int) : LgOk (l.filter (stayC id n)) ∧ ordL (l.filter (stayC id n)) w n = ordL l w n ∧ ordL (l.filter (stayC id n)) (w.filter (stayW (goneC id n l) id)) n = ordL l w n := by
  have g2 := lg_sub g hw (stayC id n)
  have e1 : ordL (l.filter (stayC id n)) w n = ordL l w n := by
    unfold ordL
    rw [if_pos g, if_pos g2]
    unfold ordI
    rw [alone_items]
  refine ⟨g2, e1, ?_⟩
  rw [← e1]
  cases hq : goneC id n l with
  | false =>
    have : w.filter (stayW false id) = w := List.filter_eq_self.2 fun x _ => rfl
    rw [this]
  | true =>
    obtain ⟨c0, h0, h1⟩ := List.any_eq_true.1 hq
    have h1 : stayC id n c0 = false := by simpa using h1
    have hid : c0.Id = id := by
      unfold stayC at h1
      simp at h1
      exact h1.1
    have hne : ∀ c ∈ l.filter (stayC id n), c.Id ≠ id := fun c hc e => by
      obtain ⟨c1, c2⟩ := List.mem_filter.1 hc
      have : c = c0 := cup_one g.2.2.1 c1 h0 (by rw [e, hid])
      rw [this, h1] at c2; cases c2
    unfold ordL
    rw [if_pos g2, if_pos g2]
    unfold ordI itemsI
    congr 2
    refine List.map_congr_left fun c hc => ?_
    have := hne c (List.mem_filter.1 hc).1
    unfold keyC
    rw [weigh_filter this]
theorem filter_takeG {α : Type} {p : α → Bool} {l : List α} {j : Nat} (hj : j < l.length) : (l.take (j + 1)).filter p = (l.take j).filter p ++ (if p l[j] = true then [l[j]] else []) := by
  rw [List.take_succ_eq_append_getElem hj, List.filter_append]
  congr 1
  by_cases h : p l[j] = true
  · rw [if_pos h]; simp [h]
  · rw [if_neg h]; simp [h]
theorem gone_take {id n : Int} {l : List Chn} {j : Nat} (hj : j < l.length) : goneC id n (l.take (j + 1)) = (goneC id n (l.take j) || !stayC id n l[j]) := by
  unfold goneC
  rw [List.take_succ_eq_append_getElem hj, List.any_append]
  simp
theorem Try.infoWgt : (Try.prog.info? 54).map (fun i => (i.zero, i.size, i.bytes)) = some (some (.agg #[.int .u64 0, .float .f64 0]), lay_Weight.size, 16) := by kernel_rfl

set_option maxRecDepth 100000 in
set_option maxHeartbeats 8000000 in
theorem scoreAlone_walkH (HS : ScoreSpec) (HR : ChanRoom) (A0 : Option Addr) (n0 c0 : Nat) (x0 : List Chn) (A1 : Option Addr) (n1 c1 : Nat) (x1 : List Wgt) (a2 a3 : Int) (w : World) (r0 : Sl lay_Channel w (· < w.heap.size) A0 n0 c0 x0) (r1 : Sl lay_Weight w (· < w.heap.size) A1 n1 c1 x1) (b2 : 0 ≤ a2 ∧ a2 ≤ 18446744073709551615) (_ : 0 ≤ a3 ∧ a3 ≤ 18446744073709551615) :
    Calls Try.prog 7 #[.slice A0 n0 c0, .slice A1 n1 c1, .int .u64 a2, .int .u64 a3] w fun e w' => e = .returned (.bool true) ∧ Below w.heap.size w w' := by
  have V2 := wf_u64 b2
  have hc0 := r0.cap
  unfold maxLen at hc0
  have HL1 := hid r1.len
  have hsf : ∀ (a : Addr) (b : Nat) (m : Mode) (W : World), (store a (.float .f64 b) m).run Try.prog W = stored Try.prog W a (.float .f64 b) m := fun a b m W => run_store Try.prog W a _ m rfl
  have hw0 := sl_chns r0
  have HL0 := hid r0.len
  have hc1 := r1.cap
  unfold maxLen at hc1
  have KA := hid (fun (W : World) (h : Below w.heap.size w W) => Sl.call r0 h)
  have KW := hid (fun (W : World) (h : Below w.heap.size w W) => Sl.call r1 h)
  clear r0 r1
  have HB := Below.refl w.heap.size w
  go_enter Try.func7, Try.ntmps7
  go_wp2_with fail
  with_reducible refine (live11_any HS _).mono ?_
  rintro e w1 ⟨rfl, hb⟩
  replace HB := bel_call HB hb
  clear hb
  go_wp2_with fail
  with_reducible refine (refFew10_any _ _ _ x0 _ (KA.out _ HB)).mono ?_
  rintro e w2 ⟨rfl, hb⟩
  replace HB := bel_call HB hb
  clear hb
  cases hfew : fewL x0
  · go_wp2
    go_ret
    exact ⟨rfl, HB⟩
  have HFW := hid hfew
  clear hfew
  by_cases hbig : 100 < n1
  · have d1 : decide ((100 : Int) < (n1 : Int)) = true := by simp; omega
    go_wp2
    go_ret
    exact ⟨rfl, HB⟩
  have d1 : decide ((100 : Int) < (n1 : Int)) = false := by simp; omega
  obtain ⟨oe, hoe⟩ : ∃ z, lgE x0 = z := ⟨_, rfl⟩
  have Qoe := hid hoe
  clear hoe
  obtain ⟨ol, hol⟩ : ∃ z, ordL x0 x1 a2 = z := ⟨_, rfl⟩
  have Qol := hid hol
  clear hol
  go_wp2_with fail
  with_reducible refine (HS.order _ _ _ x0 _ _ _ x1 a2 _ (KA.out _ HB) (KW.out _ HB) V2).mono ?_
  rw [Qoe.out, Qol.out]
  rintro e w3 ⟨v, rfl, hv, hb⟩
  replace HB := bel_call HB hb
  clear hb
  obtain ⟨A2, n2, c2, rfl, R2⟩ := hv.formN
  clear hv
  have HB2 := Below.refl w3.heap.size w3
  have hL2 := R2.len
  rcases lg_val Qoe.out with ⟨rfl, hg⟩ | ⟨rfl, hg⟩
  rotate_left
  · have e0 : n2 = 0 := by rw [← hL2, ← Qol.out]; unfold ordL; rw [if_neg hg]; rfl
    subst e0
    clear hg R2 hL2
    go_wp2
    go_ret
    exact ⟨rfl, HB⟩
  have HLG := hid hg
  obtain ⟨F, hF⟩ : ∃ F : Chn → Bool, F = stayC a3 a2 := ⟨_, rfl⟩
  have HFE := hid (fun c => congrFun hF c)
  have hlaw := alone_law hg hw0 x1 a3 a2
  rw [Qol.out, ← hF] at hlaw
  have HLAW := hid hlaw
  have HBI := hid HB
  clear hg hL2 HB hlaw hF
  go_wp2
  go_loopw [11, 12, 48] (fun u gn i wr => ∃ (j : Nat) (tv : Value), j ≤ n0 ∧ i = .int .i64 j ∧ u = tv ∧ gn = .bool (goneC a3 a2 (x0.take j)) ∧ OwnL lay_Channel wr w3.heap.size none 28 tv ((x0.take j).filter F) ∧ Below w3.heap.size w3 wr) (fun _ _ i _ => n0 - (intOf i).toNat)
  case atStart => exact ⟨0, _, Nat.zero_le _, rfl, rfl, by simp [goneC], OwnL.nil _ _ _ _ _, HB2⟩
  case round =>
  obtain ⟨j, tx, hj, rfl, htx, rfl, hown, hbel⟩ := hrel
  replace htx := htx.symm
  subst htx
  by_cases hlt : j < n0
  · obtain ⟨b1, o1, A', n', c', hx1, rfl, hb1, t0, t1, t2, t3, t4, t5, t6, hw, hs⟩ := chn_at (KA.out _ HBI.out) hlt
    have q0 := (hbel.cell (p := ⟨b1, o1 + j * 7, none⟩) hb1).trans t0
    have q1 := (hbel.cell (p := ⟨b1, o1 + j * 7 + 1, none⟩) hb1).trans t1
    have q2 := (hbel.cell (p := ⟨b1, o1 + j * 7 + 2, none⟩) hb1).trans t2
    have q3 := (hbel.cell (p := ⟨b1, o1 + j * 7 + 3, none⟩) hb1).trans t3
    have q4 := (hbel.cell (p := ⟨b1, o1 + j * 7 + 4, none⟩) hb1).trans t4
    have q5 := (hbel.cell (p := ⟨b1, o1 + j * 7 + 5, none⟩) hb1).trans t5
    have q6 := (hbel.cell (p := ⟨b1, o1 + j * 7 + 6, none⟩) hb1).trans t6
    have hba := bel_alloc (Below.refl wr.heap.size wr) (Obj.cells #[.int .u64 x0[j].Id, .int .u64 x0[j].Local, .int .u64 x0[j].Remote, .int .u64 x0[j].Reserve, .int .u64 x0[j].Most, .slice A' n' c', .bool x0[j].Open] 28)
    have BN := BoxC.new wr x0[j] A' n' c'
    have HRM := hid (HR.room _ x0[j] _ (chan_in hw (Sl.call hs hbel) hba))
    have hch : chE x0[j] = 0 := if_pos (HLG.out.2.1 x0[j] (List.getElem_mem hx1))
    rw [hch] at HRM
    have HG0 := hid (gone_take (id := a3) (n := a2) hx1)
    have HF0 := hid (filter_takeG (p := F) hx1)
    have hfl := List.length_filter_le F (x0.take j)
    have hfl2 : ((x0.take j).filter F).length ≤ n0 := by rw [List.length_take] at hfl; omega
    have hn34 : n0 ≤ 34 := by
      have := HFW.out
      unfold fewL at this
      have := (of_decide_eq_true this).2
      rw [HL0.out] at this
      exact this
    have hlen1 : (((x0.take j).filter F).length + 1) * 72 ≤ 140737488355328 := by omega
    have hlen2 : ((x0.take j).filter F).length + 1 ≤ maxLen := by unfold maxLen; omega
    obtain ⟨rv, hrv⟩ : ∃ z, rmV x0[j] = z := ⟨_, rfl⟩
    rw [hrv] at HRM
    have QRV := hid hrv
    have HWC := hid hw
    clear hrv hch hw hfl
    go_wp2_with fail
    refine HRM.out.mono ?_
    rintro e w5 ⟨rfl, hb5⟩
    have HB5 := bel_call (bel_call hbel hba) hb5
    have ho5 := (hown.keep hba).keep hb5
    have HGE := hid (show ∀ g, tx.ownBlock = some g → w3.heap.size ≤ g from fun g hg => hown.ge hg)
    obtain ⟨y0, y1, y2, y3, y4, y5, y6⟩ := (BN.call hb5).all
    have HSC := hid (hs.keep fun _ hp => HB5.cell hp)
    clear t0 t1 t2 t3 t4 t5 t6 q0 q1 q2 q3 q4 q5 q6 hba hb5 hown BN hs
    by_cases he : x0[j].Id = a3
    · have e1 : (x0[j].Id == a3) = true := by simpa using he
      by_cases hr : rv = 0
      · have e2 : (rv == 0) = true := by simpa using hr
        have HST := hid (show stayC a3 a2 x0[j] = false from by unfold stayC; rw [QRV.out, e1, e2]; rfl)
        have HGT := hid (show goneC a3 a2 (x0.take (j + 1)) = true from by rw [HG0.out, HST.out]; simp)
        have HFT := hid (show (x0.take (j + 1)).filter F = (x0.take j).filter F from by rw [HF0.out, HFE.out, HST.out]; simp)
        clear HG0 HF0 HST
        clear he hr
        clear y1 y2 y3 y4 y5 y6
        go_wp2
        go_roundw
        case rel => exact ⟨j + 1, _, by omega, by go_num, rfl, by rw [HGT.out], by rw [HFT.out]; exact ho5, HB5⟩
        case measure => simp [intOf]; omega
      · have e2 : (rv == 0) = false := by simpa using hr
        by_cases hr2 : rv < a2
        · have e3 : decide (rv < a2) = true := by simpa using hr2
          have HST := hid (show stayC a3 a2 x0[j] = false from by unfold stayC; rw [QRV.out, e1, e2, e3]; rfl)
          have HGT := hid (show goneC a3 a2 (x0.take (j + 1)) = true from by rw [HG0.out, HST.out]; simp)
          have HFT := hid (show (x0.take (j + 1)).filter F = (x0.take j).filter F from by rw [HF0.out, HFE.out, HST.out]; simp)
          clear HG0 HF0 HST
          clear he hr hr2
          clear y1 y2 y3 y4 y5 y6
          go_wp2
          go_roundw
          case rel => exact ⟨j + 1, _, by omega, by go_num, rfl, by rw [HGT.out], by rw [HFT.out]; exact ho5, HB5⟩
          case measure => simp [intOf]; omega
        · have e3 : decide (rv < a2) = false := by simpa using hr2
          have HST := hid (show stayC a3 a2 x0[j] = true from by unfold stayC; rw [QRV.out, e1, e2, e3]; rfl)
          have HGT := hid (show goneC a3 a2 (x0.take (j + 1)) = goneC a3 a2 (x0.take j) from by rw [HG0.out, HST.out]; simp)
          have HFT := hid (show (x0.take (j + 1)).filter F = (x0.take j).filter F ++ [x0[j]] from by rw [HF0.out, HFE.out, HST.out]; rfl)
          clear HG0 HF0 HST
          clear he hr hr2
          go_wp2_with (at_builtin; go_must (refine wpList_pushL (w := w5) rfl (.tmp 72) (.tmp 74) 22 rfl w3.heap.size none 28 _ 72 Try.underlying22 Try.infoChn rfl (by decide) tx ((x0.take j).filter F) x0[j] #[.int .u64 x0[j].Id, .int .u64 x0[j].Local, .int .u64 x0[j].Remote, .int .u64 x0[j].Reserve, .int .u64 x0[j].Most, .slice A' n' c', .bool x0[j].Open] (· < w3.heap.size) rfl rfl ho5 (rep_Channel.2 ⟨A', n', c', rfl, HWC.out, HSC.out⟩) (fun b hb => ⟨trivial, Nat.lt_of_lt_of_le hb HB5.size, fun he => by have := HGE.out b he.symm; omega⟩) HB5.size hlen1 hlen2 ?_; intro v7 w7 ho7 hx7; have hb7 : Below w3.heap.size w5 w7 := ho5.below hx7 HB5.size))
          clear y0 y1 y2 y3 y4 y5 y6
          go_roundw
          case rel => exact ⟨j + 1, _, by omega, by go_num, rfl, by rw [HGT.out], by rw [HFT.out]; exact ho7, HB5.trans hb7⟩
          case measure => simp [intOf]; omega
    · have e1 : (x0[j].Id == a3) = false := by simpa using he
      have HST := hid (show stayC a3 a2 x0[j] = true from by unfold stayC; rw [e1]; rfl)
      have HGT := hid (show goneC a3 a2 (x0.take (j + 1)) = goneC a3 a2 (x0.take j) from by rw [HG0.out, HST.out]; simp)
      have HFT := hid (show (x0.take (j + 1)).filter F = (x0.take j).filter F ++ [x0[j]] from by rw [HF0.out, HFE.out, HST.out]; rfl)
      clear HG0 HF0 HST
      clear he
      go_wp2_with (at_builtin; go_must (refine wpList_pushL (w := w5) rfl (.tmp 72) (.tmp 74) 22 rfl w3.heap.size none 28 _ 72 Try.underlying22 Try.infoChn rfl (by decide) tx ((x0.take j).filter F) x0[j] #[.int .u64 x0[j].Id, .int .u64 x0[j].Local, .int .u64 x0[j].Remote, .int .u64 x0[j].Reserve, .int .u64 x0[j].Most, .slice A' n' c', .bool x0[j].Open] (· < w3.heap.size) rfl rfl ho5 (rep_Channel.2 ⟨A', n', c', rfl, HWC.out, HSC.out⟩) (fun b hb => ⟨trivial, Nat.lt_of_lt_of_le hb HB5.size, fun he => by have := HGE.out b he.symm; omega⟩) HB5.size hlen1 hlen2 ?_; intro v7 w7 ho7 hx7; have hb7 : Below w3.heap.size w5 w7 := ho5.below hx7 HB5.size))
      clear y0 y1 y2 y3 y4 y5 y6
      go_roundw
      case rel => exact ⟨j + 1, _, by omega, by go_num, rfl, by rw [HGT.out], by rw [HFT.out]; exact ho7, HB5.trans hb7⟩
      case measure => simp [intOf]; omega
  have hall : x0.take j = x0 := List.take_of_length_le (by rw [HL0.out]; omega)
  rw [hall] at hown
  obtain ⟨gv, hgv⟩ : ∃ z, goneC a3 a2 x0 = z := ⟨_, rfl⟩
  have HLAW2 := HLAW.out
  rw [hgv] at HLAW2
  have HL3 := hid HLAW2
  rw [hall, hgv]
  have QG := hid hgv
  clear HLAW2 hall hgv
  obtain ⟨A3, n3, c3, rfl, hs3⟩ := hown.read
  clear hown
  have HB := bel_call HBI.out hbel
  have HB3 := Below.refl wr.heap.size wr
  have HB2' := hbel
  clear HB2 hbel
  obtain ⟨wo, hwo⟩ : ∃ z, z = wr := ⟨_, rfl⟩
  subst hwo
  have HB2q := HB2'
  clear HB2'
  go_wp2_with fail
  with_reducible refine (HS.order _ _ _ (x0.filter F) _ _ _ x1 a2 _ (Sl.call hs3 HB3) (KW.out _ HB) V2).mono ?_
  rw [show lgE (x0.filter F) = 0 from if_pos HL3.out.1, HL3.out.2.1]
  rintro e w4 ⟨v, rfl, hv, hb⟩
  replace HB := bel_call HB hb
  replace HB3 := bel_call HB3 hb
  replace HB2q := bel_call HB2q hb
  clear hb
  obtain ⟨A4, n4, c4, rfl, R4⟩ := hv.formN
  clear hv
  have HB4 := Below.refl w4.heap.size w4
  have HBJ := hid HB
  have HB3J := hid HB3
  have HB2J := hid HB2q
  clear HB HB3 HB2q
  obtain ⟨F2, hF2⟩ : ∃ F : Wgt → Bool, F = stayW gv a3 := ⟨_, rfl⟩
  have HFE2 := hid (fun c => congrFun hF2 c)
  rw [← hF2] at HL3
  clear hF2
  go_wp2
  go_loopw [19, 86] (fun u i wr => ∃ (j : Nat) (tv : Value), j ≤ n1 ∧ i = .int .i64 j ∧ u = tv ∧ OwnL lay_Weight wr w4.heap.size (some w4.heap.size) 54 tv ((x1.take j).filter F2) ∧ Below w4.heap.size w4 wr) (fun _ i _ => n1 - (intOf i).toNat)
  case atStart => exact ⟨0, _, Nat.zero_le _, rfl, rfl, OwnL.nil _ _ _ _ _, HB4⟩
  case round =>
  obtain ⟨j2, tx2, hj2, rfl, htx2, hown, hbel⟩ := hrel
  replace htx2 := htx2.symm
  subst htx2
  by_cases hlt2 : j2 < n1
  · obtain ⟨b1, o1, hx1, rfl, hb1, t0, t1, hwf⟩ := at_Weight (KW.out _ (bel_call HBJ.out hbel)) hlt2
    have hba := bel_alloc (Below.refl wr.heap.size wr) (Obj.cells #[.int .u64 x1[j2].Id, .float .f64 x1[j2].W] 54)
    have BN : Box (wr.alloc (Obj.cells #[.int .u64 x1[j2].Id, .float .f64 x1[j2].W] 54)) wr.heap.size 54 [.int .u64 x1[j2].Id, .float .f64 x1[j2].W] := Box.new _ _ _
    have y0 : (wr.alloc (Obj.cells #[.int .u64 x1[j2].Id, .float .f64 x1[j2].W] 54)).cell? ⟨wr.heap.size, 0, none⟩ = some (.int .u64 x1[j2].Id) := BN.at_ 0 rfl
    have y1 : (wr.alloc (Obj.cells #[.int .u64 x1[j2].Id, .float .f64 x1[j2].W] 54)).cell? ⟨wr.heap.size, 1, none⟩ = some (.float .f64 x1[j2].W) := BN.at_ 1 rfl
    have ho5 := hown.keep hba
    have HB5 := bel_call hbel hba
    have HF0 := hid (filter_takeG (p := F2) hx1)
    have hfl := List.length_filter_le F2 (x1.take j2)
    have hfl2 : ((x1.take j2).filter F2).length ≤ n1 := by rw [List.length_take] at hfl; omega
    have HGE := hid (show ∀ g, tx2.ownBlock = some g → w4.heap.size ≤ g from fun g hg => hown.ge hg)
    have HSZ := hid (show wr.heap.size + 1 = (wr.alloc (Obj.cells #[.int .u64 x1[j2].Id, .float .f64 x1[j2].W] 54)).heap.size from by simp)
    have hlen1 : (((x1.take j2).filter F2).length + 1) * 16 ≤ 140737488355328 := by omega
    have hlen2 : ((x1.take j2).filter F2).length + 1 ≤ maxLen := by unfold maxLen; omega
    clear hown BN hfl hba
    have HWF := hid hwf
    clear hwf
    cases hs : F2 x1[j2] with
    | true =>
      have HFT := hid (show (x1.take (j2 + 1)).filter F2 = (x1.take j2).filter F2 ++ [x1[j2]] from by rw [HF0.out, hs]; rfl)
      have hs2 := hs
      rw [HFE2.out] at hs2
      have hcase : gv = false ∨ (gv = true ∧ (x1[j2].Id != a3) = true) := by
        unfold stayW at hs2
        cases gv with
        | false => exact .inl rfl
        | true => exact .inr ⟨rfl, by simpa using hs2⟩
      clear hs hs2 HF0
      rcases hcase with rfl | ⟨rfl, e1⟩
      all_goals
        go_wp2_with (at_builtin; go_must (refine wpList_pushL (w := wr.alloc (Obj.cells #[.int .u64 x1[j2].Id, .float .f64 x1[j2].W] 54)) rfl (.tmp 98) (.tmp 100) 23 rfl w4.heap.size (some w4.heap.size) 54 _ 16 Try.underlying23 Try.infoWgt rfl (by decide) tx2 ((x1.take j2).filter F2) x1[j2] #[.int .u64 x1[j2].Id, .float .f64 x1[j2].W] (fun _ => False) rfl (congrArg (fun z => Value.slice (some ⟨z, 0, none⟩) 1 1) HSZ.out) ho5 (rep_Weight.2 ⟨rfl, HWF.out⟩) (fun b hb => hb.elim) HB5.size hlen1 hlen2 ?_; intro v7 w7 ho7 hx7; have hb7 : Below w4.heap.size (wr.alloc (Obj.cells #[.int .u64 x1[j2].Id, .float .f64 x1[j2].W] 54)) w7 := ho5.below hx7 HB5.size))
        clear y0 y1
        go_roundw
        case rel => exact ⟨j2 + 1, _, by omega, by go_num, rfl, by rw [HFT.out]; exact ho7, HB5.trans hb7⟩
        case measure => simp [intOf]; omega
    | false =>
      have HFT := hid (show (x1.take (j2 + 1)).filter F2 = (x1.take j2).filter F2 from by rw [HF0.out, hs]; simp)
      have hs2 := hs
      rw [HFE2.out] at hs2
      have hcase : gv = true ∧ (x1[j2].Id != a3) = false := by
        unfold stayW at hs2
        cases gv with
        | false => cases hs2
        | true => exact ⟨rfl, by simpa using hs2⟩
      obtain ⟨rfl, e1⟩ := hcase
      clear hs hs2 HF0
      go_wp2
      go_roundw
      case rel => exact ⟨j2 + 1, _, by omega, by go_num, rfl, by rw [HFT.out]; exact ho5, HB5⟩
      case measure => simp [intOf]; omega
  have hall2 : x1.take j2 = x1 := List.take_of_length_le (by rw [HL1.out]; omega)
  rw [hall2] at hown
  obtain ⟨A5, n5, c5, rfl, hs5⟩ := hown.read
  clear hown hall2
  have HB := bel_call HBJ.out hbel
  have HB3 := bel_call HB3J.out hbel
  have HB2q := HB2J.out.trans (hbel.mono HB2J.out.size)
  have HB4q := hbel
  have HB5 := Below.refl wr.heap.size wr
  clear HB4 hbel
  go_wp2_with fail
  with_reducible refine (HS.order _ _ _ (x0.filter F) _ _ _ (x1.filter F2) a2 _ (Sl.call hs3 HB3) (Sl.call hs5 HB5) V2).mono ?_
  rw [show lgE (x0.filter F) = 0 from if_pos HL3.out.1, HL3.out.2.2]
  rintro e w5 ⟨v, rfl, hv, hb⟩
  replace HB := bel_call HB hb
  replace HB3 := bel_call HB3 hb
  replace HB2q := bel_call HB2q hb
  replace HB4q := bel_call HB4q hb
  replace HB5 := bel_call HB5 hb
  clear hb
  obtain ⟨A6, n6, c6, rfl, R6⟩ := hv.formN
  clear hv
  have HB6 := Below.refl w5.heap.size w5
  go_wp2_with fail
  with_reducible refine (sameNumbers_any _ _ _ _ _ _ ol ol _ ((R2.below HB2q).more HB2q.size) ((R4.below HB4q).more HB4q.size)).mono ?_
  rw [show decide (ol = ol) = true from decide_eq_true rfl]
  rintro e w6 ⟨rfl, hb⟩
  replace HB := bel_call HB hb
  replace HB3 := bel_call HB3 hb
  replace HB2q := bel_call HB2q hb
  replace HB4q := bel_call HB4q hb
  replace HB5 := bel_call HB5 hb
  replace HB6 := bel_call HB6 hb
  clear hb
  go_wp2_with fail
  with_reducible refine (sameNumbers_any _ _ _ _ _ _ ol ol _ ((R2.below HB2q).more HB2q.size) ((R6.below HB6).more HB6.size)).mono ?_
  rw [show decide (ol = ol) = true from decide_eq_true rfl]
  rintro e w7 ⟨rfl, hb⟩
  replace HB := bel_call HB hb
  replace HB3 := bel_call HB3 hb
  replace HB2q := bel_call HB2q hb
  replace HB4q := bel_call HB4q hb
  replace HB5 := bel_call HB5 hb
  replace HB6 := bel_call HB6 hb
  clear hb
  go_wp2
  go_ret
  exact ⟨rfl, HB⟩
end Go.Proofs.Ytpkfejfdbjoehaa
