/-
  The contract of the laws' own 'all' of layer 10, and the walk of LedgerKeeps.
-/
import Derived.Test.YtanlpcndbfmkiaaLedgerOursWalk
import Derived.Deep.RegionHeld3
import Derived.Deep.CutBlock
namespace Go.Proofs.Ytanlpcndbfmkiaa
open Go.RowKit Go.WalkArith

theorem aa_nonneg {c : Chn} (hw : ChnWf c) (hh : HldsWf c.Holds) : 0 ≤ aaV c := by
  unfold aaV
  have h1 := (bounds_u64 hw.loc).1
  have h2 := (bounds_u64 hw.rem).1
  have h3 := held_nonneg hh
  split <;> omega
theorem sum_takeC {l : List Chn} {j : Nat} (hj : j < l.length) : sumM ((l.take (j + 1)).map aaV) = sumM ((l.take j).map aaV) + aaV l[j] := by
  rw [List.take_succ_eq_append_getElem hj, List.map_append, sumM_append]
  simp [sumM]
theorem sum_take_bd {l : List Chn} (hw : ChnsWf l) (j : Nat) : 0 ≤ sumM ((l.take j).map aaV) ∧ sumM ((l.take j).map aaV) ≤ sumC l := by
  have hp : ∀ o : List Chn, (∀ c ∈ o, c ∈ l) → 0 ≤ sumM (o.map aaV) := fun o ho => sumM_nonneg fun x hx => by
    obtain ⟨c, hc, rfl⟩ := List.mem_map.1 hx
    exact aa_nonneg (hw c (ho c hc)).1 (hw c (ho c hc)).2
  have h1 := hp (l.take j) fun c hc => List.mem_of_mem_take hc
  have h2 := hp (l.drop j) fun c hc => List.mem_of_mem_drop hc
  refine ⟨h1, ?_⟩
  have : sumC l = sumM ((l.take j).map aaV) + sumM ((l.drop j).map aaV) := by
    unfold sumC
    rw [← sumM_append, ← List.map_append, List.take_append_drop]
  omega

set_option maxRecDepth 100000 in
set_option maxHeartbeats 2000000 in
theorem lawAll10_any (HT : ChanTwo) (A : Option Addr) (n k : Nat) (l : List Chn) (w : World) (h : Sl lay_Channel w (· < w.heap.size) A n k l) (g : LgOk l) :
    Calls Try.prog 33 #[.slice A n k] w fun e w' => e = .returned (.int .u64 (sumC l)) ∧ Below w.heap.size w w' := by
  have HL := hid h.len
  have hcap := h.cap
  unfold maxLen at hcap
  have hwl := sl_chns h
  have G := hid g
  clear g
  go_enter Try.func33, Try.ntmps33
  go_wp2
  go_loopw [3, 10] (fun sm i wr => ∃ j : Nat, j ≤ n ∧ i = .int .i64 j ∧ sm = .int .u64 (sumM ((l.take j).map aaV)) ∧ Below w.heap.size w wr) (fun _ i _ => n - (intOf i).toNat)
  case atStart => exact ⟨0, Nat.zero_le _, rfl, rfl, Below.refl _ _⟩
  case round =>
  obtain ⟨j, hj, rfl, rfl, hbel⟩ := hrel
  by_cases hlt : j < n
  · obtain ⟨b1, o1, A', n', c', hx1, rfl, hb1, t0, t1, t2, t3, t4, t5, t6, hw, hs⟩ := chn_at (Sl.call h hbel) hlt
    have hba := bel_alloc (Below.refl wr.heap.size wr) (Obj.cells #[.int .u64 l[j].Id, .int .u64 l[j].Local, .int .u64 l[j].Remote, .int .u64 l[j].Reserve, .int .u64 l[j].Most, .slice A' n' c', .bool l[j].Open] 26)
    have HA := hid (HT.all _ l[j] _ (chan_in hw hs hba))
    have ok := G.out.2.1 l[j] (List.getElem_mem hx1)
    rw [show chE l[j] = 0 from if_pos ok] at HA
    have HS := hid (sum_takeC hx1)
    have s1 := (sum_take_bd hwl j).1
    have s2 := sum_take_bd hwl (j + 1)
    have s3 := G.out.2.2.2.2
    have hm : mMax = 4611686018427387904 := rfl
    have we : IntKind.u64.wrap (sumM ((l.take j).map aaV) + aaV l[j]) = sumM ((l.take j).map aaV) + aaV l[j] := IntWalk.u64_in _ (by rw [← HS.out]; omega)
    clear s1 s2 s3 hm ok hs
    generalize aaV l[j] = av at *
    generalize sumM ((l.take j).map aaV) = sv at *
    go_wp2_with fail
    refine HA.out.mono ?_
    rintro e w5 ⟨rfl, hb5⟩
    have HB5 := bel_call hbel (bel_call hba hb5)
    clear t0 t1 t2 t3 t4 t5 t6 hba hb5
    go_wp2
    go_roundw
    case rel => exact ⟨j + 1, by omega, by go_num, by rw [HS.out], HB5⟩
    case measure => simp [intOf]; omega
  · have HE := hid (show sumM ((l.take j).map aaV) = sumC l from by rw [List.take_of_length_le (by rw [HL.out]; omega)]; rfl)
    rw [HE.out]
    go_wp2
    go_ret
    exact ⟨rfl, hbel⟩

/-- What became of channels: they may be, and all of all is as much as it was; or it was refused. -/
def KeepL (x m : List Chn) (fe : Int) : Prop := (fe = 0 ∧ LgOk m ∧ sumC m = sumC x ∧ m.length = x.length) ∨ (fe ≠ 0 ∧ m = [])

set_option maxRecDepth 100000 in
set_option maxHeartbeats 8000000 in
theorem ledgerKeeps_walkH (HG : LedgerSpec) (HT : ChanTwo) (A0 : Option Addr) (n0 c0 : Nat) (x0 : List Chn) (A1 : Option Addr) (n1 c1 : Nat) (x1 : List Int) (A2 : Option Addr) (n2 c2 : Nat) (x2 : List Int) (A3 : Option Addr) (n3 c3 : Nat) (x3 : List Int) (A4 : Option Addr) (n4 c4 : Nat) (x4 : List Int) (w : World) (r0 : Sl lay_Channel w (· < w.heap.size) A0 n0 c0 x0) (r1 : Rd w w.heap.size .u8 A1 n1 c1 x1) (r2 : Rd w w.heap.size .u64 A2 n2 c2 x2) (r3 : Rd w w.heap.size .u64 A3 n3 c3 x3) (r4 : Rd w w.heap.size .u64 A4 n4 c4 x4) :
    Calls Try.prog 5 #[.slice A0 n0 c0, .slice A1 n1 c1, .slice A2 n2 c2, .slice A3 n3 c3, .slice A4 n4 c4] w fun e w' => e = .returned (.bool true) ∧ Below w.heap.size w w' := by
  have hc0 := r0.cap
  have hc1 := r1.cap
  have hc2 := r2.cap
  have hc3 := r3.cap
  have hc4 := r4.cap
  unfold maxLen at hc0 hc1 hc2 hc3 hc4
  have RR1 := hid r1
  have RR2 := hid r2
  have RR3 := hid r3
  have RR4 := hid r4
  have K0 := hid (fun (W : World) (h : Below w.heap.size w W) => Sl.call r0 h)
  clear r0 r1 r2 r3 r4
  go_enter Try.func5, Try.ntmps5
  go_wp2_with fail
  refine (live10_any HG _).mono ?_
  rintro e w1 ⟨rfl, HB⟩
  go_wp2_with fail
  refine (refFew10_any _ _ _ x0 _ (K0.out _ HB)).mono ?_
  rintro e w2 ⟨rfl, hb⟩
  replace HB := bel_call HB hb
  clear hb
  cases hfew : fewL x0
  · go_wp2
    go_ret
    exact ⟨rfl, HB⟩
  clear hfew
  by_cases hbig : 30 < n1
  · have d1 : decide ((30 : Int) < (n1 : Int)) = true := by simp; omega
    go_wp2
    go_ret
    exact ⟨rfl, HB⟩
  have d1 : decide ((30 : Int) < (n1 : Int)) = false := by simp; omega
  go_wp2_with fail
  refine (HG.check _ _ _ x0 _ (K0.out _ HB)).mono ?_
  rintro e w3 ⟨rfl, hb⟩
  replace HB := bel_call HB hb
  clear hb
  by_cases g : LgOk x0
  rotate_left
  · rw [show lgE x0 = 1 from if_neg g]
    go_wp2
    go_ret
    exact ⟨rfl, HB⟩
  rw [show lgE x0 = 0 from if_pos g]
  obtain ⟨sm, hsm⟩ : ∃ z, sumC x0 = z := ⟨_, rfl⟩
  have QS := hid hsm
  have G0 := hid g
  clear hsm g
  go_wp2_with fail
  refine (lawAll10_any HT _ _ _ x0 _ (K0.out _ HB) G0.out).mono ?_
  rw [QS.out]
  rintro e w4 ⟨rfl, hb⟩
  replace HB := bel_call HB hb
  clear hb
  go_wp2
  go_loopw [0, 39] (fun u i wr => ∃ (j : Nat) (x : List Chn) (A : Option Addr) (n c : Nat), j ≤ n1 ∧ i = .int .i64 j ∧ u = .slice A n c ∧ Sl lay_Channel wr (· < wr.heap.size) A n c x ∧ Hid (LgOk x ∧ sumC x = sm) ∧ Below w.heap.size w wr) (fun _ i _ => n1 - (intOf i).toNat)
  case atStart => exact ⟨0, x0, A0, n0, c0, Nat.zero_le _, rfl, rfl, K0.out _ HB, hid ⟨G0.out, QS.out⟩, HB⟩
  case round =>
  clear HB K0 G0 QS
  obtain ⟨j, x, A, n, c, hj, rfl, rfl, hsx, HX, hbel⟩ := hrel
  by_cases hlt : j < n1
  rotate_left
  · go_wp2
    go_ret
    exact ⟨rfl, hbel⟩
  obtain ⟨e1, o1, rfl, he1, hcell1⟩ := RR1.out.at_ (by omega)
  have q1 := (hbel.cell (p := ⟨e1, o1 + j, none⟩) he1).trans (hcell1 j hlt)
  have bk := bounds_u8 (RR1.out.wf (nth x1 j) (nth_mem (by rw [RR1.out.len]; exact hlt)))
  clear hcell1
  generalize nth x1 j = kd at *
  by_cases h2 : n2 ≤ j
  · have d3 : decide ((n2 : Int) ≤ (j : Int)) = true := by simp; omega
    go_wp2
    go_ret
    exact ⟨rfl, hbel⟩
  have d3 : decide ((n2 : Int) ≤ (j : Int)) = false := by simp; omega
  by_cases h3 : n3 ≤ j
  · have d4 : decide ((n3 : Int) ≤ (j : Int)) = true := by simp; omega
    go_wp2
    go_ret
    exact ⟨rfl, hbel⟩
  have d4 : decide ((n3 : Int) ≤ (j : Int)) = false := by simp; omega
  by_cases h4 : n4 ≤ j
  · have d5 : decide ((n4 : Int) ≤ (j : Int)) = true := by simp; omega
    go_wp2
    go_ret
    exact ⟨rfl, hbel⟩
  have d5 : decide ((n4 : Int) ≤ (j : Int)) = false := by simp; omega
  obtain ⟨e2, o2, rfl, he2, hcell2⟩ := RR2.out.at_ (by omega)
  obtain ⟨e3, o3, rfl, he3, hcell3⟩ := RR3.out.at_ (by omega)
  obtain ⟨e4, o4, rfl, he4, hcell4⟩ := RR4.out.at_ (by omega)
  have z2 := hcell2 j (by omega)
  have z3 := hcell3 j (by omega)
  have z4 := hcell4 j (by omega)
  have wid := RR2.out.wf (nth x2 j) (nth_mem (by rw [RR2.out.len]; omega))
  have who := RR3.out.wf (nth x3 j) (nth_mem (by rw [RR3.out.len]; omega))
  have wam := RR4.out.wf (nth x4 j) (nth_mem (by rw [RR4.out.len]; omega))
  clear hcell2 hcell3 hcell4
  generalize nth x2 j = id at *
  generalize nth x3 j = ho at *
  generalize nth x4 j = am at *
  have bam := bounds_u64 wam
  have l2 : j < n2 := by omega
  have l3 : j < n3 := by omega
  have l4 : j < n4 := by omega
  have i2 : (0 : Int) ≤ (j : Int) ∧ (j : Int) < (n2 : Int) := by omega
  have i3 : (0 : Int) ≤ (j : Int) ∧ (j : Int) < (n3 : Int) := by omega
  have i4 : (0 : Int) ≤ (j : Int) ∧ (j : Int) < (n4 : Int) := by omega
  have t1 : kd.tmod 5 = kd % 5 := Int.tmod_eq_emod_of_nonneg bk.1
  have t2 : IntKind.u8.wrap (kd % 5) = kd % 5 := by rw [IntKind.wrap_u8]; omega
  have t3 : kd.tmod 2 = kd % 2 := Int.tmod_eq_emod_of_nonneg bk.1
  have t4 : IntKind.u8.wrap (kd % 2) = kd % 2 := by rw [IntKind.wrap_u8]; omega
  have hwx := sl_chns hsx
  have KK := hid (fun (W : World) (h : Below wr.heap.size wr W) => (show W.cell? ⟨e2, o2 + j, none⟩ = some (.int .u64 id) ∧ W.cell? ⟨e3, o3 + j, none⟩ = some (.int .u64 ho) ∧ W.cell? ⟨e4, o4 + j, none⟩ = some (.int .u64 am) from ⟨((bel_call hbel h).cell (p := ⟨e2, o2 + j, none⟩) he2).trans z2, ((bel_call hbel h).cell (p := ⟨e3, o3 + j, none⟩) he3).trans z3, ((bel_call hbel h).cell (p := ⟨e4, o4 + j, none⟩) he4).trans z4⟩))
  have HH := Below.refl wr.heap.size wr
  go_upto_block 2 with (fail)
  clear q1
  obtain ⟨q2, q3, q4⟩ := KK.out _ HH
  go_cut [14, 15, 16, 17, 18, 19] from 61 to 158 (fun u f _ _ _ _ wc => ∃ (m : List Chn) (fe : Int) (A5 : Option Addr) (n5 c5 : Nat), u = .slice A5 n5 c5 ∧ f = .int .i64 fe ∧ Sl lay_Channel wc (· < wc.heap.size) A5 n5 c5 m ∧ Hid (KeepL x m fe) ∧ Below wr.heap.size wr wc)
  case first =>
    rcases (show kd % 5 = 0 ∨ kd % 5 = 1 ∨ kd % 5 = 2 ∨ kd % 5 = 3 ∨ kd % 5 = 4 by omega) with hk | hk | hk | hk | hk
    · rw [hk] at t2 t1
      obtain ⟨fe, hfe⟩ : ∃ z, lhoE x id ho am = z := ⟨_, rfl⟩
      obtain ⟨m, hm⟩ : ∃ z, lhoL x id ho am = z := ⟨_, rfl⟩
      have QE := hid hfe
      have QM := hid hm
      clear hfe hm
      have HNO := hid (fun (hz : fe ≠ 0) => (show m = [] from by rw [← QM.out]; exact one_no (by rw [show oneE x id (lhE x ho am) = fe from QE.out]; exact hz)))
      go_upto_region 16 with (fail)
      go_region_held3 (fun W => W.cell? ⟨e2, o2 + j, none⟩ = some (.int .u64 id) ∧ W.cell? ⟨e3, o3 + j, none⟩ = some (.int .u64 ho) ∧ W.cell? ⟨e4, o4 + j, none⟩ = some (.int .u64 am))
        (first | (with_reducible exact KK.out _ hb6) | (with_reducible exact KK.out _ HH) | (with_reducible exact KK.out _ HH.drew) | fail "keep")
        ((go_at_call 18; (refine (HG.hold _ _ _ x id ho am _ (Sl.call hsx HH.drew) wid who wam).mono ?_); rw [QE.out, QM.out]; rintro e w5 ⟨v, rfl, hv, hb5⟩; obtain ⟨A5, n5, c5, rfl, hs5⟩ := hv.read; have hb6 := bel_call HH.drew hb5; clear hv))
      all_goals
        obtain ⟨q2', q3', q4'⟩ := KK.out _ hb6
        obtain ⟨we, hwe⟩ : ∃ z, whE m ho = z := ⟨_, rfl⟩
        obtain ⟨wv, hwv⟩ : ∃ z, whV m ho = z := ⟨_, rfl⟩
        have QW := hid hwe
        have QV := hid hwv
        clear hwe hwv q2 q3 q4
        go_wp2_with fail
        refine (HG.where_ _ _ _ m ho _ hs5 who).mono ?_
        rw [QW.out, QV.out]
        rintro e w7 ⟨rfl, hb7⟩
        have hb8 := bel_call hb6 hb7
        have hs8 := Sl.call hs5 hb7
        clear q2' q3' q4'
        obtain ⟨q2, q3, q4⟩ := KK.out _ hb8
        by_cases hz : fe = 0
        · obtain ⟨-, -, -, -, -, -, i7, i8, i9, i10, i11⟩ := lho_ok hwx bam.1 (by rw [QE.out]; exact hz)
          rw [QM.out] at i7 i8 i9 i10 i11
          have HR := hid (show KeepL x m fe from .inl ⟨hz, i7, i8, i9⟩)
          have e1 : we = 0 := by rw [← QW.out]; exact i10
          have e2' : (wv != id) = false := by rw [← QV.out, i11]; simp
          subst e1
          clear i7 i8 i9 i10 i11
          subst hz
          go_wp2_with fail
          go_meet
          case rel => exact ⟨m, _, A5, n5, c5, rfl, rfl, hs8, HR, hb8⟩
        · have dz : (fe == 0) = false := by simpa using hz
          have HR := hid (show KeepL x m fe from .inr ⟨hz, HNO.out hz⟩)
          go_wp2_with fail
          go_meet
          case rel => exact ⟨m, _, A5, n5, c5, rfl, rfl, hs8, HR, hb8⟩
    · rw [hk] at t2 t1
      obtain ⟨fe, hfe⟩ : ∃ z, lhoE x id ho am = z := ⟨_, rfl⟩
      obtain ⟨m, hm⟩ : ∃ z, lhoL x id ho am = z := ⟨_, rfl⟩
      have QE := hid hfe
      have QM := hid hm
      clear hfe hm
      have HNO := hid (fun (hz : fe ≠ 0) => (show m = [] from by rw [← QM.out]; exact one_no (by rw [show oneE x id (lhE x ho am) = fe from QE.out]; exact hz)))
      go_upto_region 16 with (fail)
      go_region_held3 (fun W => W.cell? ⟨e2, o2 + j, none⟩ = some (.int .u64 id) ∧ W.cell? ⟨e3, o3 + j, none⟩ = some (.int .u64 ho) ∧ W.cell? ⟨e4, o4 + j, none⟩ = some (.int .u64 am))
        (first | (with_reducible exact KK.out _ hb6) | (with_reducible exact KK.out _ HH) | (with_reducible exact KK.out _ HH.drew) | fail "keep")
        ((go_at_call 18; (refine (HG.hold _ _ _ x id ho am _ (Sl.call hsx HH.drew) wid who wam).mono ?_); rw [QE.out, QM.out]; rintro e w5 ⟨v, rfl, hv, hb5⟩; obtain ⟨A5, n5, c5, rfl, hs5⟩ := hv.read; have hb6 := bel_call HH.drew hb5; clear hv))
      all_goals
        obtain ⟨q2', q3', q4'⟩ := KK.out _ hb6
        obtain ⟨we, hwe⟩ : ∃ z, whE m ho = z := ⟨_, rfl⟩
        obtain ⟨wv, hwv⟩ : ∃ z, whV m ho = z := ⟨_, rfl⟩
        have QW := hid hwe
        have QV := hid hwv
        clear hwe hwv q2 q3 q4
        go_wp2_with fail
        refine (HG.where_ _ _ _ m ho _ hs5 who).mono ?_
        rw [QW.out, QV.out]
        rintro e w7 ⟨rfl, hb7⟩
        have hb8 := bel_call hb6 hb7
        have hs8 := Sl.call hs5 hb7
        clear q2' q3' q4'
        obtain ⟨q2, q3, q4⟩ := KK.out _ hb8
        by_cases hz : fe = 0
        · obtain ⟨-, -, -, -, -, -, i7, i8, i9, i10, i11⟩ := lho_ok hwx bam.1 (by rw [QE.out]; exact hz)
          rw [QM.out] at i7 i8 i9 i10 i11
          have HR := hid (show KeepL x m fe from .inl ⟨hz, i7, i8, i9⟩)
          have e1 : we = 0 := by rw [← QW.out]; exact i10
          have e2' : (wv != id) = false := by rw [← QV.out, i11]; simp
          subst e1
          clear i7 i8 i9 i10 i11
          subst hz
          go_wp2_with fail
          go_meet
          case rel => exact ⟨m, _, A5, n5, c5, rfl, rfl, hs8, HR, hb8⟩
        · have dz : (fe == 0) = false := by simpa using hz
          have HR := hid (show KeepL x m fe from .inr ⟨hz, HNO.out hz⟩)
          go_wp2_with fail
          go_meet
          case rel => exact ⟨m, _, A5, n5, c5, rfl, rfl, hs8, HR, hb8⟩
    · rw [hk] at t2 t1
      obtain ⟨pd, hpd⟩ : ∃ z, (kd % 2 == 0) = z := ⟨_, rfl⟩
      obtain ⟨fe, hfe⟩ : ∃ z, whE x ho = z := ⟨_, rfl⟩
      obtain ⟨m, hm⟩ : ∃ z, enL x ho pd = z := ⟨_, rfl⟩
      have QE := hid hfe
      have QM := hid hm
      clear hfe hm
      have HNO := hid (fun (hz : fe ≠ 0) => (show m = [] from by rw [← QM.out]; exact if_neg (by rw [QE.out]; exact hz)))
      go_upto_region 21 with (fail)
      go_wp2_with fail
      refine (HG.end_ _ _ _ x ho pd _ (Sl.call hsx HH) who).mono ?_
      generalize enN x ho = en at *
      rw [QE.out, QM.out]
      rintro e w5 ⟨v, rfl, hv, hb6⟩
      obtain ⟨A5, n5, c5, rfl, hs5⟩ := hv.read
      clear hv
      obtain ⟨q2', q3', q4'⟩ := KK.out _ hb6
      obtain ⟨we, hwe⟩ : ∃ z, whE m ho = z := ⟨_, rfl⟩
      obtain ⟨wv, hwv⟩ : ∃ z, whV m ho = z := ⟨_, rfl⟩
      have QW := hid hwe
      have QV := hid hwv
      clear hwe hwv q2 q3 q4
      go_wp2_with fail
      refine (HG.where_ _ _ _ m ho _ hs5 who).mono ?_
      rw [QW.out, QV.out]
      rintro e w7 ⟨rfl, hb7⟩
      have hb8 := bel_call hb6 hb7
      have hs8 := Sl.call hs5 hb7
      clear q2' q3' q4'
      obtain ⟨q2, q3, q4⟩ := KK.out _ hb8
      by_cases hz : fe = 0
      · obtain ⟨i1, i2, i3, i4⟩ := en_ok (paid := pd) hwx (by rw [QE.out]; exact hz)
        rw [QM.out] at i1 i2 i3 i4
        have HR := hid (show KeepL x m fe from .inl ⟨hz, i1, i2, i3⟩)
        have e1 : we = 5 := by rw [← QW.out]; exact i4
        subst e1
        clear i1 i2 i3 i4
        subst hz
        go_wp2_with fail
        go_meet
        case rel => exact ⟨m, _, A5, n5, c5, rfl, rfl, hs8, HR, hb8⟩
      · have dz : (fe == 0) = false := by simpa using hz
        have HR := hid (show KeepL x m fe from .inr ⟨hz, HNO.out hz⟩)
        go_wp2_with fail
        go_meet
        case rel => exact ⟨m, _, A5, n5, c5, rfl, rfl, hs8, HR, hb8⟩
    · rw [hk] at t2 t1
      obtain ⟨fe, hfe⟩ : ∃ z, lpuE x id am = z := ⟨_, rfl⟩
      obtain ⟨m, hm⟩ : ∃ z, lpuL x id am = z := ⟨_, rfl⟩
      have QE := hid hfe
      have QM := hid hm
      clear hfe hm
      have HNO := hid (fun (hz : fe ≠ 0) => (show m = [] from by rw [← QM.out]; exact one_no (by rw [show oneE x id (fun c => puE c am) = fe from QE.out]; exact hz)))
      go_upto_region 26 with (fail)
      go_region_held3 (fun W => W.cell? ⟨e2, o2 + j, none⟩ = some (.int .u64 id) ∧ W.cell? ⟨e3, o3 + j, none⟩ = some (.int .u64 ho) ∧ W.cell? ⟨e4, o4 + j, none⟩ = some (.int .u64 am))
        (first | (with_reducible exact KK.out _ hb6) | (with_reducible exact KK.out _ HH) | (with_reducible exact KK.out _ HH.drew) | fail "keep")
        ((go_at_call 16; (refine (HG.push _ _ _ x id am _ (Sl.call hsx HH.drew) wid wam).mono ?_); rw [QE.out, QM.out]; rintro e w5 ⟨v, rfl, hv, hb5⟩; obtain ⟨A5, n5, c5, rfl, hs5⟩ := hv.read; have hb6 := bel_call HH.drew hb5; clear hv))
      all_goals
        have HR := hid (show KeepL x m fe from by
          by_cases hz : fe = 0
          · have h := lpu_ok hwx bam.1 (by rw [QE.out]; exact hz); rw [QM.out] at h; exact .inl ⟨hz, h⟩
          · exact .inr ⟨hz, HNO.out hz⟩)
        go_wp2_with fail
        go_meet
        case rel => exact ⟨m, _, A5, n5, c5, rfl, rfl, hs5, HR, hb6⟩
    · rw [hk] at t2 t1
      obtain ⟨fe, hfe⟩ : ∃ z, lclE x id = z := ⟨_, rfl⟩
      obtain ⟨m, hm⟩ : ∃ z, lclL x id = z := ⟨_, rfl⟩
      have QE := hid hfe
      have QM := hid hm
      clear hfe hm
      have HNO := hid (fun (hz : fe ≠ 0) => (show m = [] from by rw [← QM.out]; exact one_no (by rw [show oneE x id clE = fe from QE.out]; exact hz)))
      go_upto_region 13 with (fail)
      go_wp2_with fail
      refine (HG.close _ _ _ x id _ (Sl.call hsx HH) wid).mono ?_
      rw [QE.out, QM.out]
      rintro e w5 ⟨v, rfl, hv, hb6⟩
      obtain ⟨A5, n5, c5, rfl, hs5⟩ := hv.read
      clear hv
      have HR := hid (show KeepL x m fe from by
        by_cases hz : fe = 0
        · have h := lcl_ok (by rw [QE.out]; exact hz); rw [QM.out] at h; exact .inl ⟨hz, h⟩
        · exact .inr ⟨hz, HNO.out hz⟩)
      go_wp2_with fail
      go_meet
      case rel => exact ⟨m, _, A5, n5, c5, rfl, rfl, hs5, HR, hb6⟩
  case rest =>
  obtain ⟨m, fe, A5, n5, c5, rfl, rfl, hs5, HR, hbc⟩ := hcut
  clear q2 q3 q4 HH KK z2 z3 z4
  have hbw := bel_call hbel hbc
  rcases HR.out with ⟨rfl, gm, hsum, hlen⟩ | ⟨hne, rfl⟩
  rotate_left
  · have h0 : n5 = 0 := hs5.len.symm
    subst h0
    have hz : (fe != 0) = true := by simpa using hne
    have hsx2 := Sl.call hsx hbc
    go_wp2
    go_roundw
    case rel => exact ⟨j + 1, x, A, n, c, by omega, by go_num, rfl, hsx2, HX, hbw⟩
    case measure => simp [intOf]; omega
  have HXM := hid (show LgOk m ∧ sumC m = sm from ⟨gm, by rw [hsum]; exact HX.out.2⟩)
  have hnn : n5 = n := by rw [← hs5.len, ← hsx.len, hlen]
  have dn : ((n5 : Int) != (n : Int)) = false := by rw [hnn]; simp
  have ds : (sm != sm) = false := by simp
  clear gm hsum hlen hnn
  go_wp2_with fail
  refine (HG.check _ _ _ m _ hs5).mono ?_
  rw [show lgE m = 0 from if_pos HXM.out.1]
  rintro e w6 ⟨rfl, hb6⟩
  go_wp2_with fail
  refine (lawAll10_any HT _ _ _ m _ (Sl.call hs5 hb6) HXM.out.1).mono ?_
  rw [HXM.out.2]
  rintro e w7 ⟨rfl, hb7⟩
  have hb67 := bel_call hb6 hb7
  have HB7 := bel_call hbw hb67
  have hs7 := Sl.call hs5 hb67
  clear hb6 hb7 hb67
  go_wp2
  go_roundw
  case rel => exact ⟨j + 1, m, A5, n5, c5, by omega, by go_num, rfl, hs7, HXM, HB7⟩
  case measure => simp [intOf]; omega
end Go.Proofs.Ytanlpcndbfmkiaa
