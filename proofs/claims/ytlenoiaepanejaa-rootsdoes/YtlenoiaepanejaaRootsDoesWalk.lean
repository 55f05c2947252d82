/-
  The walk of RootsDoes, over the package's words and the document's Check.
-/
import Derived.Test.YtlenoiaepanejaaRootsApartWalk
import Derived.Test.YtlenoiaepanejaaRootsRef4
import Derived.Test.YtlenoiaepanejaaScb
namespace Go.Proofs.Ytlenoiaepanejaa
open Go.RowKit Go.WalkArith

theorem rtks_new {w : World} {lo : Nat} {A : Option Addr} {n c : Nat} {l : List Rtk} (h : Sl lay_RootKey w (From w lo) A n c l) {j : Nat} (hj : j < n) :
    ∃ b off x, A = some ⟨b, off, none⟩ ∧ lo ≤ b ∧ w.frozen? ⟨b, off + j * 3 + 1, none⟩ = false ∧ w.cell? ⟨b, off + j * 3 + 1, none⟩ = some (.int .u64 x) := by
  obtain ⟨b, off, hx, hA, hb, _, h2, _, _⟩ := rtk_at h hj
  exact ⟨b, off, _, hA, hb.1, hb.2.2 _, h2⟩
theorem Sl.fromTo {α : Type} {L : Lay α} {w w' : World} {l l' : Nat} {A : Option Addr} {n c : Nat} {xs : List α} (h : Sl L w (From w l) A n c xs) (hb : Below w.heap.size w w') (hl : l' ≤ l) : Sl L w' (From w' l') A n c xs := (h.keep fun _ hp => hb.cell hp.2.1).wide fun _ hp => ⟨Nat.le_trans hl hp.1, Nat.lt_of_lt_of_le hp.2.1 hb.size, hp.2.2.of_block (hb.block _ hp.2.1)⟩

set_option maxRecDepth 100000 in
set_option maxHeartbeats 8000000 in
theorem rootsDoes_walkH (HR : RootsSpec) (HC : Chk8) (A0 : Option Addr) (n0 c0 : Nat) (x0 : List Rtk) (A1 : Option Addr) (n1 c1 : Nat) (x1 : List Rtk) (a2 a3 : Int) (w : World) (r0 : Sl lay_RootKey w (· < w.heap.size) A0 n0 c0 x0) (r1 : Sl lay_RootKey w (· < w.heap.size) A1 n1 c1 x1) (b2 : 0 ≤ a2 ∧ a2 ≤ 18446744073709551615) (b3 : 0 ≤ a3 ∧ a3 ≤ 18446744073709551615) :
    Calls Try.prog 3 #[.slice A0 n0 c0, .slice A1 n1 c1, .int .u64 a2, .int .u64 a3] w fun e w' => e = .returned (.bool true) ∧ Below w.heap.size w w' := by
  have W2 := wf_u64 b2
  have W3 := wf_u64 b3
  have hc0 := r0.cap
  have hc1 := r1.cap
  unfold maxLen at hc0 hc1
  have WV := kyV_wf (rtks_wf r0) a2
  have K0 := hid (fun (W : World) (h : Below w.heap.size w W) => Sl.call r0 h)
  have K1 := hid (fun (W : World) (h : Below w.heap.size w W) => Sl.call r1 h)
  clear r0 r1
  go_enter Try.func3, Try.ntmps3
  go_wp2_with fail
  refine (live8_any HR _).mono ?_
  rintro e w1 ⟨rfl, hb1⟩
  have HB := hb1
  clear hb1
  by_cases hbig : 70 < n0
  · have d1 : (70 : Int) < (n0 : Int) := by omega
    go_wp2
    go_ret
    exact ⟨rfl, HB⟩
  have d1 : decide ((70 : Int) < (n0 : Int)) = false := by simp; omega
  by_cases hbig2 : 70 < n1
  · have d2 : (70 : Int) < (n1 : Int) := by omega
    go_wp2
    go_ret
    exact ⟨rfl, HB⟩
  have d2 : decide ((70 : Int) < (n1 : Int)) = false := by simp; omega
  have HLX : ∀ q : Nat, q ≤ 70 → (0 + q) * 24 ≤ 140737488355328 ∧ 0 + q ≤ maxLen := fun q hq => ⟨by omega, by unfold maxLen; omega⟩
  have hlen1 := (HLX n0 (by omega)).1
  have hlen2 := (HLX n0 (by omega)).2
  clear HLX
  go_upto_region 6 with (at_builtin; go_must (refine wpList_catL rfl _ _ 22 rfl w1.heap.size none 34 _ 24 Try.underlying22 Try.infoRtk rfl (by decide) (.slice none 0 0) [] x0 (· < w1.heap.size) A0 n0 c0 rfl rfl (OwnL.nil lay_RootKey _ _ none _) (K0.out _ HB) (fun b hb => ⟨trivial, hb, by simp [Value.ownBlock]⟩) (Nat.le_refl _) hlen1 hlen2 ?_; intro vh wh hoh hxh))
  have hbh : Below w1.heap.size w1 wh := (OwnL.nil lay_RootKey w1 w1.heap.size none 34).below hxh (Nat.le_refl _)
  rw [List.nil_append] at hoh
  obtain ⟨Ah, nh, ch, rfl, hsh⟩ := hoh.read
  replace HB := bel_call HB hbh
  have HBh := HB.size
  have KH := hid (fun (W : World) (h : Below wh.heap.size wh W) => Sl.call hsh h)
  have HH := Below.refl wh.heap.size wh
  clear hoh hxh hbh hsh hlen1 hlen2
  have M1 := hid (fun (W : World) (h : Below w.heap.size w W) => HR.add _ _ _ x0 a2 a3 W (K0.out W h) W2 W3)
  have M2 := hid (fun (W : World) (h : Below w.heap.size w W) => refAdd8_any HC _ _ _ x0 a2 a3 W (K0.out W h) W2 W3)
  have M3 := hid (fun (W : World) (h : Below w.heap.size w W) => HR.turn _ _ _ x0 a2 a3 W (K0.out W h) W2 W3)
  have M4 := hid (fun (W : World) (h : Below w.heap.size w W) => refTurn8_any HC _ _ _ x0 a2 a3 W (K0.out W h) W2 W3)
  have M5 := hid (fun (W : World) (h : Below w.heap.size w W) => HR.revoke _ _ _ x0 a2 W (K0.out W h) W2)
  have M6 := hid (fun (W : World) (h : Below w.heap.size w W) => refRevoke8_any HC _ _ _ x0 a2 W (K0.out W h) W2 WV)
  have M7 := hid (fun (W : World) (h : Below w.heap.size w W) => HR.key _ _ _ x0 a2 W (K0.out W h) W2)
  have M8 := hid (fun (W : World) (h : Below w.heap.size w W) => refKey8_any HC _ _ _ x0 a2 W (K0.out W h))
  have M9 := hid (fun (W : World) (h : Below w.heap.size w W) => HR.check _ _ _ x0 W (K0.out W h))
  have MA := hid (fun (W : World) (h : Below w.heap.size w W) => HC _ _ _ x0 W (K0.out W h))
  have MB := hid (fun (W : World) (h : Below w.heap.size w W) => HR.same _ _ _ _ _ _ x0 x1 W (K0.out W h) (K1.out W h))
  have MC := hid (fun (W : World) (h : Below w.heap.size w W) => refSame8_any _ _ _ _ _ _ (· < W.heap.size) x0 x1 W (K0.out W h) (K1.out W h))
  obtain ⟨ae, hae⟩ : ∃ z, adE x0 a2 a3 = z := ⟨_, rfl⟩
  obtain ⟨al, hal⟩ : ∃ z, adL x0 a2 a3 = z := ⟨_, rfl⟩
  obtain ⟨te, hte⟩ : ∃ z, tnE x0 a2 a3 = z := ⟨_, rfl⟩
  obtain ⟨tl, htl⟩ : ∃ z, tnL x0 a2 a3 = z := ⟨_, rfl⟩
  obtain ⟨ke, hke⟩ : ∃ z, kyE x0 a2 = z := ⟨_, rfl⟩
  obtain ⟨rl, hrl⟩ : ∃ z, rvL x0 a2 = z := ⟨_, rfl⟩
  obtain ⟨kv, hkv⟩ : ∃ z, kyV x0 a2 = z := ⟨_, rfl⟩
  obtain ⟨ce, hce⟩ : ∃ z, rkE x0 = z := ⟨_, rfl⟩
  obtain ⟨dd, hdd⟩ : ∃ z, decide (x0 = x1) = z := ⟨_, rfl⟩
  rw [hae, hal] at M1
  rw [hae, hal] at M2
  rw [hte, htl] at M3
  rw [hte, htl] at M4
  rw [hke, hrl] at M5
  rw [hke, hrl] at M6
  rw [hkv, hke] at M7
  rw [hkv, hke] at M8
  rw [hce] at M9
  rw [hce] at MA
  rw [hdd] at MB
  rw [hdd] at MC
  clear WV hae hal hte htl hke hrl hkv hce hdd
  go_wp2_with fail
  refine (M1.out _ HB).mono ?_
  rintro e wA ⟨v, rfl, ho, hbn⟩
  obtain ⟨AA, mA, dA, rfl, hN⟩ := ho.sl (Nat.le_refl _) (Nat.le_refl _)
  have hloA := HH.size
  have FA := hid (fun (W : World) (h : Below wA.heap.size wA W) => hN.fromTo h hloA)
  have SA := hid (fun (W : World) (h : Below wA.heap.size wA W) => Sl.call (hN.wide (S' := (· < wA.heap.size)) fun _ hb => hb.2.1) h)
  clear hN
  replace HB := bel_call HB hbn
  replace HH := bel_call HH hbn
  have HA := Below.refl wA.heap.size wA
  clear ho hbn
  go_wp2_with fail
  refine (M2.out _ HB).mono ?_
  rintro e wI ⟨v, rfl, ho, hbn⟩
  obtain ⟨AI, mI, dI, rfl, hN⟩ := ho.read
  have SI := hid (fun (W : World) (h : Below wI.heap.size wI W) => Sl.call hN h)
  clear hN
  replace HB := bel_call HB hbn
  replace HH := bel_call HH hbn
  replace HA := bel_call HA hbn
  have HI := Below.refl wI.heap.size wI
  clear ho hbn
  go_wp2_with fail
  refine (M3.out _ HB).mono ?_
  rintro e wJ ⟨v, rfl, ho, hbn⟩
  obtain ⟨AJ, mJ, dJ, rfl, hN⟩ := ho.read
  have SJ := hid (fun (W : World) (h : Below wJ.heap.size wJ W) => Sl.call hN h)
  clear hN
  replace HB := bel_call HB hbn
  replace HH := bel_call HH hbn
  replace HA := bel_call HA hbn
  replace HI := bel_call HI hbn
  have HJ := Below.refl wJ.heap.size wJ
  clear ho hbn
  go_wp2_with fail
  refine (M4.out _ HB).mono ?_
  rintro e wD ⟨v, rfl, ho, hbn⟩
  obtain ⟨AD, mD, dD, rfl, hN⟩ := ho.read
  have SD := hid (fun (W : World) (h : Below wD.heap.size wD W) => Sl.call hN h)
  clear hN
  replace HB := bel_call HB hbn
  replace HH := bel_call HH hbn
  replace HA := bel_call HA hbn
  replace HI := bel_call HI hbn
  replace HJ := bel_call HJ hbn
  have HD := Below.refl wD.heap.size wD
  clear ho hbn
  go_wp2_with fail
  refine (M5.out _ HB).mono ?_
  rintro e wP ⟨v, rfl, ho, hbn⟩
  obtain ⟨AP, mP, dP, rfl, hN⟩ := ho.sl (Nat.le_refl _) (Nat.le_refl _)
  have hloP := HH.size
  have FP := hid (fun (W : World) (h : Below wP.heap.size wP W) => hN.fromTo h hloP)
  have SP := hid (fun (W : World) (h : Below wP.heap.size wP W) => Sl.call (hN.wide (S' := (· < wP.heap.size)) fun _ hb => hb.2.1) h)
  clear hN
  replace HB := bel_call HB hbn
  replace HH := bel_call HH hbn
  replace HA := bel_call HA hbn
  replace HI := bel_call HI hbn
  replace HJ := bel_call HJ hbn
  replace HD := bel_call HD hbn
  have HP := Below.refl wP.heap.size wP
  clear ho hbn
  go_wp2_with fail
  refine (M6.out _ HB).mono ?_
  rintro e wQ ⟨v, rfl, ho, hbn⟩
  obtain ⟨AQ, mQ, dQ, rfl, hN⟩ := ho.read
  have SQ := hid (fun (W : World) (h : Below wQ.heap.size wQ W) => Sl.call hN h)
  clear hN
  replace HB := bel_call HB hbn
  replace HH := bel_call HH hbn
  replace HA := bel_call HA hbn
  replace HI := bel_call HI hbn
  replace HJ := bel_call HJ hbn
  replace HD := bel_call HD hbn
  replace HP := bel_call HP hbn
  have HQ := Below.refl wQ.heap.size wQ
  clear ho hbn
  go_wp2_with fail
  refine (M7.out _ HB).mono ?_
  rintro e wX ⟨rfl, hbn⟩
  replace HB := bel_call HB hbn
  replace HH := bel_call HH hbn
  replace HA := bel_call HA hbn
  replace HI := bel_call HI hbn
  replace HJ := bel_call HJ hbn
  replace HD := bel_call HD hbn
  replace HP := bel_call HP hbn
  replace HQ := bel_call HQ hbn
  clear hbn
  go_wp2_with fail
  refine (M8.out _ HB).mono ?_
  rintro e wY ⟨rfl, hbn⟩
  replace HB := bel_call HB hbn
  replace HH := bel_call HH hbn
  replace HA := bel_call HA hbn
  replace HI := bel_call HI hbn
  replace HJ := bel_call HJ hbn
  replace HD := bel_call HD hbn
  replace HP := bel_call HP hbn
  replace HQ := bel_call HQ hbn
  clear hbn
  have dae : (ae == ae) = true := by simp
  have dte : (te == te) = true := by simp
  have dke : (ke == ke) = true := by simp
  have dkv : (kv == kv) = true := by simp
  have dce : (ce == ce) = true := by simp
  have ddd : (dd == dd) = true := by cases dd <;> rfl
  go_wp2_with fail
  refine (refSame8_any _ _ _ _ _ _ (· < _) al al _ (SA.out _ HA) (SI.out _ HI)).mono ?_
  rw [decide_eq_true (rfl : al = al)]
  rintro e wE ⟨rfl, mmE, hwE⟩
  have hbn := bel_drewN (Below.refl wY.heap.size wY) mmE
  rw [← hwE] at hbn
  replace HB := bel_call HB hbn
  replace HH := bel_call HH hbn
  replace HA := bel_call HA hbn
  replace HI := bel_call HI hbn
  replace HJ := bel_call HJ hbn
  replace HD := bel_call HD hbn
  replace HP := bel_call HP hbn
  replace HQ := bel_call HQ hbn
  clear hbn hwE
  go_wp2_with fail
  refine (refSame8_any _ _ _ _ _ _ (· < _) tl tl _ (SJ.out _ HJ) (SD.out _ HD)).mono ?_
  rw [decide_eq_true (rfl : tl = tl)]
  rintro e wF ⟨rfl, mmF, hwF⟩
  have hbn := bel_drewN (Below.refl wE.heap.size wE) mmF
  rw [← hwF] at hbn
  replace HB := bel_call HB hbn
  replace HH := bel_call HH hbn
  replace HA := bel_call HA hbn
  replace HI := bel_call HI hbn
  replace HJ := bel_call HJ hbn
  replace HD := bel_call HD hbn
  replace HP := bel_call HP hbn
  replace HQ := bel_call HQ hbn
  clear hbn hwF
  go_wp2_with fail
  refine (refSame8_any _ _ _ _ _ _ (· < _) rl rl _ (SP.out _ HP) (SQ.out _ HQ)).mono ?_
  rw [decide_eq_true (rfl : rl = rl)]
  rintro e wG ⟨rfl, mmG, hwG⟩
  have hbn := bel_drewN (Below.refl wF.heap.size wF) mmG
  rw [← hwG] at hbn
  replace HB := bel_call HB hbn
  replace HH := bel_call HH hbn
  replace HA := bel_call HA hbn
  replace HI := bel_call HI hbn
  replace HJ := bel_call HJ hbn
  replace HD := bel_call HD hbn
  replace HP := bel_call HP hbn
  replace HQ := bel_call HQ hbn
  clear hbn hwG
  go_wp2_with fail
  refine (M9.out _ HB).mono ?_
  rintro e wK ⟨rfl, hbn⟩
  replace HB := bel_call HB hbn
  replace HH := bel_call HH hbn
  replace HA := bel_call HA hbn
  replace HI := bel_call HI hbn
  replace HJ := bel_call HJ hbn
  replace HD := bel_call HD hbn
  replace HP := bel_call HP hbn
  replace HQ := bel_call HQ hbn
  clear hbn
  go_wp2_with fail
  refine (MA.out _ HB).mono ?_
  rintro e wL ⟨rfl, hbn⟩
  replace HB := bel_call HB hbn
  replace HH := bel_call HH hbn
  replace HA := bel_call HA hbn
  replace HI := bel_call HI hbn
  replace HJ := bel_call HJ hbn
  replace HD := bel_call HD hbn
  replace HP := bel_call HP hbn
  replace HQ := bel_call HQ hbn
  clear hbn
  go_wp2_with fail
  refine (MB.out _ HB).mono ?_
  rintro e wM ⟨rfl, hbn⟩
  replace HB := bel_call HB hbn
  replace HH := bel_call HH hbn
  replace HA := bel_call HA hbn
  replace HI := bel_call HI hbn
  replace HJ := bel_call HJ hbn
  replace HD := bel_call HD hbn
  replace HP := bel_call HP hbn
  replace HQ := bel_call HQ hbn
  clear hbn
  go_wp2_with fail
  refine (MC.out _ HB).mono ?_
  rintro e wc ⟨rfl, mmc, hwc⟩
  have hbn := bel_drewN (Below.refl wM.heap.size wM) mmc
  rw [← hwc] at hbn
  replace HB := bel_call HB hbn
  replace HH := bel_call HH hbn
  replace HA := bel_call HA hbn
  replace HI := bel_call HI hbn
  replace HJ := bel_call HJ hbn
  replace HD := bel_call HD hbn
  replace HP := bel_call HP hbn
  replace HQ := bel_call HQ hbn
  clear hbn hwc
  have QA := FA.out _ HA
  have QP := FP.out _ HP
  have hca := QA.cap
  have hcp := QP.cap
  unfold maxLen at hca hcp
  have HQA := hid QA
  have HQP := hid QP
  have HBc := hid HB
  have HHc := hid HH
  clear QA QP HB HH HA HI HJ HD HP HQ
  go_wp2
  go_loopw [149] (fun i wr => ∃ j : Nat, j ≤ mA ∧ i = .int .i64 j ∧ Scb wh.heap.size wc wr) (fun i _ => mA - (intOf i).toNat)
  case atStart => exact ⟨0, Nat.zero_le _, rfl, Scb.refl _ _⟩
  case round =>
    obtain ⟨j, hj, rfl, hscr⟩ := hrel
    by_cases hlt : j < mA
    · obtain ⟨b, off, x, rfl, hbl, hfz, hx⟩ := rtks_new HQA.out hlt
      obtain ⟨y, hy⟩ := hscr.ints b _ _ x hx
      have hfz' := (hscr.fz ⟨b, off + j * 3 + 1, none⟩).trans hfz
      have HXX := hid hx
      clear hfz hx
      go_wp2
      go_roundw
      case rel => exact ⟨j + 1, by omega, by go_num, hscr.put hbl HXX.out _⟩
      case measure => simp [intOf]; omega
    · have HSC := hscr
      clear hscr
      obtain ⟨wq, hwq⟩ : ∃ z, z = wr := ⟨_, rfl⟩
      subst hwq
      go_wp2
      go_loopw [163] (fun i wr => ∃ j : Nat, j ≤ mP ∧ i = .int .i64 j ∧ Scb wh.heap.size wc wr) (fun i _ => mP - (intOf i).toNat)
      case atStart => exact ⟨0, Nat.zero_le _, rfl, HSC⟩
      case round =>
        obtain ⟨j, hj, rfl, hscr⟩ := hrel
        by_cases hlt : j < mP
        · obtain ⟨b, off, x, rfl, hbl, hfz, hx⟩ := rtks_new HQP.out hlt
          obtain ⟨y, hy⟩ := hscr.ints b _ _ x hx
          have hfz' := (hscr.fz ⟨b, off + j * 3 + 1, none⟩).trans hfz
          have HXX := hid hx
          clear hfz hx
          go_wp2
          go_roundw
          case rel => exact ⟨j + 1, by omega, by go_num, hscr.put hbl HXX.out _⟩
          case measure => simp [intOf]; omega
        · have HH9 : Below wh.heap.size wh wr := HHc.out.trans hscr.bel
          have HB9 := HBc.out.trans (hscr.bel.mono HBh)
          have HSM := hid (refSame8_any _ _ _ _ _ _ (· < wr.heap.size) x0 x0 wr (K0.out _ HB9) (KH.out _ HH9))
          rw [decide_eq_true (rfl : x0 = x0)] at HSM
          go_wp2_with fail
          refine HSM.out.mono ?_
          rintro e wS ⟨rfl, mS, rfl⟩
          go_wp2
          go_ret
          exact ⟨rfl, bel_drewN HB9 _⟩
end Go.Proofs.Ytlenoiaepanejaa
