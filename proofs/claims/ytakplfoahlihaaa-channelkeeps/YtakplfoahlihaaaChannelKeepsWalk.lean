/-
  The walk of ChannelKeeps.
-/
import Derived.Test.YtakplfoahlihaaaChannelSpec
import Derived.Deep.RegionHeld3
import Derived.Deep.CutBlock
namespace Go.Proofs.Ytakplfoahlihaaa
open Go.RowKit Go.WalkArith

/-- A block that is there, and is not that one. -/
def OffB (g : Nat) (w : World) (b : Nat) : Prop := b < w.heap.size ∧ b ≠ g
section
variable {α : Type} {L : Lay α} {w w' : World} {g : Nat} {A : Option Addr} {n c : Nat} {xs : List α}
theorem Sl.offCall (h : Sl L w (OffB g w) A n c xs) (hb : Below w.heap.size w w') : Sl L w' (OffB g w') A n c xs := (h.keep fun _ hp => hb.cell hp.1).wide fun _ hp => ⟨Nat.lt_of_lt_of_le hp.1 hb.size, hp.2⟩
theorem Sl.offRead (h : Sl L w (OffB g w) A n c xs) : Sl L w (· < w.heap.size) A n c xs := h.wide fun _ hp => hp.1
theorem Sl.offSet (h : Sl L w (OffB g w) A n c xs) (i : Nat) (u : Value) : Sl L (w.setCell ⟨g, i, none⟩ u) (OffB g (w.setCell ⟨g, i, none⟩ u)) A n c xs :=
  (h.keep fun _ hp => World.cell?_of_block (Below.heap_setCell _ _ _ _ hp.2)).wide fun _ hp => ⟨by simpa using hp.1, hp.2⟩
theorem OwnL.off {base : Nat} {e : TypeId} (h : OwnL L w base (some base) e (.slice A n c) xs) (hg : g < base) : Sl L w (OffB g w) A n c xs := by
  obtain ⟨A', n', c', he, hs⟩ := h.sl (Nat.le_refl _) (Nat.le_refl _)
  injection he with h1 h2 h3
  subst h1 h2 h3
  exact hs.wide fun b hb => ⟨hb.2.1, fun e => by have := hb.1; omega⟩
end
/-- What became of a channel: it may be, and all is as much as it was; or it was refused. -/
def KeepR (x d : Chn) (fe : Int) : Prop := (fe = 0 ∧ ChOk d ∧ aaV d = aaV x ∧ d.Id = x.Id ∧ d.Reserve = x.Reserve) ∨ (fe ≠ 0 ∧ d = zeroCh)
theorem nth_nums {l : List Hld} {j : Nat} (h : j < l.length) : nth (numsH l) j = l[j].N := by
  unfold nth numsH
  rw [List.getD_eq_getElem?_getD, List.getElem?_map, List.getElem?_eq_getElem h]
  rfl

set_option maxRecDepth 100000 in
set_option maxHeartbeats 8000000 in
theorem channelKeeps_walkH (HC : ChannelSpec) (s0 : Array Value) (x0 : Chn) (A1 : Option Addr) (n1 c1 : Nat) (x1 : List Int) (A2 : Option Addr) (n2 c2 : Nat) (x2 : List Int) (A3 : Option Addr) (n3 c3 : Nat) (x3 : List Int) (w : World) (r0 : lay_Channel.rep w (· < w.heap.size) x0 s0.toList) (r1 : Rd w w.heap.size .u8 A1 n1 c1 x1) (r2 : Rd w w.heap.size .u64 A2 n2 c2 x2) (r3 : Rd w w.heap.size .u64 A3 n3 c3 x3) :
    Calls Try.prog 5 #[.agg s0, .slice A1 n1 c1, .slice A2 n2 c2, .slice A3 n3 c3] w fun e w' => e = .returned (.bool true) ∧ Below w.heap.size w w' := by
  obtain ⟨A0, n0, c0, rfl, hw0, hs0⟩ := agg_Channel r0
  clear r0
  have hcap := hs0.cap
  unfold maxLen at hcap
  have hc1 := r1.cap
  have hc2 := r2.cap
  have hc3 := r3.cap
  unfold maxLen at hc1 hc2 hc3
  have RR1 := hid r1
  have RR2 := hid r2
  have RR3 := hid r3
  clear r1 r2 r3
  have hb0 : Below w.heap.size w (w.alloc (Obj.cells #[.int .u64 x0.Id, .int .u64 x0.Local, .int .u64 x0.Remote, .int .u64 x0.Reserve, .int .u64 x0.Most, .slice A0 n0 c0, .bool x0.Open] 25)) := bel_alloc (Below.refl _ _) _
  have B0 := BoxC.new w x0 A0 n0 c0
  have hsx0 : Sl lay_Hold w (fun b => b < w.heap.size) A0 n0 c0 x0.Holds := hs0
  clear hs0
  go_enter Try.func5, Try.ntmps5
  go_wp2_with fail
  generalize w.alloc (Obj.cells #[.int .u64 x0.Id, .int .u64 x0.Local, .int .u64 x0.Remote, .int .u64 x0.Reserve, .int .u64 x0.Most, .slice A0 n0 c0, .bool x0.Open] 25) = W0 at *
  refine (live9_any HC _).mono ?_
  rintro e w1 ⟨rfl, hb1⟩
  have HB := bel_call hb0 hb1
  have B1 := B0.call hb1
  clear B0 hb0 hb1
  obtain ⟨p0, p1, p2, p3, p4, p5, p6⟩ := B1.all
  by_cases hbig : 70 < n0
  · have d1 : decide ((70 : Int) < (n0 : Int)) = true := by simp; omega
    go_wp2
    go_ret
    exact ⟨rfl, HB⟩
  have d1 : decide ((70 : Int) < (n0 : Int)) = false := by simp; omega
  by_cases hbig2 : 40 < n1
  · have d2 : decide ((40 : Int) < (n1 : Int)) = true := by simp; omega
    go_wp2
    go_ret
    exact ⟨rfl, HB⟩
  have d2 : decide ((40 : Int) < (n1 : Int)) = false := by simp; omega
  obtain ⟨ce, hce⟩ : ∃ z, chE x0 = z := ⟨_, rfl⟩
  obtain ⟨al, hal⟩ : ∃ z, aaV x0 = z := ⟨_, rfl⟩
  have QE := hid hce
  have QA := hid hal
  clear hce hal
  go_wp2_with fail
  refine (HC.all _ x0 _ (chan_in hw0 hsx0 HB)).mono ?_
  rw [QE.out, QA.out]
  rintro e w2 ⟨rfl, hb2⟩
  replace HB := bel_call HB hb2
  have B2 := B1.call hb2
  clear B1 hb2 p0 p1 p2 p3 p4 p5 p6
  by_cases hok : ChOk x0
  rotate_left
  · have q1 : ce = 1 := by rw [← QE.out]; exact if_neg hok
    have q2 : al = 0 := by rw [← QA.out]; exact if_neg hok
    subst q1 q2
    obtain ⟨p0, p1, p2, p3, p4, p5, p6⟩ := B2.all
    go_wp2_with fail
    refine (HC.check _ x0 _ (chan_in hw0 hsx0 HB)).mono ?_
    rw [QE.out]
    rintro e w3 ⟨rfl, hb3⟩
    replace HB := bel_call HB hb3
    clear p0 p1 p2 p3 p4 p5 p6
    go_wp2
    go_ret
    exact ⟨rfl, HB⟩
  have q1 : ce = 0 := by rw [← QE.out]; exact if_pos hok
  subst q1
  have HX0 := hid (And.intro hok QA.out)
  have hsx2 : Sl lay_Hold w2 (OffB w.heap.size w2) A0 n0 c0 x0.Holds := (hsx0.keep fun _ hp => HB.cell hp).wide fun b hb => ⟨Nat.lt_of_lt_of_le hb HB.size, fun e => by rw [e] at hb; exact Nat.lt_irrefl _ hb⟩
  clear hok
  go_wp2
  go_loopw [50] (fun i wr => ∃ (j : Nat) (x : Chn) (A : Option Addr) (n c : Nat), j ≤ n1 ∧ i = .int .i64 j ∧ BoxC wr w.heap.size x A n c ∧ Sl lay_Hold wr (OffB w.heap.size wr) A n c x.Holds ∧ ChnWf x ∧ Hid (ChOk x ∧ aaV x = al) ∧ Below w.heap.size w wr) (fun i _ => n1 - (intOf i).toNat)
  case atStart => exact ⟨0, x0, A0, n0, c0, Nat.zero_le _, rfl, B2, hsx2, hw0, HX0, HB⟩
  case round =>
  clear B2 hsx2 HX0 HB hsx0 QA QE hw0
  obtain ⟨j, x, A, n, c, hj, rfl, BX, hsx, hwx, HX, hbel⟩ := hrel
  by_cases hlt : j < n1
  rotate_left
  · go_wp2
    go_ret
    exact ⟨rfl, hbel⟩
  obtain ⟨e1, o1, rfl, he1, hcell1⟩ := RR1.out.at_ (by omega)
  have q1 := (hbel.cell (p := ⟨e1, o1 + j, none⟩) he1).trans (hcell1 j hlt)
  have bk := bounds_u8 (RR1.out.wf (nth x1 j) (nth_mem (by rw [RR1.out.len]; exact hlt)))
  clear hcell1
  generalize nth x1 j = kd at *
  by_cases h2 : n2 ≤ j
  · have d3 : decide ((n2 : Int) ≤ (j : Int)) = true := by simp; omega
    go_wp2
    go_ret
    exact ⟨rfl, hbel⟩
  have d3 : decide ((n2 : Int) ≤ (j : Int)) = false := by simp; omega
  by_cases h3 : n3 ≤ j
  · have d4 : decide ((n3 : Int) ≤ (j : Int)) = true := by simp; omega
    go_wp2
    go_ret
    exact ⟨rfl, hbel⟩
  have d4 : decide ((n3 : Int) ≤ (j : Int)) = false := by simp; omega
  obtain ⟨e2, o2, rfl, he2, hcell2⟩ := RR2.out.at_ (by omega)
  obtain ⟨e3, o3, rfl, he3, hcell3⟩ := RR3.out.at_ (by omega)
  have z2 := hcell2 j (by omega)
  have z3 := hcell3 j (by omega)
  have wid := RR2.out.wf (nth x2 j) (nth_mem (by rw [RR2.out.len]; omega))
  have wam := RR3.out.wf (nth x3 j) (nth_mem (by rw [RR3.out.len]; omega))
  clear hcell2 hcell3
  generalize nth x2 j = id at *
  generalize nth x3 j = am at *
  have bam := bounds_u64 wam
  have l2 : j < n2 := by omega
  have l3 : j < n3 := by omega
  have i2 : (0 : Int) ≤ (j : Int) ∧ (j : Int) < (n2 : Int) := by omega
  have i3 : (0 : Int) ≤ (j : Int) ∧ (j : Int) < (n3 : Int) := by omega
  have t1 : kd.tmod 5 = kd % 5 := Int.tmod_eq_emod_of_nonneg bk.1
  have t2 : IntKind.u8.wrap (kd % 5) = kd % 5 := by rw [IntKind.wrap_u8]; omega
  have hba := bel_alloc (Below.refl wr.heap.size wr) (Obj.cells #[.int .u64 0, .int .u64 0, .int .u64 0, .int .u64 0, .int .u64 0, .slice none 0 0, .bool false] 25)
  have BD : BoxC (wr.alloc (Obj.cells #[.int .u64 0, .int .u64 0, .int .u64 0, .int .u64 0, .int .u64 0, .slice none 0 0, .bool false] 25)) wr.heap.size zeroCh none 0 0 := BoxC.new wr zeroCh none 0 0
  have hsr := hsx.offRead
  have hhx := sl_hlds hsr
  go_upto_block 2 with (fail)
  generalize wr.alloc (Obj.cells #[.int .u64 0, .int .u64 0, .int .u64 0, .int .u64 0, .int .u64 0, .slice none 0 0, .bool false] 25) = WD at *
  obtain ⟨p0, p1, p2, p3, p4, p5, p6⟩ := (BX.call hba).all
  have q2 := ((bel_call hbel hba).cell (p := ⟨e2, o2 + j, none⟩) he2).trans z2
  have q3 := ((bel_call hbel hba).cell (p := ⟨e3, o3 + j, none⟩) he3).trans z3
  have HH := Below.refl WD.heap.size WD
  have KS := hid (fun (W : World) (t : Chn) (A' : Option Addr) (n' c' : Nat) (h : Below wr.heap.size wr W) (h2 : BoxC W wr.heap.size t A' n' c') => (show W.cell? ⟨w.heap.size, 0, none⟩ = some (.int .u64 x.Id) ∧ W.cell? ⟨w.heap.size, 1, none⟩ = some (.int .u64 x.Local) ∧ W.cell? ⟨w.heap.size, 2, none⟩ = some (.int .u64 x.Remote) ∧ W.cell? ⟨w.heap.size, 3, none⟩ = some (.int .u64 x.Reserve) ∧ W.cell? ⟨w.heap.size, 4, none⟩ = some (.int .u64 x.Most) ∧ W.cell? ⟨w.heap.size, 5, none⟩ = some (.slice A n c) ∧ W.cell? ⟨w.heap.size, 6, none⟩ = some (.bool x.Open) ∧ W.cell? ⟨e2, o2 + j, none⟩ = some (.int .u64 id) ∧ W.cell? ⟨e3, o3 + j, none⟩ = some (.int .u64 am) ∧ (W.cell? ⟨wr.heap.size, 0, none⟩).isSome = true ∧ (W.cell? ⟨wr.heap.size, 1, none⟩).isSome = true ∧ (W.cell? ⟨wr.heap.size, 2, none⟩).isSome = true ∧ (W.cell? ⟨wr.heap.size, 3, none⟩).isSome = true ∧ (W.cell? ⟨wr.heap.size, 4, none⟩).isSome = true ∧ (W.cell? ⟨wr.heap.size, 5, none⟩).isSome = true ∧ (W.cell? ⟨wr.heap.size, 6, none⟩).isSome = true ∧ W.frozen? ⟨wr.heap.size, 0, none⟩ = false ∧ W.frozen? ⟨wr.heap.size, 1, none⟩ = false ∧ W.frozen? ⟨wr.heap.size, 2, none⟩ = false ∧ W.frozen? ⟨wr.heap.size, 3, none⟩ = false ∧ W.frozen? ⟨wr.heap.size, 4, none⟩ = false ∧ W.frozen? ⟨wr.heap.size, 5, none⟩ = false ∧ W.frozen? ⟨wr.heap.size, 6, none⟩ = false from by
    obtain ⟨a0, a1, a2, a3, a4, a5, a6⟩ := (BX.call h).all
    obtain ⟨b0, b1, b2, b3, b4, b5, b6⟩ := h2.all
    exact ⟨a0, a1, a2, a3, a4, a5, a6, ((bel_call hbel h).cell (p := ⟨e2, o2 + j, none⟩) he2).trans z2, ((bel_call hbel h).cell (p := ⟨e3, o3 + j, none⟩) he3).trans z3, by rw [b0]; rfl, by rw [b1]; rfl, by rw [b2]; rfl, by rw [b3]; rfl, by rw [b4]; rfl, by rw [b5]; rfl, by rw [b6]; rfl, h2.f 0, h2.f 1, h2.f 2, h2.f 3, h2.f 4, h2.f 5, h2.f 6⟩))
  have K7 := hid (fun (W : World) (h : Below WD.heap.size WD W) => KS.out W _ _ _ _ (bel_call hba h) (BD.call h))
  have K9 := hid (fun (W : World) (h : Below WD.heap.size WD W) (d : Chn) (A5 : Option Addr) (n5 c5 : Nat) => KS.out _ _ _ _ _ (Below.setBox (bel_call hba h) (g := wr.heap.size) (Nat.le_refl _) d A5 n5 c5) ((BD.call h).set d A5 n5 c5))
  clear q1
  go_cut [14] from 66 to 124 (fun f wc => ∃ (d : Chn) (fe : Int) (A5 : Option Addr) (n5 c5 : Nat), f = .int .i64 fe ∧ BoxC wc wr.heap.size d A5 n5 c5 ∧ Sl lay_Hold wc (OffB w.heap.size wc) A5 n5 c5 d.Holds ∧ ChnWf d ∧ Hid (KeepR x d fe) ∧ Below wr.heap.size wr wc)
  case first =>
    rcases (show kd % 5 = 0 ∨ kd % 5 = 1 ∨ kd % 5 = 2 ∨ kd % 5 = 3 ∨ kd % 5 = 4 by omega) with hk | hk | hk | hk | hk
    · rw [hk] at t2 t1
      obtain ⟨fe, hfe⟩ : ∃ z, hoE x id am = z := ⟨_, rfl⟩
      obtain ⟨d, hd⟩ : ∃ z, hoC x id am = z := ⟨_, rfl⟩
      have QE := hid hfe
      have QC := hid hd
      clear hfe hd
      go_upto_region 18 with (fail)
      go_region_held3 (fun W => W.cell? ⟨w.heap.size, 0, none⟩ = some (.int .u64 x.Id) ∧ W.cell? ⟨w.heap.size, 1, none⟩ = some (.int .u64 x.Local) ∧ W.cell? ⟨w.heap.size, 2, none⟩ = some (.int .u64 x.Remote) ∧ W.cell? ⟨w.heap.size, 3, none⟩ = some (.int .u64 x.Reserve) ∧ W.cell? ⟨w.heap.size, 4, none⟩ = some (.int .u64 x.Most) ∧ W.cell? ⟨w.heap.size, 5, none⟩ = some (.slice A n c) ∧ W.cell? ⟨w.heap.size, 6, none⟩ = some (.bool x.Open) ∧ W.cell? ⟨e2, o2 + j, none⟩ = some (.int .u64 id) ∧ W.cell? ⟨e3, o3 + j, none⟩ = some (.int .u64 am) ∧ (W.cell? ⟨wr.heap.size, 0, none⟩).isSome = true ∧ (W.cell? ⟨wr.heap.size, 1, none⟩).isSome = true ∧ (W.cell? ⟨wr.heap.size, 2, none⟩).isSome = true ∧ (W.cell? ⟨wr.heap.size, 3, none⟩).isSome = true ∧ (W.cell? ⟨wr.heap.size, 4, none⟩).isSome = true ∧ (W.cell? ⟨wr.heap.size, 5, none⟩).isSome = true ∧ (W.cell? ⟨wr.heap.size, 6, none⟩).isSome = true ∧ W.frozen? ⟨wr.heap.size, 0, none⟩ = false ∧ W.frozen? ⟨wr.heap.size, 1, none⟩ = false ∧ W.frozen? ⟨wr.heap.size, 2, none⟩ = false ∧ W.frozen? ⟨wr.heap.size, 3, none⟩ = false ∧ W.frozen? ⟨wr.heap.size, 4, none⟩ = false ∧ W.frozen? ⟨wr.heap.size, 5, none⟩ = false ∧ W.frozen? ⟨wr.heap.size, 6, none⟩ = false)
        (first | (with_reducible exact K9.out _ hb6 d A5 n5 c5) | (with_reducible exact K7.out _ hb6) | (with_reducible exact K7.out _ HH) | (with_reducible exact K7.out _ HH.drew) | fail "keep")
        ((go_at_call 12; (refine (HC.hold _ x id am _ (chan_in hwx hsr (bel_call hba HH.drew)) wid wam).mono ?_); rw [QE.out, QC.out]; rintro e w5 ⟨v, rfl, ⟨u, rfl, ho⟩, hb5⟩; obtain ⟨A5, n5, c5, rfl, hs5⟩ := ho.read; have hb6 := bel_call HH.drew hb5; have B5 := BD.call hb6; obtain ⟨k0, k1, k2, k3, k4, k5, k6⟩ := B5.all; have f0 := B5.f 0; have f1 := B5.f 1; have f2 := B5.f 2; have f3 := B5.f 3; have f4 := B5.f 4; have f5 := B5.f 5; have f6 := B5.f 6))
      all_goals
        have B9 := B5.set d A5 n5 c5
        have HB9 := Below.setBox (bel_call hba hb6) (g := wr.heap.size) (Nat.le_refl _) d A5 n5 c5
        have hs9 := (OwnL.setBox ho (g := wr.heap.size) BD.lt d A5 n5 c5).off (g := w.heap.size) (Nat.lt_trans BX.lt BD.lt)
        have hwd : ChnWf d := by rw [← QC.out]; exact ho_wf hwx bam.1
        clear B5 hs5 ho hb5 hb6 p0 p1 p2 p3 p4 p5 p6 q2 q3 BD hba HH k0 k1 k2 k3 k4 k5 k6 f0 f1 f2 f3 f4 f5 f6
        go_upto_region 19 with (fail)
        generalize (((((((w5.setCell ⟨wr.heap.size, 0, none⟩ (.int .u64 d.Id)).setCell ⟨wr.heap.size, 1, none⟩ (.int .u64 d.Local)).setCell ⟨wr.heap.size, 2, none⟩ (.int .u64 d.Remote)).setCell ⟨wr.heap.size, 3, none⟩ (.int .u64 d.Reserve)).setCell ⟨wr.heap.size, 4, none⟩ (.int .u64 d.Most)).setCell ⟨wr.heap.size, 5, none⟩ (.slice A5 n5 c5)).setCell ⟨wr.heap.size, 6, none⟩ (.bool d.Open)) = W9 at *
        by_cases hz : fe = 0
        · have HR := hid (show KeepR x d fe from .inl (by have h := ho_ch hwx (by rw [QE.out]; exact hz) bam.1; have h2 := (ho_is (by rw [QE.out]; exact hz)).2.2.2.2.2.2.2.2.2; rw [QC.out] at h h2; exact ⟨hz, h.1, h.2.2.1, by rw [h2], by rw [h2]⟩))
          have dl : decide (d.Local < d.Reserve) = false := decide_eq_false (by
            have := (ho_ch hwx (by rw [QE.out]; exact hz) bam.1).2.2.2
            rw [QC.out] at this
            omega)
          obtain ⟨-, y1, -, y3, -, -, -⟩ := B9.all
          subst hz
          go_wp2_with fail
          go_meet
          case rel => exact ⟨d, _, A5, n5, c5, rfl, B9, hs9, hwd, HR, HB9⟩
        · have HR := hid (show KeepR x d fe from .inr ⟨hz, by rw [← QC.out]; exact ho_no (by rw [QE.out]; exact hz)⟩)
          have dz : (fe == 0) = false := by simpa using hz
          go_wp2_with fail
          go_meet
          case rel => exact ⟨d, _, A5, n5, c5, rfl, B9, hs9, hwd, HR, HB9⟩
    · rw [hk] at t2 t1
      obtain ⟨fe, hfe⟩ : ∃ z, hoE x id am = z := ⟨_, rfl⟩
      obtain ⟨d, hd⟩ : ∃ z, hoC x id am = z := ⟨_, rfl⟩
      have QE := hid hfe
      have QC := hid hd
      clear hfe hd
      go_upto_region 18 with (fail)
      go_region_held3 (fun W => W.cell? ⟨w.heap.size, 0, none⟩ = some (.int .u64 x.Id) ∧ W.cell? ⟨w.heap.size, 1, none⟩ = some (.int .u64 x.Local) ∧ W.cell? ⟨w.heap.size, 2, none⟩ = some (.int .u64 x.Remote) ∧ W.cell? ⟨w.heap.size, 3, none⟩ = some (.int .u64 x.Reserve) ∧ W.cell? ⟨w.heap.size, 4, none⟩ = some (.int .u64 x.Most) ∧ W.cell? ⟨w.heap.size, 5, none⟩ = some (.slice A n c) ∧ W.cell? ⟨w.heap.size, 6, none⟩ = some (.bool x.Open) ∧ W.cell? ⟨e2, o2 + j, none⟩ = some (.int .u64 id) ∧ W.cell? ⟨e3, o3 + j, none⟩ = some (.int .u64 am) ∧ (W.cell? ⟨wr.heap.size, 0, none⟩).isSome = true ∧ (W.cell? ⟨wr.heap.size, 1, none⟩).isSome = true ∧ (W.cell? ⟨wr.heap.size, 2, none⟩).isSome = true ∧ (W.cell? ⟨wr.heap.size, 3, none⟩).isSome = true ∧ (W.cell? ⟨wr.heap.size, 4, none⟩).isSome = true ∧ (W.cell? ⟨wr.heap.size, 5, none⟩).isSome = true ∧ (W.cell? ⟨wr.heap.size, 6, none⟩).isSome = true ∧ W.frozen? ⟨wr.heap.size, 0, none⟩ = false ∧ W.frozen? ⟨wr.heap.size, 1, none⟩ = false ∧ W.frozen? ⟨wr.heap.size, 2, none⟩ = false ∧ W.frozen? ⟨wr.heap.size, 3, none⟩ = false ∧ W.frozen? ⟨wr.heap.size, 4, none⟩ = false ∧ W.frozen? ⟨wr.heap.size, 5, none⟩ = false ∧ W.frozen? ⟨wr.heap.size, 6, none⟩ = false)
        (first | (with_reducible exact K9.out _ hb6 d A5 n5 c5) | (with_reducible exact K7.out _ hb6) | (with_reducible exact K7.out _ HH) | (with_reducible exact K7.out _ HH.drew) | fail "keep")
        ((go_at_call 12; (refine (HC.hold _ x id am _ (chan_in hwx hsr (bel_call hba HH.drew)) wid wam).mono ?_); rw [QE.out, QC.out]; rintro e w5 ⟨v, rfl, ⟨u, rfl, ho⟩, hb5⟩; obtain ⟨A5, n5, c5, rfl, hs5⟩ := ho.read; have hb6 := bel_call HH.drew hb5; have B5 := BD.call hb6; obtain ⟨k0, k1, k2, k3, k4, k5, k6⟩ := B5.all; have f0 := B5.f 0; have f1 := B5.f 1; have f2 := B5.f 2; have f3 := B5.f 3; have f4 := B5.f 4; have f5 := B5.f 5; have f6 := B5.f 6))
      all_goals
        have B9 := B5.set d A5 n5 c5
        have HB9 := Below.setBox (bel_call hba hb6) (g := wr.heap.size) (Nat.le_refl _) d A5 n5 c5
        have hs9 := (OwnL.setBox ho (g := wr.heap.size) BD.lt d A5 n5 c5).off (g := w.heap.size) (Nat.lt_trans BX.lt BD.lt)
        have hwd : ChnWf d := by rw [← QC.out]; exact ho_wf hwx bam.1
        clear B5 hs5 ho hb5 hb6 p0 p1 p2 p3 p4 p5 p6 q2 q3 BD hba HH k0 k1 k2 k3 k4 k5 k6 f0 f1 f2 f3 f4 f5 f6
        go_upto_region 19 with (fail)
        generalize (((((((w5.setCell ⟨wr.heap.size, 0, none⟩ (.int .u64 d.Id)).setCell ⟨wr.heap.size, 1, none⟩ (.int .u64 d.Local)).setCell ⟨wr.heap.size, 2, none⟩ (.int .u64 d.Remote)).setCell ⟨wr.heap.size, 3, none⟩ (.int .u64 d.Reserve)).setCell ⟨wr.heap.size, 4, none⟩ (.int .u64 d.Most)).setCell ⟨wr.heap.size, 5, none⟩ (.slice A5 n5 c5)).setCell ⟨wr.heap.size, 6, none⟩ (.bool d.Open)) = W9 at *
        by_cases hz : fe = 0
        · have HR := hid (show KeepR x d fe from .inl (by have h := ho_ch hwx (by rw [QE.out]; exact hz) bam.1; have h2 := (ho_is (by rw [QE.out]; exact hz)).2.2.2.2.2.2.2.2.2; rw [QC.out] at h h2; exact ⟨hz, h.1, h.2.2.1, by rw [h2], by rw [h2]⟩))
          have dl : decide (d.Local < d.Reserve) = false := decide_eq_false (by
            have := (ho_ch hwx (by rw [QE.out]; exact hz) bam.1).2.2.2
            rw [QC.out] at this
            omega)
          obtain ⟨-, y1, -, y3, -, -, -⟩ := B9.all
          subst hz
          go_wp2_with fail
          go_meet
          case rel => exact ⟨d, _, A5, n5, c5, rfl, B9, hs9, hwd, HR, HB9⟩
        · have HR := hid (show KeepR x d fe from .inr ⟨hz, by rw [← QC.out]; exact ho_no (by rw [QE.out]; exact hz)⟩)
          have dz : (fe == 0) = false := by simpa using hz
          go_wp2_with fail
          go_meet
          case rel => exact ⟨d, _, A5, n5, c5, rfl, B9, hs9, hwd, HR, HB9⟩
    · rw [hk] at t2 t1
      obtain ⟨fe, hfe⟩ : ∃ z, wtE x id = z := ⟨_, rfl⟩
      obtain ⟨d, hd⟩ : ∃ z, seC x id = z := ⟨_, rfl⟩
      have QE := hid hfe
      have QC := hid hd
      clear hfe hd
      go_upto_region 22 with (fail)
      go_region_held3 (fun W => W.cell? ⟨w.heap.size, 0, none⟩ = some (.int .u64 x.Id) ∧ W.cell? ⟨w.heap.size, 1, none⟩ = some (.int .u64 x.Local) ∧ W.cell? ⟨w.heap.size, 2, none⟩ = some (.int .u64 x.Remote) ∧ W.cell? ⟨w.heap.size, 3, none⟩ = some (.int .u64 x.Reserve) ∧ W.cell? ⟨w.heap.size, 4, none⟩ = some (.int .u64 x.Most) ∧ W.cell? ⟨w.heap.size, 5, none⟩ = some (.slice A n c) ∧ W.cell? ⟨w.heap.size, 6, none⟩ = some (.bool x.Open) ∧ W.cell? ⟨e2, o2 + j, none⟩ = some (.int .u64 id) ∧ W.cell? ⟨e3, o3 + j, none⟩ = some (.int .u64 am) ∧ (W.cell? ⟨wr.heap.size, 0, none⟩).isSome = true ∧ (W.cell? ⟨wr.heap.size, 1, none⟩).isSome = true ∧ (W.cell? ⟨wr.heap.size, 2, none⟩).isSome = true ∧ (W.cell? ⟨wr.heap.size, 3, none⟩).isSome = true ∧ (W.cell? ⟨wr.heap.size, 4, none⟩).isSome = true ∧ (W.cell? ⟨wr.heap.size, 5, none⟩).isSome = true ∧ (W.cell? ⟨wr.heap.size, 6, none⟩).isSome = true ∧ W.frozen? ⟨wr.heap.size, 0, none⟩ = false ∧ W.frozen? ⟨wr.heap.size, 1, none⟩ = false ∧ W.frozen? ⟨wr.heap.size, 2, none⟩ = false ∧ W.frozen? ⟨wr.heap.size, 3, none⟩ = false ∧ W.frozen? ⟨wr.heap.size, 4, none⟩ = false ∧ W.frozen? ⟨wr.heap.size, 5, none⟩ = false ∧ W.frozen? ⟨wr.heap.size, 6, none⟩ = false)
        (first | (with_reducible exact K9.out _ hb6 d A5 n5 c5) | (with_reducible exact K7.out _ hb6) | (with_reducible exact K7.out _ HH) | (with_reducible exact K7.out _ HH.drew) | fail "keep")
        ((go_at_call 14; (refine (HC.settle _ x id _ (chan_in hwx hsr (bel_call hba HH.drew)) wid).mono ?_); rw [QE.out, QC.out]; rintro e w5 ⟨v, rfl, ⟨u, rfl, ho⟩, hb5⟩; obtain ⟨A5, n5, c5, rfl, hs5⟩ := ho.read; have hb6 := bel_call HH.drew hb5; have B5 := BD.call hb6; obtain ⟨k0, k1, k2, k3, k4, k5, k6⟩ := B5.all; have f0 := B5.f 0; have f1 := B5.f 1; have f2 := B5.f 2; have f3 := B5.f 3; have f4 := B5.f 4; have f5 := B5.f 5; have f6 := B5.f 6))
      all_goals
        have B9 := B5.set d A5 n5 c5
        have HB9 := Below.setBox (bel_call hba hb6) (g := wr.heap.size) (Nat.le_refl _) d A5 n5 c5
        have hs9 := (OwnL.setBox ho (g := wr.heap.size) BD.lt d A5 n5 c5).off (g := w.heap.size) (Nat.lt_trans BX.lt BD.lt)
        have hwd : ChnWf d := by rw [← QC.out]; exact se_wf hwx hhx
        clear B5 hs5 ho hb5 hb6 p0 p1 p2 p3 p4 p5 p6 q2 q3 BD hba HH k0 k1 k2 k3 k4 k5 k6 f0 f1 f2 f3 f4 f5 f6
        have HR := hid (show KeepR x d fe from by
          by_cases hz : fe = 0
          · exact .inl (by have h := se_is hwx hhx (by rw [QE.out]; exact hz); rw [QC.out] at h; exact ⟨hz, h.2.1, h.2.2.1, by rw [h.1], by rw [h.1]⟩)
          · exact .inr ⟨hz, by rw [← QC.out]; exact (fun h => (wt_no h).2.1) (by rw [QE.out]; exact hz)⟩)
        go_wp2_with fail
        go_meet
        case rel => exact ⟨d, _, A5, n5, c5, rfl, B9, hs9, hwd, HR, HB9⟩
    · rw [hk] at t2 t1
      obtain ⟨fe, hfe⟩ : ∃ z, wtE x id = z := ⟨_, rfl⟩
      obtain ⟨d, hd⟩ : ∃ z, faC x id = z := ⟨_, rfl⟩
      have QE := hid hfe
      have QC := hid hd
      clear hfe hd
      go_upto_region 24 with (fail)
      go_region_held3 (fun W => W.cell? ⟨w.heap.size, 0, none⟩ = some (.int .u64 x.Id) ∧ W.cell? ⟨w.heap.size, 1, none⟩ = some (.int .u64 x.Local) ∧ W.cell? ⟨w.heap.size, 2, none⟩ = some (.int .u64 x.Remote) ∧ W.cell? ⟨w.heap.size, 3, none⟩ = some (.int .u64 x.Reserve) ∧ W.cell? ⟨w.heap.size, 4, none⟩ = some (.int .u64 x.Most) ∧ W.cell? ⟨w.heap.size, 5, none⟩ = some (.slice A n c) ∧ W.cell? ⟨w.heap.size, 6, none⟩ = some (.bool x.Open) ∧ W.cell? ⟨e2, o2 + j, none⟩ = some (.int .u64 id) ∧ W.cell? ⟨e3, o3 + j, none⟩ = some (.int .u64 am) ∧ (W.cell? ⟨wr.heap.size, 0, none⟩).isSome = true ∧ (W.cell? ⟨wr.heap.size, 1, none⟩).isSome = true ∧ (W.cell? ⟨wr.heap.size, 2, none⟩).isSome = true ∧ (W.cell? ⟨wr.heap.size, 3, none⟩).isSome = true ∧ (W.cell? ⟨wr.heap.size, 4, none⟩).isSome = true ∧ (W.cell? ⟨wr.heap.size, 5, none⟩).isSome = true ∧ (W.cell? ⟨wr.heap.size, 6, none⟩).isSome = true ∧ W.frozen? ⟨wr.heap.size, 0, none⟩ = false ∧ W.frozen? ⟨wr.heap.size, 1, none⟩ = false ∧ W.frozen? ⟨wr.heap.size, 2, none⟩ = false ∧ W.frozen? ⟨wr.heap.size, 3, none⟩ = false ∧ W.frozen? ⟨wr.heap.size, 4, none⟩ = false ∧ W.frozen? ⟨wr.heap.size, 5, none⟩ = false ∧ W.frozen? ⟨wr.heap.size, 6, none⟩ = false)
        (first | (with_reducible exact K9.out _ hb6 d A5 n5 c5) | (with_reducible exact K7.out _ hb6) | (with_reducible exact K7.out _ HH) | (with_reducible exact K7.out _ HH.drew) | fail "keep")
        ((go_at_call 16; (refine (HC.fail _ x id _ (chan_in hwx hsr (bel_call hba HH.drew)) wid).mono ?_); rw [QE.out, QC.out]; rintro e w5 ⟨v, rfl, ⟨u, rfl, ho⟩, hb5⟩; obtain ⟨A5, n5, c5, rfl, hs5⟩ := ho.read; have hb6 := bel_call HH.drew hb5; have B5 := BD.call hb6; obtain ⟨k0, k1, k2, k3, k4, k5, k6⟩ := B5.all; have f0 := B5.f 0; have f1 := B5.f 1; have f2 := B5.f 2; have f3 := B5.f 3; have f4 := B5.f 4; have f5 := B5.f 5; have f6 := B5.f 6))
      all_goals
        have B9 := B5.set d A5 n5 c5
        have HB9 := Below.setBox (bel_call hba hb6) (g := wr.heap.size) (Nat.le_refl _) d A5 n5 c5
        have hs9 := (OwnL.setBox ho (g := wr.heap.size) BD.lt d A5 n5 c5).off (g := w.heap.size) (Nat.lt_trans BX.lt BD.lt)
        have hwd : ChnWf d := by rw [← QC.out]; exact fa_wf hwx hhx
        clear B5 hs5 ho hb5 hb6 p0 p1 p2 p3 p4 p5 p6 q2 q3 BD hba HH k0 k1 k2 k3 k4 k5 k6 f0 f1 f2 f3 f4 f5 f6
        have HR := hid (show KeepR x d fe from by
          by_cases hz : fe = 0
          · exact .inl (by have h := fa_is hwx hhx (by rw [QE.out]; exact hz); rw [QC.out] at h; exact ⟨hz, h.2.1, h.2.2.1, by rw [h.1], by rw [h.1]⟩)
          · exact .inr ⟨hz, by rw [← QC.out]; exact (fun h => (wt_no h).2.2) (by rw [QE.out]; exact hz)⟩)
        go_wp2_with fail
        go_meet
        case rel => exact ⟨d, _, A5, n5, c5, rfl, B9, hs9, hwd, HR, HB9⟩
    · rw [hk] at t2 t1
      obtain ⟨fe, hfe⟩ : ∃ z, puE x am = z := ⟨_, rfl⟩
      obtain ⟨d, hd⟩ : ∃ z, puC x am = z := ⟨_, rfl⟩
      have QE := hid hfe
      have QC := hid hd
      clear hfe hd
      go_upto_region 15 with (fail)
      go_region_held3 (fun W => W.cell? ⟨w.heap.size, 0, none⟩ = some (.int .u64 x.Id) ∧ W.cell? ⟨w.heap.size, 1, none⟩ = some (.int .u64 x.Local) ∧ W.cell? ⟨w.heap.size, 2, none⟩ = some (.int .u64 x.Remote) ∧ W.cell? ⟨w.heap.size, 3, none⟩ = some (.int .u64 x.Reserve) ∧ W.cell? ⟨w.heap.size, 4, none⟩ = some (.int .u64 x.Most) ∧ W.cell? ⟨w.heap.size, 5, none⟩ = some (.slice A n c) ∧ W.cell? ⟨w.heap.size, 6, none⟩ = some (.bool x.Open) ∧ W.cell? ⟨e2, o2 + j, none⟩ = some (.int .u64 id) ∧ W.cell? ⟨e3, o3 + j, none⟩ = some (.int .u64 am) ∧ (W.cell? ⟨wr.heap.size, 0, none⟩).isSome = true ∧ (W.cell? ⟨wr.heap.size, 1, none⟩).isSome = true ∧ (W.cell? ⟨wr.heap.size, 2, none⟩).isSome = true ∧ (W.cell? ⟨wr.heap.size, 3, none⟩).isSome = true ∧ (W.cell? ⟨wr.heap.size, 4, none⟩).isSome = true ∧ (W.cell? ⟨wr.heap.size, 5, none⟩).isSome = true ∧ (W.cell? ⟨wr.heap.size, 6, none⟩).isSome = true ∧ W.frozen? ⟨wr.heap.size, 0, none⟩ = false ∧ W.frozen? ⟨wr.heap.size, 1, none⟩ = false ∧ W.frozen? ⟨wr.heap.size, 2, none⟩ = false ∧ W.frozen? ⟨wr.heap.size, 3, none⟩ = false ∧ W.frozen? ⟨wr.heap.size, 4, none⟩ = false ∧ W.frozen? ⟨wr.heap.size, 5, none⟩ = false ∧ W.frozen? ⟨wr.heap.size, 6, none⟩ = false)
        (first | (with_reducible exact K9.out _ hb6 d A5 n5 c5) | (with_reducible exact K7.out _ hb6) | (with_reducible exact K7.out _ HH) | (with_reducible exact K7.out _ HH.drew) | fail "keep")
        ((go_at_call 18; (refine (HC.push _ x am _ (chan_in hwx hsr (bel_call hba HH.drew)) wam).mono ?_); rw [QE.out, QC.out]; rintro e w5 ⟨v, rfl, ⟨u, rfl, ho⟩, hb5⟩; obtain ⟨A5, n5, c5, rfl, hs5⟩ := ho.read; have hb6 := bel_call HH.drew hb5; have B5 := BD.call hb6; obtain ⟨k0, k1, k2, k3, k4, k5, k6⟩ := B5.all; have f0 := B5.f 0; have f1 := B5.f 1; have f2 := B5.f 2; have f3 := B5.f 3; have f4 := B5.f 4; have f5 := B5.f 5; have f6 := B5.f 6))
      all_goals
        have B9 := B5.set d A5 n5 c5
        have HB9 := Below.setBox (bel_call hba hb6) (g := wr.heap.size) (Nat.le_refl _) d A5 n5 c5
        have hs9 := (OwnL.setBox ho (g := wr.heap.size) BD.lt d A5 n5 c5).off (g := w.heap.size) (Nat.lt_trans BX.lt BD.lt)
        have hwd : ChnWf d := by rw [← QC.out]; exact pu_wf hwx hhx bam.1
        clear B5 hs5 ho hb5 hb6 p0 p1 p2 p3 p4 p5 p6 q2 q3 BD hba HH k0 k1 k2 k3 k4 k5 k6 f0 f1 f2 f3 f4 f5 f6
        have HR := hid (show KeepR x d fe from by
          by_cases hz : fe = 0
          · exact .inl (by have h := pu_is hwx hhx bam.1 (by rw [QE.out]; exact hz); rw [QC.out] at h; exact ⟨hz, h.2.2.2.2.1, h.2.2.2.2.2.1, by rw [h.2.2.2.1], by rw [h.2.2.2.1]⟩)
          · exact .inr ⟨hz, by rw [← QC.out]; exact pu_no (by rw [QE.out]; exact hz)⟩)
        go_wp2_with fail
        go_meet
        case rel => exact ⟨d, _, A5, n5, c5, rfl, B9, hs9, hwd, HR, HB9⟩
  case rest =>
  obtain ⟨d, fe, A5, n5, c5, rfl, B9, hsd, hwd, HR, hbc⟩ := hcut
  clear p0 p1 p2 p3 p4 p5 p6 q2 q3 BD hba K7 K9 KS HH z2 z3
  have BC := BX.call hbc
  have hsc := hsx.offCall hbc
  have hbw := bel_call hbel hbc
  rcases HR.out with ⟨rfl, ok, hall, hid1, hres⟩ | ⟨hne, rfl⟩
  rotate_left
  · have h0 : n5 = 0 := hsd.len.symm
    subst h0
    have hz : (fe != 0) = true := by simpa using hne
    obtain ⟨-, -, -, -, -, y5, y6⟩ := B9.all
    have y6' : wc.cell? ⟨wr.heap.size, 6, none⟩ = some (.bool false) := y6
    clear y6
    go_wp2
    go_roundw
    case rel => exact ⟨j + 1, x, A, n, c, by omega, by go_num, BC, hsc, hwx, HX, hbw⟩
    case measure => simp [intOf]; omega
  have QA1 := hid (show aaV d = al ∧ chE d = 0 ∧ heV d = heldN d from ⟨by rw [hall]; exact HX.out.2, if_pos ok, if_pos ok⟩)
  have HXD := hid (show ChOk d ∧ aaV d = al from ⟨ok, QA1.out.1⟩)
  have dI : (d.Id != x.Id) = false := by rw [hid1]; simp
  have dR : (d.Reserve != x.Reserve) = false := by rw [hres]; simp
  have hmx : heldN d ≤ mMax := Int.le_trans ok.2.2.2.2.2.2.2.1 ok.2.1
  have hsdr := hsd.offRead
  have hnn := nums_nonneg (sl_hlds hsdr)
  have hld := hsdr.len
  have hlen : (numsH d.Holds).length = n5 := by unfold numsH; rw [List.length_map]; exact hld
  have KD := hid (fun (W : World) (h : Below wc.heap.size wc W) => (B9.call h).all)
  have KC := hid (fun (W : World) (h : Below wc.heap.size wc W) => (BC.call h).all)
  have HCC := Below.refl wc.heap.size wc
  have hcap5 := hsd.cap
  unfold maxLen at hcap5
  clear hall hid1 hres ok
  obtain ⟨p0, p1, p2, p3, p4, p5, p6⟩ := KD.out _ HCC
  go_wp2_with fail
  refine (HC.all _ d _ (chan_in hwd hsdr HCC)).mono ?_
  rw [QA1.out.1, QA1.out.2.1]
  rintro e w6 ⟨rfl, hb6⟩
  replace HCC := bel_call HCC hb6
  clear p0 p1 p2 p3 p4 p5 p6 hb6
  obtain ⟨p0, p1, p2, p3, p4, p5, p6⟩ := KD.out _ HCC
  go_wp2_with fail
  refine (HC.held _ d _ (chan_in hwd hsdr HCC)).mono ?_
  rw [QA1.out.2.1, QA1.out.2.2]
  rintro e w7 ⟨rfl, hb7⟩
  replace HCC := bel_call HCC hb7
  clear p0 p1 p2 p3 p4 p5 p6 hb7
  obtain ⟨p0, p1, p2, p3, p4, p5, p6⟩ := KD.out _ HCC
  go_wp2
  clear p0 p1 p2 p3 p4 p5 p6
  obtain ⟨wo, hwo⟩ : ∃ z, z = wr := ⟨_, rfl⟩
  subst hwo
  go_loopw [19, 148] (fun sm i ws => ∃ m : Nat, m ≤ n5 ∧ i = .int .i64 m ∧ sm = .int .u64 (upM (numsH d.Holds) m) ∧ Below wc.heap.size wc ws) (fun _ i _ => n5 - (intOf i).toNat)
  case atStart => exact ⟨0, Nat.zero_le _, rfl, by rw [upM_zero], HCC⟩
  case round =>
  clear HCC
  obtain ⟨m, hm, rfl, rfl, hbs⟩ := hrel
  by_cases hl : m < n5
  · obtain ⟨b1, f1, hx1, rfl, hb1, u1, u2, hwh⟩ := hld_at (Sl.call hsdr hbs) hl
    have hsu := upM_succ (ws := numsH d.Holds) (j := m) (by rw [hlen]; exact hl)
    rw [nth_nums hx1] at hsu
    have bu0 := upM_nonneg hnn m
    have bu1 := upM_le hnn (m + 1)
    have hm4 : mMax = 4611686018427387904 := rfl
    have hhe : heldN d = sumM (numsH d.Holds) := rfl
    have bu2 := upM_nonneg hnn (m + 1)
    have wz : IntKind.u64.wrap (upM (numsH d.Holds) m + d.Holds[m].N) = upM (numsH d.Holds) m + d.Holds[m].N := IntWalk.u64_in _ (by omega)
    have HSU := hid hsu
    have hbn := bel_alloc hbs (Obj.cells #[.int .u64 d.Holds[m].Id, .int .u64 d.Holds[m].N] 37)
    clear hsu bu0 bu1 bu2 hm4 hhe hwh
    generalize upM (numsH d.Holds) m = su at *
    go_wp2
    go_roundw
    case rel => exact ⟨m + 1, by omega, by go_num, by rw [HSU.out], hbn⟩
    case measure => simp [intOf]; omega
  · have HU := hid (show upM (numsH d.Holds) m = heldN d from upM_all (by rw [hlen]; omega))
    rw [HU.out]
    have dH : (heldN d != heldN d) = false := by simp
    have dA : (al != al) = false := by simp
    generalize heldN d = hd at *
    obtain ⟨p0, p1, p2, p3, p4, p5, p6⟩ := KD.out _ hbs
    obtain ⟨k0, k1, k2, k3, k4, k5, k6⟩ := KC.out _ hbs
    have BC2 := BC.call hbs
    have f0 := BC2.f 0
    have f1 := BC2.f 1
    have f2 := BC2.f 2
    have f3 := BC2.f 3
    have f4 := BC2.f 4
    have f5 := BC2.f 5
    have f6 := BC2.f 6
    have HB9 := hid (BC2.set d A5 n5 c5)
    have HE9 := hid (Below.setBox (bel_call hbw hbs) (g := w.heap.size) (Nat.le_refl _) d A5 n5 c5)
    have HS9 := hid ((((((((hsd.offCall hbs).offSet 0 (.int .u64 d.Id)).offSet 1 (.int .u64 d.Local)).offSet 2 (.int .u64 d.Remote)).offSet 3 (.int .u64 d.Reserve)).offSet 4 (.int .u64 d.Most)).offSet 5 (.slice A5 n5 c5)).offSet 6 (.bool d.Open))
    clear BC2
    go_wp2
    go_roundw
    case rel => exact ⟨j + 1, d, A5, n5, c5, by omega, by go_num, HB9.out, HS9.out, hwd, HXD, HE9.out⟩
    case measure => simp [intOf]; omega
end Go.Proofs.Ytakplfoahlihaaa
