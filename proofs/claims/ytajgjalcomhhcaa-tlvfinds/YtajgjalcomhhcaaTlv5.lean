/-
  The contract of package tlv's With.
-/
import Derived.Test.YtajgjalcomhhcaaTlv4
import Derived.Test.YtajgjalcomhhcaaOwn2
namespace Go.Proofs.Ytajgjalcomhhcaa
open Go.RowKit Go.WalkArith

theorem Sl.uptoM {α : Type} {L : Lay α} {w : World} {S : Nat → Prop} {A : Option Addr} {n c : Nat} {xs : List α} (h : Sl L w S A n c xs) {i : Nat} (hi : i ≤ n) : Sl L w S A i i (xs.take i) := by
  have h1 := h.upto hi
  have hc := h.cap
  exact ⟨h1.1, Nat.le_refl _, by omega, fun hA => by have := h.no hA; omega, h1.2.2.2.2⟩
theorem maybe_one {r : Rec} : MayBe [r] ↔ r.V.length ≤ 4096 := by
  constructor
  · intro h; exact (h.2 0 (by simp) (by simp)).1
  · intro h
    refine ⟨by simp, fun j hj _ => ?_⟩
    obtain rfl : j = 0 := by simpa using hj
    exact ⟨h, fun h0 => absurd h0 (by omega)⟩
theorem drop_get {l : List Rec} {j : Nat} (h : j < l.length) : l.drop j = l[j] :: l.drop (j + 1) := List.drop_eq_getElem_cons h
theorem take_snoc {l : List Rec} {j : Nat} (h : j < l.length) : l.take (j + 1) = l.take j ++ [l[j]] := List.take_succ_eq_append_getElem h

set_option maxRecDepth 100000 in
set_option maxHeartbeats 2000000 in
theorem tlvWith_any (A : Option Addr) (n c : Nat) (l : List Rec) (s : Array Value) (r : Rec) (w : World) (hr : Sl lay_Record w (· < w.heap.size) A n c l) (hs : lay_Record.rep w (· < w.heap.size) r s.toList) :
    Calls Try.prog 24 #[.slice A n c, .agg s] w fun e w' => ∃ v', e = .returned (.tuple #[v', .int .i64 (wE l r)]) ∧ OwnL lay_Record w' w.heap.size (some w.heap.size) 36 v' (wL l r) ∧ Below w.heap.size w w' := by
  have hcap := hr.cap
  unfold maxLen at hcap
  have HL := hid hr.len
  obtain ⟨A1, n1, c1, hcs, hT, hV⟩ := rep_Record.1 hs
  obtain rfl : s = #[.int .u64 r.T, .slice A1 n1 c1] := Array.ext' hcs
  have hTb := bounds_u64 hT
  have hVl := hid hV.len
  have hcap1 := hV.cap
  unfold maxLen at hcap1
  have hb0 : Below w.heap.size w (w.alloc (Obj.cells #[.int .u64 r.T, .slice A1 n1 c1] 36)) := bel_alloc (Below.refl _ _) _
  have hr0 := hr.keep fun _ hp => hb0.cell hp
  have V0 := hV.keep fun _ hp => hb0.cell hp
  have q0 : (w.alloc (Obj.cells #[.int .u64 r.T, .slice A1 n1 c1] 36)).cell? ⟨w.heap.size, 0, none⟩ = some (.int .u64 r.T) := by rw [World.cell?_alloc_at _ _ _ _ rfl]; rfl
  have q1 : (w.alloc (Obj.cells #[.int .u64 r.T, .slice A1 n1 c1] 36)).cell? ⟨w.heap.size, 1, none⟩ = some (.slice A1 n1 c1) := by rw [World.cell?_alloc_at _ _ _ _ rfl]; rfl
  have hg0 : w.heap.size < (w.alloc (Obj.cells #[.int .u64 r.T, .slice A1 n1 c1] 36)).heap.size := by simp
  clear hs hV hr
  by_cases hm : MayBe l
  case neg =>
    have HC := hid (chk_no hm)
    have HE := hid (show wE l r = 1 from if_neg fun h => hm h.1)
    have HW := hid (show wL l r = [] from if_neg fun h => hm h.1)
    rw [HE.out, HW.out]
    clear hm
    go_enter Try.func24, Try.ntmps24
    go_wp2_with fail
    generalize w.alloc (Obj.cells #[.int .u64 r.T, .slice A1 n1 c1] 36) = W0 at *
    with_reducible refine (tlvCheck_any _ _ _ _ _ (hr0.wide fun _ hb => Nat.lt_of_lt_of_le hb hb0.size)).mono ?_
    rw [HC.out]
    rintro e w1 ⟨rfl, hb1⟩
    go_wp2
    go_ret2
    exact ⟨_, rfl, OwnL.nil _ _ _ _ _, bel_call hb0 hb1⟩
  have HC := hid (chk_ok hm)
  have HM := hid hm
  have hn64 : n ≤ 64 := by rw [← HL.out]; exact hm.1
  clear hm
  go_enter Try.func24, Try.ntmps24
  go_wp2_with fail
  generalize w.alloc (Obj.cells #[.int .u64 r.T, .slice A1 n1 c1] 36) = W0 at *
  with_reducible refine (tlvCheck_any _ _ _ _ _ (hr0.wide fun _ hb => Nat.lt_of_lt_of_le hb hb0.size)).mono ?_
  rw [HC.out]
  rintro e w1 ⟨rfl, hb1⟩
  have p0 := (hb1.cell (p := ⟨w.heap.size, 0, none⟩) hg0).trans q0
  have p1 := (hb1.cell (p := ⟨w.heap.size, 1, none⟩) hg0).trans q1
  have hgw1 : w.heap.size < w1.heap.size := Nat.lt_of_lt_of_le hg0 hb1.size
  have hb1' := (bel_alloc hb1 (Obj.cells #[.int .u64 r.T, .slice A1 n1 c1] 36))
  have HARG := hid (show Sl lay_Record (w1.alloc (Obj.cells #[.int .u64 r.T, .slice A1 n1 c1] 36)) (· < (w1.alloc (Obj.cells #[.int .u64 r.T, .slice A1 n1 c1] 36)).heap.size) (some ⟨w1.heap.size, 0, none⟩) 1 1 [r] from
    Sl.lit1 (cs := [.int .u64 r.T, .slice A1 n1 c1]) (by simp) (rep_Record.2 ⟨A1, n1, c1, rfl, hT, (V0.keep fun _ hp => hb1'.cell (Nat.lt_of_lt_of_le hp hb0.size)).wide fun b hb => Nat.lt_of_lt_of_le hb (Nat.le_trans hb0.size hb1'.size)⟩) (fun i v hv => by
      rw [World.cell?_alloc_at _ _ _ _ rfl]
      simpa using hv))
  by_cases hbig : 4096 < n1
  case pos =>
    have HC1 := hid (chk_no (l := [r]) (by rw [maybe_one, hVl.out]; omega))
    have HE := hid (show wE l r = 1 from if_neg fun h => by have := hVl.out; omega)
    have HW := hid (show wL l r = [] from if_neg fun h => by have := hVl.out; omega)
    go_wp2_with fail
    with_reducible refine (tlvCheck_any _ _ _ _ _ HARG.out).mono ?_
    rw [HC1.out]
    rintro e w2 ⟨rfl, hb2⟩
    go_wp2
    go_ret2
    exact ⟨_, by rw [HE.out]; rfl, by rw [HW.out]; exact OwnL.nil _ _ _ _ _, bel_call hb0 (bel_call hb1' hb2)⟩
  have hn1 : n1 ≤ 4096 := by omega
  have HC1 := hid (chk_ok (l := [r]) (by rw [maybe_one, hVl.out]; omega))
  have HE := hid (show wE l r = woE l r from if_pos ⟨HM.out, by have := hVl.out; omega⟩)
  have HW := hid (show wL l r = woL l r from if_pos ⟨HM.out, by have := hVl.out; omega⟩)
  go_wp2_with fail
  with_reducible refine (tlvCheck_any _ _ _ _ _ HARG.out).mono ?_
  rw [HC1.out]
  rintro e w2 ⟨rfl, hb2⟩
  have HB2 := bel_call hb1' hb2
  have u0 := (HB2.cell (p := ⟨w.heap.size, 0, none⟩) hg0).trans q0
  have u1 := (HB2.cell (p := ⟨w.heap.size, 1, none⟩) hg0).trans q1
  clear p0 p1 HARG hbig
  go_wp2_with fail
  with_reducible refine (place_any _ _ _ l r.T _ ((hr0.keep fun _ hp => HB2.cell (Nat.lt_of_lt_of_le hp hb0.size)).wide fun _ hb => Nat.lt_of_lt_of_le hb (Nat.le_trans hb0.size HB2.size)) hn64 HM.out.rises hTb.1).mono ?_
  rintro e w3 ⟨k, rfl, hk, hb3⟩
  have HB3 := bel_call HB2 hb3
  have HK := hid hk
  have hkn : k ≤ n := by rw [← HL.out]; exact hk.1
  have hr3 := hr0.keep fun _ hp => HB3.cell (Nat.lt_of_lt_of_le hp hb0.size)
  have V3 := V0.keep fun _ hp => HB3.cell (Nat.lt_of_lt_of_le hp hb0.size)
  have hfk := run_fromL (P := Try.prog) 22 36 .i64 Try.underlying22 Try.elemRec Try.infoRec A n c k hkn
  have hcutk := hr3.cut hkn
  have HLT := hid (HK.out.lt)
  have HGT := hid (HK.out.gt HM.out.rises)
  clear hk u0 u1 hr0 V0
  by_cases he : tAt l k = r.T
  case neg =>
    have hde : decide (tAt l k = r.T) = false := decide_eq_false he
    have HPI := hid (show putIn l r = l.take k ++ [r] ++ l.drop k from by unfold putIn; rw [HLT.out, HGT.out, if_neg he])
    rw [hde]
    clear he hde
    by_cases hfull : n = 64
    · have hpl : ¬ (putIn l r).length ≤ 64 := by have := HL.out; rw [HPI.out]; simp; omega
      have HO := hid (show woL l r = [] from if_neg hpl)
      have HO2 := hid (show woE l r = 7 from if_neg hpl)
      subst hfull
      clear hpl
      go_wp2
      go_ret2
      exact ⟨_, by rw [HE.out, HO2.out]; rfl, by rw [HW.out, HO.out]; exact OwnL.nil _ _ _ _ _, bel_call hb0 HB3⟩
    have HPL := show (putIn l r).length ≤ 64 from by have := HL.out; rw [HPI.out]; simp; omega
    have hnf : ((n : Int) == 64) = false := by simp; omega
    clear hfull

    have HO := hid (show woL l r = putIn l r from if_pos HPL)
    have HO2 := hid (show woE l r = 0 from if_pos HPL)
    have a0 := (HB3.cell (p := ⟨w.heap.size, 0, none⟩) hg0).trans q0
    have a1 := (HB3.cell (p := ⟨w.heap.size, 1, none⟩) hg0).trans q1
    have hgw3 : w.heap.size < w3.heap.size := Nat.lt_of_lt_of_le hg0 HB3.size
    have HX := hid (fun o => ((hr3.uptoM hkn).keep fun _ hp => (Below.refl w.heap.size w3).drew.alloc (Nat.le_of_lt hgw3) o |>.cell hp))
    have HY := hid (fun o => (show lay_Record.rep (w3.drew.alloc o) (· < w.heap.size) r (#[.int .u64 r.T, .slice A1 n1 c1] : Array Value).toList from rep_Record.2 ⟨A1, n1, c1, rfl, hT, V3.keep fun _ hp => (Below.refl w.heap.size w3).drew.alloc (Nat.le_of_lt hgw3) o |>.cell hp⟩))
    have HSZ := hid (fun (o : Obj) (b : Nat) (h : b < w.heap.size) => (show b < (w3.drew.alloc o).heap.size by simp; omega))
    have hup := run_uptoM (P := Try.prog) 22 36 .i64 .i64 Try.underlying22 Try.elemRec Try.infoRec A n c k (by omega)
    have hk1 : (k + 1) * 32 ≤ 140737488355328 := by omega
    have hk2 : k + 1 ≤ maxLen := by unfold maxLen; omega
    go_wp2_with fail
    go_region_held3 (fun w' => w'.cell? ⟨w.heap.size, 0, none⟩ = some (.int .u64 r.T) ∧ w'.cell? ⟨w.heap.size, 1, none⟩ = some (.slice A1 n1 c1)) (first | exact ⟨a0, a1⟩ | exact ⟨b0, b1⟩ | exact ⟨(World.cell?_alloc_past _ _ _ hgw3).trans a0, (World.cell?_alloc_past _ _ _ hgw3).trans a1⟩ | go_keep)
      (first
        | (refine step_growL (L := lay_Record) (by rfl) (.tmp 43) (.tmp 45) 22 (by rfl) 36 _ 32 Try.underlying22 Try.infoRec rfl (by decide) A k (l.take k) (· < w.heap.size) r #[.int .u64 r.T, .slice A1 n1 c1] w3.heap.size (by rfl) (by rfl) (HX.out _) (heap_alloc_new _ _) (HY.out _) (HSZ.out _) hk1 hk2 ?_; intro v4 w4 hown4 hb4; have hb34 : Below w3.heap.size w3 w4 := (bel_alloc (Below.refl w3.heap.size w3).drew _).trans (hb4.mono (bel_alloc (Below.refl w3.heap.size w3).drew _).size); have b0 := (hb34.cell (p := ⟨w.heap.size, 0, none⟩) hgw3).trans a0; have b1 := (hb34.cell (p := ⟨w.heap.size, 1, none⟩) hgw3).trans a1))
    have F4 : Below w.heap.size w3 w4 := hb34.mono (Nat.le_of_lt hgw3)
    have hz4 : w.heap.size ≤ w4.heap.size := Nat.le_trans (Nat.le_of_lt hgw3) hb34.size
    have hown4' := hown4.low (base' := w.heap.size) (by simp; omega)
    have SB := hid (hcutk.keep fun _ hp => F4.cell hp)
    have HSS := hid (fun (b : Nat) (h : b < w.heap.size) => (show Els w4 none v4 b from ⟨trivial, Nat.lt_of_lt_of_le h hz4, fun he => by have := hown4'.ge he.symm; have h9 := hown4.ge he.symm; simp at h9; omega⟩))
    have hl4 : (l.take k ++ [r]).length ≤ 65 := by have := HL.out; simp; omega
    clear b0 b1 a0 a1 hown4 HX HY HSZ hup hb34
    go_wp2_with (at_builtin; go_must (refine wpList_catL (L := lay_Record) rfl (.tmp 47) (.tmp 48) 22 rfl w.heap.size none 36 _ 32 Try.underlying22 Try.infoRec rfl (by decide) v4 (l.take k ++ [r]) (l.drop k) (· < w.heap.size) _ _ _ rfl rfl hown4' SB.out HSS.out hz4 (by omega) (by unfold maxLen; omega) ?_; intro v5 w5 hown5 hext5; rw [← HPI.out] at hown5; obtain ⟨A5, n5, c5, rfl, hs5⟩ := hown5.read; have hn5 : n5 ≤ 64 := (by rw [← hs5.len]; exact HPL)))
    have HB5 : Below w.heap.size w w5 := ((hb0.trans (HB3.mono hb0.size)).trans F4).trans (hown4'.below hext5 hz4)
    have HM5 := hid (HM.out.putIn (r := r) (by have := hVl.out; omega) HPL)
    have HL5 := hid hs5.len
    clear hs5 hext5 hown4' SB HSS F4
    generalize putIn l r = ms at *
    go_loopw [52] (fun i wr => ∃ j : Nat, j ≤ n5 ∧ i = .int .i64 j ∧ OwnM lay_Record wr w.heap.size w.heap.size 36 (.slice A5 n5 c5) (ms.take j) (ms.drop j) ∧ Below w.heap.size w wr) (fun i _ => n5 - (intOf i).toNat)
    case atStart => exact ⟨0, Nat.zero_le _, rfl, by simpa using hown5.toM w.heap.size, HB5⟩
    case round =>
      obtain ⟨j, hj, rfl, hom, hbel⟩ := hrel
      clear hown5
      by_cases hlt : j < n5
      · have hjl : j < ms.length := by rw [HL5.out]; exact hlt
        have htl : (ms.take j).length = j := by rw [List.length_take]; omega
        rw [drop_get hjl] at hom
        obtain ⟨g, cap, hv, hbg, hgl, hcap5, hfz, cs, hrep, hcell, hnext⟩ := hom.next
        injection hv with hA hN hC
        subst hA
        rw [htl, size_Record] at hcell
        obtain ⟨A', n', c', rfl, hw', hs'⟩ := rep_Record.1 hrep
        have e0 := hcell 0 _ rfl
        have e1 := hcell 1 _ rfl
        simp only [Nat.add_zero] at e0
        have R' := hid (hs'.rd (B := wr.heap.size) fun b hb => hb.2.1)
        have hn' : n' ≤ 4096 := by rw [← hs'.len]; exact HM5.out.small _ (List.getElem_mem hjl)
        have hsz := hbel.size
        have HNX := hid hnext
        have HW' := hid hw'
        have HV' := hid (show ms[j].V = ms[j].V from rfl)
        have hfz0 := hfz (j * 2 + 1)
        have HTS := hid (take_snoc hjl)
        have hc5 : n5 ≤ c5 ∧ c5 ≤ maxLen := by rw [← hC] at hcap5; omega
        unfold maxLen at hc5
        clear hom hcell hrep hs' hnext hw' hfz hN hC hcap5
        go_wp2_with fail
        with_reducible refine (clone_any _ _ _ _ ms[j].V _ R'.out (Nat.le_refl _) (by omega)).mono ?_
        rintro e w6 ⟨v6, rfl, hown6, hb6⟩
        obtain ⟨A6, n6, c6, rfl, hs6⟩ := hown6.slI
        have g1 := (hb6.cell (p := ⟨g, j * 2 + 1, none⟩) hgl).trans e1
        have g2 := (hb6.frozen (p := ⟨g, j * 2 + 1, none⟩) hgl).trans hfz0
        have HO6 := hid (HNX.out w6 1 (.slice A6 n6 c6) ms[j] (by decide) hb6 (rep_Record.2 ⟨A6, n6, c6, rfl, HW'.out, hs6.wide fun b hb => ⟨⟨Nat.le_trans hsz hb.1, hb.2.2⟩, hb.2.1, fun he => by injection he with he; have := hb.1; simp at he; omega⟩⟩))
        rw [htl, size_Record, ← HTS.out] at HO6
        go_wp2
        go_roundw
        case rel => exact ⟨j + 1, by omega, by go_num, HO6.out, (hbel.trans (hb6.mono hsz)).setCell hbg _⟩
        case measure => simp [intOf]; omega
      · obtain rfl : j = n5 := by omega
        rw [List.take_of_length_le (by rw [HL5.out]; exact Nat.le_refl _), List.drop_of_length_le (by rw [HL5.out]; exact Nat.le_refl _)] at hom
        go_wp2
        go_ret2
        exact ⟨_, by rw [HE.out, HO2.out]; rfl, by rw [HW.out, HO.out]; exact hom.toL, hbel⟩
  have hde : decide (tAt l k = r.T) = true := decide_eq_true he
  have hkl : k < n := by
    rcases Nat.lt_or_ge k l.length with h | h
    · rw [← HL.out]; exact h
    · rw [tAt_out h] at he; omega
  have HPI := hid (show putIn l r = l.take k ++ [r] ++ l.drop (k + 1) from by unfold putIn; rw [HLT.out, HGT.out, if_pos he])
  have HPL := show (putIn l r).length ≤ 64 from by have := HL.out; rw [HPI.out]; simp; omega
  have hfk1 := fun W => by simpa only [Int.natCast_one] using run_fromL (P := Try.prog) 22 36 .i64 Try.underlying22 Try.elemRec Try.infoRec (cutS lay_Record.size A c k) (n - k) (c - k) 1 (by omega) W
  have hcut1 : Sl lay_Record w3 (· < w.heap.size) (cutS lay_Record.size (cutS lay_Record.size A c k) (c - k) 1) (n - k - 1) (c - k - 1) (l.drop (k + 1)) := by
    have := hcutk.cut (i := 1) (by omega)
    rwa [List.drop_drop] at this
  rw [hde]
  clear he hde hcutk
  have HO := hid (show woL l r = putIn l r from if_pos HPL)
  have HO2 := hid (show woE l r = 0 from if_pos HPL)
  have a0 := (HB3.cell (p := ⟨w.heap.size, 0, none⟩) hg0).trans q0
  have a1 := (HB3.cell (p := ⟨w.heap.size, 1, none⟩) hg0).trans q1
  have hgw3 : w.heap.size < w3.heap.size := Nat.lt_of_lt_of_le hg0 HB3.size
  have HX := hid (fun o => ((hr3.uptoM hkn).keep fun _ hp => (Below.refl w.heap.size w3).drew.alloc (Nat.le_of_lt hgw3) o |>.cell hp))
  have HY := hid (fun o => (show lay_Record.rep (w3.drew.alloc o) (· < w.heap.size) r (#[.int .u64 r.T, .slice A1 n1 c1] : Array Value).toList from rep_Record.2 ⟨A1, n1, c1, rfl, hT, V3.keep fun _ hp => (Below.refl w.heap.size w3).drew.alloc (Nat.le_of_lt hgw3) o |>.cell hp⟩))
  have HSZ := hid (fun (o : Obj) (b : Nat) (h : b < w.heap.size) => (show b < (w3.drew.alloc o).heap.size by simp; omega))
  have hup := run_uptoM (P := Try.prog) 22 36 .i64 .i64 Try.underlying22 Try.elemRec Try.infoRec A n c k (by omega)
  have hk1 : (k + 1) * 32 ≤ 140737488355328 := by omega
  have hk2 : k + 1 ≤ maxLen := by unfold maxLen; omega
  go_wp2_with fail
  go_region_held3 (fun w' => w'.cell? ⟨w.heap.size, 0, none⟩ = some (.int .u64 r.T) ∧ w'.cell? ⟨w.heap.size, 1, none⟩ = some (.slice A1 n1 c1)) (first | exact ⟨a0, a1⟩ | exact ⟨b0, b1⟩ | exact ⟨(World.cell?_alloc_past _ _ _ hgw3).trans a0, (World.cell?_alloc_past _ _ _ hgw3).trans a1⟩ | go_keep)
    (first
      | (refine step_growL (L := lay_Record) (by rfl) (.tmp 43) (.tmp 45) 22 (by rfl) 36 _ 32 Try.underlying22 Try.infoRec rfl (by decide) A k (l.take k) (· < w.heap.size) r #[.int .u64 r.T, .slice A1 n1 c1] w3.heap.size (by rfl) (by rfl) (HX.out _) (heap_alloc_new _ _) (HY.out _) (HSZ.out _) hk1 hk2 ?_; intro v4 w4 hown4 hb4; have hb34 : Below w3.heap.size w3 w4 := (bel_alloc (Below.refl w3.heap.size w3).drew _).trans (hb4.mono (bel_alloc (Below.refl w3.heap.size w3).drew _).size); have b0 := (hb34.cell (p := ⟨w.heap.size, 0, none⟩) hgw3).trans a0; have b1 := (hb34.cell (p := ⟨w.heap.size, 1, none⟩) hgw3).trans a1))
  have F4 : Below w.heap.size w3 w4 := hb34.mono (Nat.le_of_lt hgw3)
  have hz4 : w.heap.size ≤ w4.heap.size := Nat.le_trans (Nat.le_of_lt hgw3) hb34.size
  have hown4' := hown4.low (base' := w.heap.size) (by simp; omega)
  have SB := hid (hcut1.keep fun _ hp => F4.cell hp)
  have HSS := hid (fun (b : Nat) (h : b < w.heap.size) => (show Els w4 none v4 b from ⟨trivial, Nat.lt_of_lt_of_le h hz4, fun he => by have := hown4'.ge he.symm; have h9 := hown4.ge he.symm; simp at h9; omega⟩))
  have hl4 : (l.take k ++ [r]).length ≤ 65 := by have := HL.out; simp; omega
  clear b0 b1 a0 a1 hown4 HX HY HSZ hup hb34
  go_wp2_with (at_builtin; go_must (refine wpList_catL (L := lay_Record) rfl (.tmp 47) (.tmp 48) 22 rfl w.heap.size none 36 _ 32 Try.underlying22 Try.infoRec rfl (by decide) v4 (l.take k ++ [r]) (l.drop (k + 1)) (· < w.heap.size) _ _ _ rfl rfl hown4' SB.out HSS.out hz4 (by omega) (by unfold maxLen; omega) ?_; intro v5 w5 hown5 hext5; rw [← HPI.out] at hown5; obtain ⟨A5, n5, c5, rfl, hs5⟩ := hown5.read; have hn5 : n5 ≤ 64 := (by rw [← hs5.len]; exact HPL)))
  have HB5 : Below w.heap.size w w5 := ((hb0.trans (HB3.mono hb0.size)).trans F4).trans (hown4'.below hext5 hz4)
  have HM5 := hid (HM.out.putIn (r := r) (by have := hVl.out; omega) HPL)
  have HL5 := hid hs5.len
  clear hs5 hext5 hown4' SB HSS F4
  generalize putIn l r = ms at *
  go_loopw [52] (fun i wr => ∃ j : Nat, j ≤ n5 ∧ i = .int .i64 j ∧ OwnM lay_Record wr w.heap.size w.heap.size 36 (.slice A5 n5 c5) (ms.take j) (ms.drop j) ∧ Below w.heap.size w wr) (fun i _ => n5 - (intOf i).toNat)
  case atStart => exact ⟨0, Nat.zero_le _, rfl, by simpa using hown5.toM w.heap.size, HB5⟩
  case round =>
    obtain ⟨j, hj, rfl, hom, hbel⟩ := hrel
    clear hown5
    by_cases hlt : j < n5
    · have hjl : j < ms.length := by rw [HL5.out]; exact hlt
      have htl : (ms.take j).length = j := by rw [List.length_take]; omega
      rw [drop_get hjl] at hom
      obtain ⟨g, cap, hv, hbg, hgl, hcap5, hfz, cs, hrep, hcell, hnext⟩ := hom.next
      injection hv with hA hN hC
      subst hA
      rw [htl, size_Record] at hcell
      obtain ⟨A', n', c', rfl, hw', hs'⟩ := rep_Record.1 hrep
      have e0 := hcell 0 _ rfl
      have e1 := hcell 1 _ rfl
      simp only [Nat.add_zero] at e0
      have R' := hid (hs'.rd (B := wr.heap.size) fun b hb => hb.2.1)
      have hn' : n' ≤ 4096 := by rw [← hs'.len]; exact HM5.out.small _ (List.getElem_mem hjl)
      have hsz := hbel.size
      have HNX := hid hnext
      have HW' := hid hw'
      have HV' := hid (show ms[j].V = ms[j].V from rfl)
      have hfz0 := hfz (j * 2 + 1)
      have HTS := hid (take_snoc hjl)
      have hc5 : n5 ≤ c5 ∧ c5 ≤ maxLen := by rw [← hC] at hcap5; omega
      unfold maxLen at hc5
      clear hom hcell hrep hs' hnext hw' hfz hN hC hcap5
      go_wp2_with fail
      with_reducible refine (clone_any _ _ _ _ ms[j].V _ R'.out (Nat.le_refl _) (by omega)).mono ?_
      rintro e w6 ⟨v6, rfl, hown6, hb6⟩
      obtain ⟨A6, n6, c6, rfl, hs6⟩ := hown6.slI
      have g1 := (hb6.cell (p := ⟨g, j * 2 + 1, none⟩) hgl).trans e1
      have g2 := (hb6.frozen (p := ⟨g, j * 2 + 1, none⟩) hgl).trans hfz0
      have HO6 := hid (HNX.out w6 1 (.slice A6 n6 c6) ms[j] (by decide) hb6 (rep_Record.2 ⟨A6, n6, c6, rfl, HW'.out, hs6.wide fun b hb => ⟨⟨Nat.le_trans hsz hb.1, hb.2.2⟩, hb.2.1, fun he => by injection he with he; have := hb.1; simp at he; omega⟩⟩))
      rw [htl, size_Record, ← HTS.out] at HO6
      go_wp2
      go_roundw
      case rel => exact ⟨j + 1, by omega, by go_num, HO6.out, (hbel.trans (hb6.mono hsz)).setCell hbg _⟩
      case measure => simp [intOf]; omega
    · obtain rfl : j = n5 := by omega
      rw [List.take_of_length_le (by rw [HL5.out]; exact Nat.le_refl _), List.drop_of_length_le (by rw [HL5.out]; exact Nat.le_refl _)] at hom
      go_wp2
      go_ret2
      exact ⟨_, by rw [HE.out, HO2.out]; rfl, by rw [HW.out, HO.out]; exact hom.toL, hbel⟩
end Go.Proofs.Ytajgjalcomhhcaa
