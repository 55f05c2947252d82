/-
  The contract of package token's Get.
  All contracts of package token.
  What the laws of layer 7 ask of plain lists: what was minted, and bound, is right by its key alone; a token with fewer caveats; another order.
-/
import Derived.Test.YtgiapfenalhleaaPack1
import Derived.Test.YtgiapfenalhleaaPack2
import Derived.Test.YtgiapfenalhleaaPack3
import Derived.Test.YtgiapfenalhleaaPack4
import Derived.Test.YtgiapfenalhleaaPack5
import Derived.Test.YtgiapfenalhleaaPack6
import Derived.Test.YtgiapfenalhleaaPack7
import Derived.Test.YtgiapfenalhleaaPack8
import Derived.Test.YtgiapfenalhleaaPack9
import Derived.Test.YtgiapfenalhleaaPack10
import Derived.Test.YtgiapfenalhleaaPack11
import Derived.Test.YtgiapfenalhleaaPack12
import Derived.Test.YtgiapfenalhleaaPack13
import Derived.Test.YtgiapfenalhleaaPack14
import Derived.Test.YtgiapfenalhleaaPack15
import Derived.Test.YtgiapfenalhleaaPack16
import Derived.Test.YtgiapfenalhleaaPack17
import Derived.Test.YtgiapfenalhleaaPack18
import Derived.Test.YtgiapfenalhleaaPack19
import Derived.Test.YtgiapfenalhleaaPack20
import Derived.Test.YtgiapfenalhleaaPack21
import Derived.Test.YtgiapfenalhleaaPack22
import Derived.Test.YtgiapfenalhleaaPack23
import Derived.Test.YtgiapfenalhleaaPack24
import Derived.Test.YtgiapfenalhleaaPack25
import Derived.Test.YtgiapfenalhleaaPack26
import Derived.Test.YtgiapfenalhleaaPack27
import Derived.Test.YtgiapfenalhleaaPack28
import Derived.Test.YtgiapfenalhleaaPack29
import Derived.Test.YtgiapfenalhleaaPack30
import Derived.Test.YtgiapfenalhleaaPack31
import Derived.Test.YtgiapfenalhleaaPack32
import Derived.Test.YtgiapfenalhleaaPack33
namespace Go.Proofs.Ytgiapfenalhleaa
open Go.RowKit Go.WalkArith

theorem at_two {l : List Rec} (hm : MayBe l) (h2 : fE l 2 = 0) (hl : 2 ≤ l.length) (h0 : l[0].T = 1) : l[1].T = 2 := by
  rw [fE_ok hm] at h2
  unfold foE at h2
  have hs : (findR l 2).isSome = true := by
    cases hf : (findR l 2).isSome with
    | true => rfl
    | false => rw [hf] at h2; simp at h2
  obtain ⟨r, hr⟩ := Option.isSome_iff_exists.1 hs
  have hrT := List.find?_some hr
  have hT : r.T = 2 := of_decide_eq_true hrT
  obtain ⟨k, hk, rfl⟩ := List.getElem_of_mem (List.mem_of_find?_eq_some hr)
  have hri := List.pairwise_iff_getElem.1 hm.rises
  have h01 := hri 0 1 (by omega) (by omega) (by omega)
  by_cases k0 : k = 0
  · subst k0; omega
  by_cases k1 : k = 1
  · subst k1; exact hT
  · have := hri 1 k (by omega) hk (by omega)
    omega
theorem inPl_is {l : List Rec} (hm : MayBe l) (h1 : fE l 1 = 0) (h2 : fE l 2 = 0) : InPl l ↔ ¬ 18 < l.length ∧ NumOk (l.drop 2) ∧ (l[0]?.map (·.T)) = some 1 := by
  have hl := rt_two hm h1 h2
  have e0 : (l[0]?.map (·.T)) = some l[0].T := by rw [List.getElem?_eq_getElem (show 0 < l.length by omega)]; rfl
  constructor
  · rintro ⟨k1, k2⟩
    refine ⟨by omega, fun i hi => ?_, ?_⟩
    · rw [List.length_drop] at hi
      rw [List.getElem_drop, k2 (2 + i) (by omega)]
      unfold tyAt
      rw [if_neg (by omega)]
      omega
    · rw [e0, k2 0 (by omega)]
      rfl
  · rintro ⟨k1, k2, k3⟩
    rw [e0] at k3
    have k4 : l[0].T = 1 := by simpa using k3
    refine ⟨by omega, fun i hi => ?_⟩
    by_cases i0 : i = 0
    · subst i0; exact k4
    by_cases i1 : i = 1
    · subst i1; exact at_two hm h2 hl k4
    · have := k2 (i - 2) (by rw [List.length_drop]; omega)
      rw [List.getElem_drop] at this
      have e : 2 + (i - 2) = i := by omega
      simp only [e] at this
      rw [this]
      unfold tyAt
      rw [if_neg (by omega)]
      omega
theorem rt_head {l : List Rec} (h : hdE l ≠ 0) : rtE l = hdE l := by
  unfold hdE at h ⊢
  by_cases q0 : fE l 1 ≠ 0 ∨ fE l 2 ≠ 0
  · rw [if_pos q0, rt0 q0]
  · rw [if_neg q0] at h ⊢
    have a1 : fE l 1 = 0 := Decidable.by_contra fun k => q0 (.inl k)
    have a2 : fE l 2 = 0 := Decidable.by_contra fun k => q0 (.inr k)
    by_cases q1 : nE l 1 ≠ 0
    · rw [if_pos q1, rt1 a1 a2 q1]
    · rw [if_neg q1] at h ⊢
      rw [rt2 a1 a2 (Decidable.by_contra fun k => q1 k) h]
theorem hd_zero {l : List Rec} (h : hdE l = 0) : fE l 1 = 0 ∧ fE l 2 = 0 ∧ nE l 1 = 0 ∧ nE l 2 = 0 := by
  unfold hdE at h
  by_cases q0 : fE l 1 ≠ 0 ∨ fE l 2 ≠ 0
  · rw [if_pos q0] at h; cases h
  · rw [if_neg q0] at h
    have a1 : fE l 1 = 0 := Decidable.by_contra fun k => q0 (.inl k)
    have a2 : fE l 2 = 0 := Decidable.by_contra fun k => q0 (.inr k)
    by_cases q1 : nE l 1 ≠ 0
    · rw [if_pos q1] at h; exact absurd h q1
    · rw [if_neg q1] at h
      exact ⟨a1, a2, Decidable.by_contra fun k => q1 k, h⟩
theorem rt_form {l : List Rec} (hm : MayBe l) (h : hdE l = 0) (h2 : 1048576 < nV l 2 ∨ ¬ InPl l) : rtE l = 2 := by
  obtain ⟨a1, a2, a3, a4⟩ := hd_zero h
  by_cases q : 1048576 < nV l 2 ∨ 18 < l.length
  · exact rt3 a1 a2 a3 a4 q
  have q' : ¬ InPl l := h2.elim (fun k => absurd (.inl k) q) id
  by_cases q5 : NumOk (l.drop 2)
  · refine rt5 a1 a2 a3 a4 q q5 fun k => q' ((inPl_is hm a1 a2).2 ⟨fun z => q (.inr z), q5, k⟩)
  · exact rt4 a1 a2 a3 a4 q q5
theorem rt_cavs {l : List Rec} (hm : MayBe l) (h : hdE l = 0) (h2 : ¬ 1048576 < nV l 2) (h3 : InPl l) : rtE l = csE (l.drop 2) := by
  obtain ⟨a1, a2, a3, a4⟩ := hd_zero h
  obtain ⟨b1, b2, b3⟩ := (inPl_is hm a1 a2).1 h3
  exact rt6 a1 a2 a3 a4 (by omega) b2 b3

set_option maxRecDepth 100000 in
set_option maxHeartbeats 8000000 in
theorem tGet_any (A : Option Addr) (n c : Nat) (xs : List Int) (w : World) (hr : Rd w w.heap.size .u8 A n c xs) :
    Calls Try.prog 27 #[.slice A n c] w fun e w' => ∃ vt, e = .returned (.tuple #[vt, .int .i64 (tgtE xs)]) ∧ OwnT w' w.heap.size vt (tgtT xs) ∧ Below w.heap.size w w' := by
  have hwb := wf_bytes hr.wf
  have hb0 : Below w.heap.size w (w.alloc (Obj.cells #[.int .u64 0, .slice none 0 0, .int .i64 0] 28)) := bel_alloc (Below.refl _ _) _
  have v0 : Var3 (w.alloc (Obj.cells #[.int .u64 0, .slice none 0 0, .int .i64 0] 28)) w.heap.size 28 (.int .u64 0) (.slice none 0 0) (.int .i64 0) := Var3.new _ _ _ _ _
  have hr0 := hr.kept hb0
  have HZW := hid (show (w.alloc (Obj.cells #[.int .u64 0, .slice none 0 0, .int .i64 0] 28)).heap.size = w.heap.size + 1 from by simp)
  obtain ⟨l, hl⟩ : ∃ z, (getR xs).1 = z := ⟨_, rfl⟩
  obtain ⟨e0, he0⟩ : ∃ z, (getR xs).2 = z := ⟨_, rfl⟩
  have HGE := hid he0
  have HGL := hid hl
  clear he0 hl
  go_enter Try.func27, Try.ntmps27
  go_wp2_with fail
  generalize (w.alloc (Obj.cells #[.int .u64 0, .slice none 0 0, .int .i64 0] 28)) = W0 at *
  refine (tlvGet_any A n c xs W0 hr0).mono ?_
  rw [HGE.out, HGL.out]
  rintro e w1 ⟨v1, rfl, ho1, hb1⟩
  obtain ⟨A1, n1, c1, rfl, hs1⟩ := ho1.read
  clear ho1 hr hr0
  by_cases hz : e0 = 0
  rotate_left
  · have HE := hid (show tgtE xs = e0 from by unfold tgtE; rw [HGE.out]; exact if_pos hz)
    have HEZ := hid (tgt_err (xs := xs) (by rw [HE.out]; exact hz))
    have V := v0.call hb1
    have t0 := V.c0
    have t1 := V.c1
    have t2 := V.c2
    have f0 := V.f 0
    have f1 := V.f 1
    have f2 := V.f 2
    have V2' := hid (V.set (.int .u64 0) (.slice none 0 0) (.int .i64 0))
    have HBE := hid ((((bel_call hb0 hb1).setCell (p := ⟨w.heap.size, 0, none⟩) (Nat.le_refl _) (.int .u64 0)).setCell (p := ⟨w.heap.size, 1, none⟩) (Nat.le_refl _) (.slice none 0 0)).setCell (p := ⟨w.heap.size, 2, none⟩) (Nat.le_refl _) (.int .i64 0))
    clear V
    have hne : (e0 != 0) = true := by simpa using hz
    go_wp2
    refine bodyPost_ret_by (results_ct rfl _ _ w.heap.size 0 rfl [.int .u64 0, .slice none 0 0, .int .i64 0] _ (range3 V2'.out.c0 V2'.out.c1 V2'.out.c2) Try.underlying28 rfl (by kernel_rfl)) rfl ?_
    exact ⟨_, by rw [HE.out]; rfl, by rw [HEZ.out]; exact ⟨_, rfl, OwnL.nil _ _ _ _ _⟩, HBE.out⟩
  subst hz
  have hgr : getR xs = (l, 0) := by rw [← HGE.out, ← HGL.out]
  have HG := hid (show tgtE xs = rtE l ∧ tgtT xs = rtT l from by unfold tgtE tgtT; rw [hgr]; exact ⟨rfl, rfl⟩)
  obtain ⟨hmb, -, -, hrw⟩ := getR_back hwb hgr
  have HMB := hid hmb
  have HRW := hid hrw
  have HNL := hid hs1.len
  have hn64 : n1 ≤ 64 := by rw [← hs1.len]; exact hmb.1
  clear hgr hmb hrw hwb
  have RS := hid (fun (W : World) (h : Below w1.heap.size w1 W) => Sl.call hs1 h)
  have HTY := hid (types_any w1)
  have hba := bel_alloc (Below.refl w1.heap.size w1) (Obj.cells #[.int .i64 2] 3)
  have VF := Var1.new w1 3 (.int .i64 2)
  clear hs1
  go_wp2_with fail
  refine HTY.out.mono ?_
  rintro e w2 ⟨rfl, rfl⟩
  clear HTY
  generalize w1.alloc (Obj.cells #[.int .i64 2] 3) = W2 at *
  obtain ⟨hd, hhd⟩ : ∃ z, hdE l = z := ⟨_, rfl⟩
  have HRH := hid (readHead_any A1 n1 c1 w1.heap.size l W2 (RS.out _ hba) HMB.out VF.c0)
  rw [hhd] at HRH
  have HD := hid hhd
  clear hhd
  go_wp2_with fail
  refine HRH.out.mono ?_
  rintro e w3 ⟨x, y, rfl, hxy, hb3⟩
  have HB3 := bel_alloc (bel_call hba hb3) (Obj.cells #[.int .u64 x, .int .u64 y] 78)
  have VH := Pair.new w3 78 (.int .u64 x) (.int .u64 y)
  have VF3 := (VF.call hb3).call (bel_alloc (Below.refl _ _) (Obj.cells #[.int .u64 x, .int .u64 y] 78))
  clear HRH hba VF hb3
  go_upto_region 6 with (fail)
  generalize w3.alloc (Obj.cells #[.int .u64 x, .int .u64 y] 78) = W3 at *
  generalize hgh : w3.heap.size = gh at *
  clear hgh
  by_cases hz : hd = 0
  rotate_left
  · have HE := hid (show tgtE xs = hd from by rw [HG.out.1, rt_head (by rw [HD.out]; exact hz), HD.out])
    have HEZ := hid (tgt_err (xs := xs) (by rw [HE.out]; exact hz))
    have V := v0.call (bel_call hb1 HB3)
    have t0 := V.c0
    have t1 := V.c1
    have t2 := V.c2
    have f0 := V.f 0
    have f1 := V.f 1
    have f2 := V.f 2
    have V2' := hid (V.set (.int .u64 0) (.slice none 0 0) (.int .i64 0))
    have HBE := hid ((((bel_call hb0 (bel_call hb1 HB3)).setCell (p := ⟨w.heap.size, 0, none⟩) (Nat.le_refl _) (.int .u64 0)).setCell (p := ⟨w.heap.size, 1, none⟩) (Nat.le_refl _) (.slice none 0 0)).setCell (p := ⟨w.heap.size, 2, none⟩) (Nat.le_refl _) (.int .i64 0))
    clear V
    have hne : (hd != 0) = true := by simpa using hz
    go_wp2
    refine bodyPost_ret_by (results_ct rfl _ _ w.heap.size 0 rfl [.int .u64 0, .slice none 0 0, .int .i64 0] _ (range3 V2'.out.c0 V2'.out.c1 V2'.out.c2) Try.underlying28 rfl (by kernel_rfl)) rfl ?_
    exact ⟨_, by rw [HE.out]; rfl, by rw [HEZ.out]; exact ⟨_, rfl, OwnL.nil _ _ _ _ _⟩, HBE.out⟩
  subst hz
  obtain ⟨hx, hy⟩ := hxy rfl
  have hyb : 0 ≤ y := by
    obtain ⟨-, a2, -, a4⟩ := hd_zero HD.out
    rw [hy]
    exact (nV_bd HMB.out HRW.out a2 a4).1
  have HX := hid hx
  have HY := hid hy
  clear hx hy hxy
  have h0 := VH.c0
  have h1 := VH.c1
  by_cases q1 : 1048576 < y
  · have HE := hid (show tgtE xs = 2 from by rw [HG.out.1]; exact rt_form HMB.out HD.out (.inl (by rw [← HY.out]; exact q1)))
    have HEZ := hid (tgt_err (xs := xs) (by rw [HE.out]; exact by decide))
    have V := v0.call (bel_call hb1 HB3)
    have t0 := V.c0
    have t1 := V.c1
    have t2 := V.c2
    have f0 := V.f 0
    have f1 := V.f 1
    have f2 := V.f 2
    have V2' := hid (V.set (.int .u64 0) (.slice none 0 0) (.int .i64 0))
    have HBE := hid ((((bel_call hb0 (bel_call hb1 HB3)).setCell (p := ⟨w.heap.size, 0, none⟩) (Nat.le_refl _) (.int .u64 0)).setCell (p := ⟨w.heap.size, 1, none⟩) (Nat.le_refl _) (.slice none 0 0)).setCell (p := ⟨w.heap.size, 2, none⟩) (Nat.le_refl _) (.int .i64 0))
    clear V
    have d1 : decide (1048576 < y) = true := decide_eq_true q1
    go_wp2
    refine bodyPost_ret_by (results_ct rfl _ _ w.heap.size 0 rfl [.int .u64 0, .slice none 0 0, .int .i64 0] _ (range3 V2'.out.c0 V2'.out.c1 V2'.out.c2) Try.underlying28 rfl (by kernel_rfl)) rfl ?_
    exact ⟨_, by rw [HE.out]; rfl, by rw [HEZ.out]; exact ⟨_, rfl, OwnL.nil _ _ _ _ _⟩, HBE.out⟩
  have d1 : decide (1048576 < y) = false := decide_eq_false q1
  have HIP := hid (inPlace_any A1 n1 c1 w1.heap.size l W3 (RS.out _ HB3) VF3.c0)
  go_wp2_with fail
  refine HIP.out.mono ?_
  rintro e w4 ⟨rfl, hb4⟩
  have HB4 := bel_call HB3 hb4
  have VH4 := VH.call hb4
  clear HIP h0 h1 VH hb4 VF3 HB3
  by_cases q2 : InPl l
  rotate_left
  · rw [decide_eq_false q2]
    have HE := hid (show tgtE xs = 2 from by rw [HG.out.1]; exact rt_form HMB.out HD.out (.inr q2))
    have HEZ := hid (tgt_err (xs := xs) (by rw [HE.out]; exact by decide))
    have V := v0.call (bel_call hb1 HB4)
    have t0 := V.c0
    have t1 := V.c1
    have t2 := V.c2
    have f0 := V.f 0
    have f1 := V.f 1
    have f2 := V.f 2
    have V2' := hid (V.set (.int .u64 0) (.slice none 0 0) (.int .i64 0))
    have HBE := hid ((((bel_call hb0 (bel_call hb1 HB4)).setCell (p := ⟨w.heap.size, 0, none⟩) (Nat.le_refl _) (.int .u64 0)).setCell (p := ⟨w.heap.size, 1, none⟩) (Nat.le_refl _) (.slice none 0 0)).setCell (p := ⟨w.heap.size, 2, none⟩) (Nat.le_refl _) (.int .i64 0))
    clear V
    go_wp2
    refine bodyPost_ret_by (results_ct rfl _ _ w.heap.size 0 rfl [.int .u64 0, .slice none 0 0, .int .i64 0] _ (range3 V2'.out.c0 V2'.out.c1 V2'.out.c2) Try.underlying28 rfl (by kernel_rfl)) rfl ?_
    exact ⟨_, by rw [HE.out]; rfl, by rw [HEZ.out]; exact ⟨_, rfl, OwnL.nil _ _ _ _ _⟩, HBE.out⟩
  rw [decide_eq_true q2]
  have HC := hid (show tgtE xs = csE (l.drop 2) from by rw [HG.out.1]; exact rt_cavs HMB.out HD.out (by rw [← HY.out]; omega) q2)
  have hl2 : 2 ≤ n1 := by
    obtain ⟨a1, a2, -, -⟩ := hd_zero HD.out
    rw [← HNL.out]; exact rt_two HMB.out a1 a2
  clear q2
  have hcut : ∀ W : World, (Instr.slice 81 (.slice A1 n1 c1) (some (.int .i64 2)) none none).run Try.prog W = .ok (.slice (cutS 2 A1 c1 2) (n1 - 2) (c1 - 2)) W := fun W => run_fromL (P := Try.prog) 81 83 .i64 Try.underlying81 (by kernel_rfl) Try.infoRec A1 n1 c1 2 hl2 W
  have RS2 := hid (fun (W : World) (h : Below w1.heap.size w1 W) => (show Sl lay_Record W (· < W.heap.size) (cutS 2 A1 c1 2) (n1 - 2) (c1 - 2) (l.drop 2) from (RS.out W h).cut hl2))
  obtain ⟨L, hL⟩ : ∃ z, l.drop 2 = z := ⟨_, rfl⟩
  obtain ⟨A2, hA2⟩ : ∃ z, cutS 2 A1 c1 2 = z := ⟨_, rfl⟩
  obtain ⟨m, hm⟩ : ∃ z, n1 - 2 = z := ⟨_, rfl⟩
  obtain ⟨c2, hc2⟩ : ∃ z, c1 - 2 = z := ⟨_, rfl⟩
  rw [hA2, hm, hc2] at hcut
  rw [hA2, hm, hc2, hL] at RS2
  rw [hL] at HC
  have hm64 : m ≤ 64 := by omega
  have HLD := hid hL
  have HSM := hid (fun (r : Rec) (h : r ∈ L) => (show r.V.length ≤ 4096 ∧ ∀ x ∈ r.V, 0 ≤ x ∧ x ≤ 255 from by
    have hrl : r ∈ l := List.mem_of_mem_drop (by rw [hL]; exact h)
    exact ⟨HMB.out.small r hrl, (HRW.out r hrl).2⟩))
  clear hL hA2 hc2 hm
  obtain ⟨ce, hce⟩ : ∃ z, csE L = z := ⟨_, rfl⟩
  have HRC := hid (readCaveats_any A2 m c2 L w4 (RS2.out _ HB4) hm64 HSM.out)
  rw [hce] at HRC HC
  have CE := hid hce
  clear hce
  go_wp2_with fail
  refine HRC.out.mono ?_
  rintro e w5 ⟨v5, rfl, ho5, hb5⟩
  have HB5 := bel_call HB4 hb5
  have VH5 := VH4.call hb5
  have hz4 := HB4.size
  clear HRC VH4 hb5 HB4 hcut
  by_cases hz : ce = 0
  rotate_left
  · have HE := hid (show tgtE xs = ce from HC.out)
    have HEZ := hid (tgt_err (xs := xs) (by rw [HE.out]; exact hz))
    have V := v0.call (bel_call hb1 HB5)
    have t0 := V.c0
    have t1 := V.c1
    have t2 := V.c2
    have f0 := V.f 0
    have f1 := V.f 1
    have f2 := V.f 2
    have V2' := hid (V.set (.int .u64 0) (.slice none 0 0) (.int .i64 0))
    have HBE := hid ((((bel_call hb0 (bel_call hb1 HB5)).setCell (p := ⟨w.heap.size, 0, none⟩) (Nat.le_refl _) (.int .u64 0)).setCell (p := ⟨w.heap.size, 1, none⟩) (Nat.le_refl _) (.slice none 0 0)).setCell (p := ⟨w.heap.size, 2, none⟩) (Nat.le_refl _) (.int .i64 0))
    clear V
    have hne : (ce != 0) = true := by simpa using hz
    go_wp2
    refine bodyPost_ret_by (results_ct rfl _ _ w.heap.size 0 rfl [.int .u64 0, .slice none 0 0, .int .i64 0] _ (range3 V2'.out.c0 V2'.out.c1 V2'.out.c2) Try.underlying28 rfl (by kernel_rfl)) rfl ?_
    exact ⟨_, by rw [HE.out]; rfl, by rw [HEZ.out]; exact ⟨_, rfl, OwnL.nil _ _ _ _ _⟩, HBE.out⟩
  subst hz
  rw [show csLe L = csL L from if_pos CE.out] at ho5
  obtain ⟨A5, n5, c5, rfl, -⟩ := ho5.read
  have HTT := hid (show tgtE xs = 0 ∧ tgtT xs = ⟨x, csL L, y⟩ from by
    refine ⟨HC.out, ?_⟩
    rw [HG.out.2, rt_ok (by rw [← HG.out.1]; exact HC.out), HX.out, HY.out, HLD.out])
  have HBU := bel_call hb1 HB5
  have g0 := VH5.c0
  have g1 := VH5.c1
  have V := v0.call HBU
  have t0 := V.c0
  have t1 := V.c1
  have t2 := V.c2
  have f0 := V.f 0
  have f1 := V.f 1
  have f2 := V.f 2
  have zw := HZW.out
  have z1 := hb1.size
  have hwv : IntKind.i64.wrap y = y := IntWalk.i64_in _ (by omega)
  have V2' := hid (V.set (.int .u64 x) (.slice A5 n5 c5) (.int .i64 y))
  have HBE := hid ((((bel_call hb0 HBU).setCell (p := ⟨w.heap.size, 0, none⟩) (Nat.le_refl _) (.int .u64 x)).setCell (p := ⟨w.heap.size, 1, none⟩) (Nat.le_refl _) (.slice A5 n5 c5)).setCell (p := ⟨w.heap.size, 2, none⟩) (Nat.le_refl _) (.int .i64 y))
  have HO := hid ((((ho5.setLow (b := w.heap.size) (by omega) (by omega) 0 (.int .u64 x)).setLow (b := w.heap.size) (by omega) (by omega) 1 (.slice A5 n5 c5)).setLow (b := w.heap.size) (by omega) (by omega) 2 (.int .i64 y)).lows (base' := w.heap.size) (lo' := w.heap.size) (by omega) (by omega))
  clear V zw z1 VH5 ho5
  go_wp2
  refine bodyPost_ret_by (results_ct rfl _ _ w.heap.size 0 rfl [.int .u64 x, .slice A5 n5 c5, .int .i64 y] _ (range3 V2'.out.c0 V2'.out.c1 V2'.out.c2) Try.underlying28 rfl (by kernel_rfl)) rfl ?_
  exact ⟨_, by rw [HTT.out.1]; rfl, by rw [HTT.out.2]; exact ⟨_, rfl, HO.out⟩, HBE.out⟩
end Go.Proofs.Ytgiapfenalhleaa

namespace Go.Proofs.Ytgiapfenalhleaa
open Go.RowKit Go.WalkArith

theorem oct_len_le (n : Int) : (oct n).length ≤ 9 := by
  have := octs_len_le [n]
  simpa [octs] using this
theorem putC_le (c : Cav) : (putC c).length ≤ 4096 := by
  unfold putC numsC
  have h9 : ∀ n : Int, (oct n).length ≤ 9 := oct_len_le
  split
  · split
    · simp only [octs, List.flatMap_cons, List.flatMap_nil, List.append_nil, List.length_append]
      have h1 := h9 4
      have h2 := h9 c.A
      have h3 := h9 c.B
      omega
    · simp only [octs, List.flatMap_cons, List.flatMap_nil, List.append_nil, List.length_append]
      have h1 := h9 c.Kind
      have h2 := h9 c.A
      omega
  · simp
/-- A tag that is made is one of the arena's. -/
theorem bn_made {l : List Trm} {root key : Int} {cs : List Cav} (h : (bnS l root key cs).e = 0) : ∃ (o : List Trm) (i : Nat), i < (l ++ o).length ∧ (bnS l root key cs).l = l ++ o ∧ (bnS l root key cs).t = ⟨root, cs, i⟩ ∧ ArOk (l ++ o) ∧ pthK (l ++ o) i = key ∧ pthT (l ++ o) i = oct root :: txts cs ∧ o.length ≤ cs.length + 1 ∧ (∀ c ∈ cs, CavOk c) ∧ cs.length ≤ 16 := by
  obtain ⟨h1, h2, h3, h4, h5⟩ := bn_is l root key cs h
  obtain ⟨o, i, hi, e1, e2, a, p1, p2, n⟩ := mk_good l key (oct root) (txts cs) h1
  exact ⟨o, i, hi, h2.trans e1, by rw [h3, e2], a, p1, p2, by simpa [txts] using n, h4, h5⟩
theorem tokOk_mk {l : List Trm} (h : ArOk l) {root : Int} {cs : List Cav} {i : Nat} (hi : i < l.length) (h1 : ∀ c ∈ cs, CavOk c) (h2 : cs.length ≤ 16) : TokOk ⟨root, cs, i⟩ := by
  have := h.1
  refine ⟨⟨h2, ?_⟩, by show (0 : Int) ≤ (i : Int); omega, by show (i : Int) ≤ 1048576; omega⟩
  unfold cavsB
  rw [List.all_eq_true]
  exact fun c hc => decide_eq_true (h1 c hc)
theorem tokOk_cavs {t : Tok} (h : TokOk t) : ∀ c ∈ t.L, CavOk c := fun c hc => by
  have := h.1.2
  unfold cavsB at this
  rw [List.all_eq_true] at this
  exact of_decide_eq_true (this c hc)
/-- As what was minted, and bound, is seen in an arena that holds it. -/
theorem seen {C : List Trm} (h : ArOk C) {root key : Int} {cs : List Cav} {i : Nat} (hi : i < C.length) (hk : pthK C i = key) (ht : pthT C i = oct root :: txts cs) (h1 : ∀ c ∈ cs, CavOk c) (h2 : cs.length ≤ 16) :
    vfE C ⟨root, cs, i⟩ = 0 ∧ (∀ other, vfV C other ⟨root, cs, i⟩ = decide (other = key)) ∧
    (∀ (t : Tok), (0 ≤ t.Root ∧ t.Root ≤ 18446744073709551615) → (0 ≤ root ∧ root ≤ 18446744073709551615) → CavsWf cs → CavsWf t.L → vfE C ⟨t.Root, t.L, i⟩ = 0 → vfV C key ⟨t.Root, t.L, i⟩ = decide (t.Root = root ∧ t.L = cs)) ∧
    (∀ (tag : Int), vfE C ⟨root, cs, tag⟩ = 0 → vfV C key ⟨root, cs, tag⟩ = decide (tag = i)) := by
  have hv : VerOk C ⟨root, cs, i⟩ := ⟨tokOk_mk h hi h1 h2, h⟩
  refine ⟨if_pos hv, fun other => ?_, fun t bt br wc wt he => ?_, fun tag he => ?_⟩
  · rcases vf_is (l := C) (key := other) (t := ⟨root, cs, i⟩) with ⟨-, e, -⟩ | ⟨-, -, e⟩
    · rw [e, Bool.eq_iff_iff, decide_eq_true_iff, right_iff h hi rfl, hk, ht]
      simp only [and_true]
      exact eq_comm
    · exact absurd hv e
  · rcases vf_is (l := C) (key := key) (t := ⟨t.Root, t.L, i⟩) with ⟨-, e, q⟩ | ⟨e, -⟩
    · rw [e, Bool.eq_iff_iff, decide_eq_true_iff, right_iff h hi rfl, hk, ht]
      constructor
      · rintro ⟨-, k⟩
        injection k with k1 k2
        exact ⟨(oct_inj br bt k1).symm, (txts_inj wc wt h1 (tokOk_cavs (t := ⟨t.Root, t.L, i⟩) q.1) k2).symm⟩
      · rintro ⟨k1, k2⟩
        rw [k1, k2]
        exact ⟨rfl, rfl⟩
    · rw [he] at e; cases e
  · rcases vf_is (l := C) (key := key) (t := ⟨root, cs, tag⟩) with ⟨-, e, q⟩ | ⟨e, -⟩
    · rw [e]
      have q0 : 0 ≤ tag := q.1.2.1
      rcases Int.lt_or_le tag C.length with hlt | hge
      · obtain ⟨m, rfl⟩ := Int.eq_ofNat_of_zero_le q0
        have hm : m < C.length := by omega
        rw [Bool.eq_iff_iff, decide_eq_true_iff, right_iff h hm rfl]
        constructor
        · rintro ⟨k1, k2⟩
          have := pth_inj h hm hi (k1.trans hk.symm) (k2.trans ht.symm)
          omega
        · intro k
          have : m = i := by omega
          subst this
          exact ⟨hk, ht⟩
      · rw [right_no hge]
        exact (decide_eq_false (by omega)).symm
    · rw [he] at e; cases e
/-- With a caveat fewer it is not right. -/
theorem fewer {C : List Trm} (h : ArOk C) {root key : Int} {cs : List Cav} {i : Nat} (hi : i < C.length) (hk : pthK C i = key) (ht : pthT C i = oct root :: txts cs) (h1 : ∀ c ∈ cs, CavOk c) (h2 : cs.length ≤ 16) (h0 : 0 < cs.length) :
    vfE C ⟨root, cs.take (cs.length - 1), i⟩ = 0 ∧ vfV C key ⟨root, cs.take (cs.length - 1), i⟩ = false ∧ pathE C i = 0 ∧ pathK C i = key ∧ (pathT C i).length = cs.length + 1 := by
  have hv : VerOk C ⟨root, cs.take (cs.length - 1), i⟩ := ⟨tokOk_mk h hi (fun c hc => h1 c (List.mem_of_mem_take hc)) (by simp; omega), h⟩
  refine ⟨if_pos hv, ?_, ?_⟩
  · rcases vf_is (l := C) (key := key) (t := ⟨root, cs.take (cs.length - 1), i⟩) with ⟨-, e, -⟩ | ⟨-, -, e⟩
    · rw [e, Bool.eq_false_iff]
      intro k
      have := ((right_iff h hi rfl).1 k).2
      rw [ht] at this
      injection this with _ k2
      have := congrArg List.length k2
      simp [txts] at this
      omega
    · exact absurd hv e
  · have hp : ArOk C ∧ (0 : Int) ≤ (i : Int) ∧ (i : Int) < C.length := ⟨h, by omega, by omega⟩
    have e : pathE C i = 0 := if_pos hp
    refine ⟨e, ?_, ?_⟩
    · unfold pathK
      rw [if_pos e, Int.toNat_natCast, hk]
    · unfold pathT
      rw [if_pos e, Int.toNat_natCast, ht]
      simp [txts]
theorem stepM_e {s : Mk} {t : List Int} (h : (stepM s t).e = 0) : s.e = 0 := by
  by_cases h0 : s.e = 0
  · exact h0
  · rw [stepM_no h0] at h
    exact h
/-- What is made of caveats that may be is bound. -/
theorem bn_of (l : List Trm) (root key : Int) (cs : List Cav) : (mkS l key (oct root) (txts cs)).e = 0 → (∀ c ∈ cs, CavOk c) → cs.length ≤ 16 → (bnS l root key cs).e = 0 := by
  refine snoc_ind (p := fun cs => (mkS l key (oct root) (txts cs)).e = 0 → (∀ c ∈ cs, CavOk c) → cs.length ≤ 16 → (bnS l root key cs).e = 0) cs (fun h _ _ => h) fun cs c ih h hc hn => ?_
  have ht : txts (cs ++ [c]) = txts cs ++ [putC c] := by simp [txts]
  rw [ht, mkS_snoc] at h
  have h0 := stepM_e h
  simp only [List.length_append, List.length_singleton] at hn
  have hb := ih h0 (fun d hd => hc d (by simp [hd])) (by omega)
  obtain ⟨o, i, hi, e1, e2, a, p1, p2, n, k1, k2⟩ := bn_made hb
  obtain ⟨i1, i2, i3, -, -⟩ := bn_is l root key cs hb
  rw [bnS_snoc]
  unfold stepB
  rw [if_pos hb]
  show bdE _ _ c = 0
  have hm : stepM (mkS l key (oct root) (txts cs)) (putC c) = ⟨nextL (mkS l key (oct root) (txts cs)).l (mkS l key (oct root) (txts cs)).i (putC c), nextI (mkS l key (oct root) (txts cs)).l (mkS l key (oct root) (txts cs)).i (putC c), nextE (mkS l key (oct root) (txts cs)).l (mkS l key (oct root) (txts cs)).i (putC c)⟩ := if_pos h0
  rw [hm] at h
  unfold bdE
  have hok : BindOk (bnS l root key cs).l (bnS l root key cs).t c := ⟨hc c (by simp), by rw [e2]; exact tokOk_mk a hi k1 k2, by rw [e1]; exact a⟩
  rw [if_pos hok]
  have hne : ¬ (bnS l root key cs).t.L.length = 16 := by rw [e2]; show ¬ cs.length = 16; omega
  rw [if_neg hne, i2, i3]
  exact h
/-- What was bound is bound again to the same, in an arena that holds it. -/
theorem bn_again {C : List Trm} (h : ArOk C) {root key : Int} {cs : List Cav} {i : Nat} (hi : i < C.length) (hk : pthK C i = key) (ht : pthT C i = oct root :: txts cs) (h1 : ∀ c ∈ cs, CavOk c) (h2 : cs.length ≤ 16) : bnS C root key cs = ⟨C, ⟨root, cs, i⟩, 0⟩ := by
  have hm := mk_same h hi hk ht
  have he := bn_of C root key cs (by rw [hm]) h1 h2
  obtain ⟨-, i2, i3, -⟩ := bn_is C root key cs he
  rw [hm] at i2 i3
  simp only at i2 i3
  rcases hB : bnS C root key cs with ⟨a, b, c⟩
  rw [hB] at he i2 i3
  simp only at he i2 i3
  rw [he, i2, i3]
theorem root_ok {l : List Trm} (h : ArOk l) (hl : l.length < 1048576) {k : Int} {t : List Int} (ht : t.length ≤ 4096) : withE l (rootT k t) = 0 := by
  rcases with_cases (l := l) (rootT k t) with ⟨e, _⟩ | ⟨e, _⟩ | ⟨_, _, _, _, _, _, e, _⟩ | ⟨_, _, _, _, e, _⟩ | ⟨_, e, _⟩
  · exact e
  · exact e
  · omega
  · exact absurd (show t.length ≤ 4096 from ht) (by have : 4096 < t.length := e; omega)
  · exact absurd ⟨h, by show (-1 : Int) < l.length; omega, by show (-1 : Int) ≤ -1; omega⟩ e
theorem next_ok {l : List Trm} (h : ArOk l) (hl : l.length < 1048576) {u : Int} (h0 : 0 ≤ u) (hu : u < l.length) {t : List Int} (ht : t.length ≤ 4096) : nextE l u t = 0 := by
  unfold nextE
  rw [if_neg (by omega)]
  rcases with_cases (l := l) (nextT u t) with ⟨e, _⟩ | ⟨e, _⟩ | ⟨_, _, _, _, _, _, e, _⟩ | ⟨_, _, _, _, e, _⟩ | ⟨_, e, _⟩
  · exact e
  · exact e
  · omega
  · exact absurd (show t.length ≤ 4096 from ht) (by have : 4096 < t.length := e; omega)
  · exact absurd ⟨h, hu, by show -1 ≤ u; omega⟩ e
/-- In an arena with room all is made. -/
theorem mk_ok {l : List Trm} (h : ArOk l) (key root : Int) (cs : List Cav) (hr : l.length + cs.length < 1048576) : (mkS l key (oct root) (txts cs)).e = 0 := by
  refine snoc_ind (p := fun cs => l.length + cs.length < 1048576 → (mkS l key (oct root) (txts cs)).e = 0) cs (fun hr => root_ok h (by simpa using hr) (by have := oct_len_le root; omega)) (fun cs c ih hr => ?_) hr
  have ht : txts (cs ++ [c]) = txts cs ++ [putC c] := by simp [txts]
  simp only [List.length_append, List.length_singleton] at hr
  have h0 := ih (by omega)
  rw [ht, mkS_snoc]
  obtain ⟨o, i, hi, e1, e2, a, p1, p2, n⟩ := mk_good l key (oct root) (txts cs) h0
  unfold stepM
  rw [if_pos h0]
  show nextE _ _ _ = 0
  rw [e1, e2]
  simp [txts] at n
  rw [List.length_append] at hi
  exact next_ok a (by rw [List.length_append]; omega) (by omega) (by rw [List.length_append]; omega) (putC_le c)
/-- Two caveats in the other order. -/
theorem order {l : List Trm} {root key : Int} {c d : Cav} (hc : CavWf c) (hd : CavWf d) (hl : l.length ≤ 80) (h : (bnS l root key [c, d]).e = 0) :
    ∃ (i j : Nat) (Y : List Trm), (bnS l root key [c, d]).t = ⟨root, [c, d], i⟩ ∧ bnS (bnS l root key [c, d]).l root key [d, c] = ⟨Y, ⟨root, [d, c], j⟩, 0⟩ ∧ bnS Y root key [c, d] = ⟨Y, ⟨root, [c, d], i⟩, 0⟩ ∧ (i = j ↔ c = d) ∧ i < 1048576 ∧ j < 1048576 := by
  obtain ⟨o, i, hi, e1, e2, a, p1, p2, n, k1, k2⟩ := bn_made h
  have hk' : ∀ x ∈ [d, c], CavOk x := fun x hx => k1 x (by simp at hx ⊢; exact hx.symm)
  simp at n
  have h2 : (bnS (l ++ o) root key [d, c]).e = 0 := bn_of _ _ _ _ (mk_ok a key root [d, c] (by rw [List.length_append]; simp; omega)) hk' (by simp)
  obtain ⟨o2, j, hj, f1, f2, b, q1, q2, n2, -, -⟩ := bn_made h2
  obtain ⟨r1, r2⟩ := pth_append a o2 hi
  have hi' : i < (l ++ o ++ o2).length := by rw [List.length_append]; omega
  refine ⟨i, j, l ++ o ++ o2, e2, ?_, bn_again b hi' (r1.trans p1) (r2.trans p2) k1 k2, ?_, by have := b.1; omega, by have := b.1; omega⟩
  · rw [e1]
    rcases hB : bnS (l ++ o) root key [d, c] with ⟨x, y, z⟩
    rw [hB] at h2 f1 f2
    simp only at h2 f1 f2
    rw [h2, f1, f2]
  · constructor
    · rintro rfl
      rw [r2, p2] at q2
      injection q2 with _ q3
      simp only [txts, List.map_cons, List.map_nil, List.cons.injEq, and_true] at q3
      exact putC_inj hc hd (k1 c (by simp)) (k1 d (by simp)) q3.1
    · rintro rfl
      exact pth_inj b hi' hj (by rw [r1, p1, q1]) (by rw [r2, p2, q2])
/-- The chapter's example. -/
theorem eg7 : ∃ (i : Nat) (L : List Trm), mtE [] 5 9 = 0 ∧ mtL [] 5 9 = L ∧ mtT [] 5 9 = ⟨5, [], i⟩ ∧ i ≤ 1048576 ∧ vfE L ⟨5, [], i⟩ = 0 ∧ vfV L 9 ⟨5, [], i⟩ = true ∧ vfV L 8 ⟨5, [], i⟩ = false := by
  have hn : ArOk [] := ⟨by simp, fun i hi => by simp at hi⟩
  have h : (bnS [] 5 9 []).e = 0 := bn_of [] 5 9 [] (mk_ok hn 9 5 [] (by simp)) (by simp) (by simp)
  obtain ⟨o, i, hi, e1, e2, a, p1, p2, n, k1, k2⟩ := bn_made h
  obtain ⟨s1, s2, -, -⟩ := seen a hi p1 p2 k1 k2
  exact ⟨i, [] ++ o, h, e1, e2, by have := a.1; omega, s1, (s2 9).trans (by simp), (s2 8).trans (by simp)⟩
/-- What 'bound' answers is a token's root, and tag. -/
theorem bn_wf {l : List Trm} {root key : Int} {cs : List Cav} (h : (bnS l root key cs).e = 0) : (bnS l root key cs).t.Root = root ∧ 0 ≤ (bnS l root key cs).t.Tag ∧ (bnS l root key cs).t.Tag < 1048576 := by
  obtain ⟨o, i, hi, e1, e2, a, -⟩ := bn_made h
  have := a.1
  rw [e2]
  exact ⟨rfl, by show (0 : Int) ≤ (i : Int); omega, by show (i : Int) < 1048576; omega⟩
theorem bnS_take {l : List Trm} {root key : Int} {cs : List Cav} {j : Nat} (hj : j < cs.length) : bnS l root key (cs.take (j + 1)) = stepB (bnS l root key (cs.take j)) cs[j] := by
  rw [List.take_succ_eq_append_getElem hj, bnS_snoc]
end Go.Proofs.Ytgiapfenalhleaa
