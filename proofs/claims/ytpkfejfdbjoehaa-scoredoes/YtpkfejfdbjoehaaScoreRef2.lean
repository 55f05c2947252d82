/-
  The contracts of the document's Order and First of layer 11.
-/
import Derived.Test.YtpkfejfdbjoehaaScoreRef1
import Derived.Test.YtpkfejfdbjoehaaScoreOrderWalk
import Derived.Test.YtpkfejfdbjoehaaPackLR
import Derived.Test.YtpkfejfdbjoehaaOwnPut
namespace Go.Proofs.Ytpkfejfdbjoehaa
open Go.RowKit Go.WalkArith

theorem OwnL.toOwn {w : World} {base : Nat} {lo : Option Nat} {e : TypeId} {k : IntKind} {v : Value} {xs : List Int} (h : OwnL (Lay.int k) w base lo e v xs) : Own w base e k v xs := by
  obtain ⟨cs, h1, h2⟩ := h
  obtain ⟨rfl, h3⟩ := repRow_ints.1 h2
  exact ⟨h1, h3⟩
theorem Try.infoF64 : (Try.prog.info? 25).map (fun i => (i.zero, i.size, i.bytes)) = some (some (.float .f64 0), Lay.float.size, 8) := by kernel_rfl
theorem Try.elemU64 : Try.prog.elem 34 = 24 := by kernel_rfl
theorem Try.elemF64 : Try.prog.elem 63 = 25 := by kernel_rfl
noncomputable def accO (l : List Chn) (w : List Wgt) (n : Int) (j : Nat) : List Itk := ordI (l.take j) w n
theorem acc_step {l : List Chn} {w : List Wgt} {n : Int} {j : Nat} (hj : j < l.length) : accO l w n (j + 1) = if elig n l[j] = true then insI (l[j].Id, keyC w (floatOfInt .f64 n) l[j]) (accO l w n j) else accO l w n j := by
  unfold accO ordI itemsI
  rw [List.take_succ_eq_append_getElem hj, List.filter_append, List.map_append]
  by_cases h : elig n l[j] = true
  · rw [if_pos h]
    have : [l[j]].filter (elig n) = [l[j]] := by simp [h]
    rw [this]
    exact sort_step _ _
  · rw [if_neg h]
    have : [l[j]].filter (elig n) = [] := by simp [h]
    rw [this]
    simp
theorem acc_less {l : List Chn} (hu : LUp l) {w : List Wgt} {n : Int} {j : Nat} (hj : j < l.length) : ∀ y ∈ accO l w n j, y.1 < l[j].Id := fun y hy => by
  obtain ⟨c, h1, -, h3⟩ := ord_mem.1 hy
  obtain ⟨i, hi, rfl⟩ := List.getElem_of_mem h1
  rw [List.length_take] at hi
  rw [h3, List.getElem_take]
  exact List.pairwise_iff_getElem.1 hu i j (by omega) hj (by omega)
theorem ins_place {a : List Itk} (hs : SortedI a) {x : Itk} (hx : ∀ y ∈ a, y.1 < x.1) {k : Nat} (hk : k ≤ a.length) (h1 : ∀ i (hi : i < a.length), k ≤ i → ltK a[i].2 x.2 = true) (h2 : ∀ i (hi : i < a.length), i + 1 = k → ltK a[i].2 x.2 = false) : insI x a = a.take k ++ [x] ++ a.drop k := by
  conv => lhs; rw [← List.take_append_drop k a]
  refine ins_at (fun y hy => ?_) fun y hy => ?_
  · obtain ⟨i, hi, rfl⟩ := List.getElem_of_mem hy
    rw [List.length_take] at hi
    rw [List.getElem_take]
    have hl : i < a.length := by omega
    have hne : ltK a[i].2 x.2 = false := by
      rcases Nat.lt_or_ge (i + 1) k with q | q
      · have e1 := h2 (k - 1) (by omega) (by omega)
        have e2 := List.pairwise_iff_getElem.1 hs i (k - 1) hl (by omega) (by omega)
        rcases befB_iff.1 e2 with r | ⟨r, -⟩
        · cases h : ltK a[i].2 x.2 with
          | false => rfl
          | true => rw [ltK_trans r h] at e1; cases e1
        · rw [r]; exact e1
      · exact h2 i hl (by omega)
    rw [Bool.eq_false_iff]
    intro h
    rcases befB_iff.1 h with r | ⟨-, r⟩
    · rw [hne] at r; cases r
    · have := hx a[i] (List.getElem_mem hl)
      omega
  · obtain ⟨i, hi, rfl⟩ := List.getElem_of_mem hy
    rw [List.length_drop] at hi
    rw [List.getElem_drop]
    exact befB_iff.2 (.inl (h1 (k + i) (by omega) (by omega)))
theorem flat_float (w : World) (S S' : Nat → Prop) (a : Nat) (c : List Value) (h : Lay.float.rep w S a c) : Lay.float.rep w S' a c := h
/-- Where the j-th float lies. -/
theorem float_at {w : World} {S : Nat → Prop} {A : Option Addr} {n c : Nat} {l : List Nat} (h : Sl Lay.float w S A n c l) {j : Nat} (hj : j < n) : ∃ b off, ∃ hx : j < l.length, A = some ⟨b, off, none⟩ ∧ S b ∧ w.cell? ⟨b, off + j, none⟩ = some (.float .f64 l[j]) := by
  obtain ⟨b, off, cs, hx, rfl, hb, ⟨rfl, -⟩, hc⟩ := h.at_ hj
  have := hc 0 _ rfl
  rw [show Lay.float.size = 1 from rfl, Nat.mul_one, Nat.add_zero] at this
  exact ⟨b, off, hx, rfl, hb, this⟩

set_option maxRecDepth 100000 in
set_option maxHeartbeats 8000000 in
theorem refOrder11_any (A0 : Option Addr) (n0 c0 : Nat) (l : List Chn) (A1 : Option Addr) (n1 c1 : Nat) (wl : List Wgt) (m : Int) (w : World) (r0 : Sl lay_Channel w (· < w.heap.size) A0 n0 c0 l) (r1 : Sl lay_Weight w (· < w.heap.size) A1 n1 c1 wl) :
    Calls Try.prog 14 #[.slice A0 n0 c0, .slice A1 n1 c1, .int .u64 m] w fun e w' => ∃ v, e = .returned (.tuple #[v, .int .i64 (lgE l)]) ∧ Own w' w.heap.size 24 .u64 v (ordL l wl m) ∧ Below w.heap.size w w' := by
  have HL := hid r0.len
  have hcap := r0.cap
  unfold maxLen at hcap
  have hwl := sl_chns r0
  have KA := hid (fun (W : World) (h : Below w.heap.size w W) => Sl.call r0 h)
  have KW := hid (fun (W : World) (h : Below w.heap.size w W) => Sl.call r1 h)
  have hsf : ∀ (a : Addr) (b : Nat) (m : Mode) (W : World), (store a (.float .f64 b) m).run Try.prog W = stored Try.prog W a (.float .f64 b) m := fun a b m W => run_store Try.prog W a _ m rfl
  clear r0 r1
  go_enter Try.func14, Try.ntmps14
  go_wp2_with fail
  refine (refCheck10_any A0 n0 c0 l w (KA.out _ (Below.refl _ _))).mono ?_
  rcases lg_is (l := l) with ⟨g, e⟩ | ⟨g, e⟩
  rotate_left
  · rw [e]
    have HE := hid (show ordL l wl m = [] ∧ lgE l = 1 from ⟨if_neg g, e⟩)
    clear e g
    rintro e w1 ⟨rfl, hb1⟩
    go_wp2
    go_ret2
    exact ⟨_, by first | rfl | (rw [HE.out.2]; rfl), by rw [HE.out.1]; exact Own.nil _ _ _ _, hb1⟩
  rw [e]
  have HE := hid (show ordL l wl m = (accO l wl m n0).map Prod.fst ∧ lgE l = 0 from ⟨by unfold accO; rw [List.take_of_length_le (by rw [HL.out]; exact Nat.le_refl _)]; exact if_pos g, e⟩)
  have hn : n0 ≤ 32 := by rw [← HL.out]; exact g.1
  have HG := hid g
  clear e g
  rintro e w1 ⟨rfl, hb1⟩
  go_wp2
  go_loopw [8, 9, 22] (fun u v i wr => ∃ (j : Nat) (tu tv : Value) (rs : List Nat), j ≤ n0 ∧ i = .int .i64 j ∧ u = tu ∧ v = tv ∧ OwnL (Lay.int .u64) wr w.heap.size none 24 tu ((accO l wl m j).map Prod.fst) ∧ OwnL Lay.float wr w.heap.size none 25 tv rs ∧ Hid (rs.map scK = (accO l wl m j).map Prod.snd) ∧ Below w.heap.size w wr) (fun _ _ i _ => n0 - (intOf i).toNat)
  case atStart => exact ⟨0, _, _, [], Nat.zero_le _, rfl, rfl, rfl, OwnL.nil _ _ _ _ _, OwnL.nil _ _ _ _ _, hid rfl, hb1⟩
  case round =>
  obtain ⟨j, tx, ty, rs, hj, rfl, htx, hty, hu, hv, HRS, hbel⟩ := hrel
  replace htx := htx.symm
  replace hty := hty.symm
  subst htx hty
  by_cases hlt : j < n0
  rotate_left
  · have hjn : j = n0 := by omega
    subst hjn
    have HU := hid hu.toOwn
    go_wp2
    go_ret2
    exact ⟨_, by first | rfl | (rw [HE.out.2]; rfl), by rw [HE.out.1]; exact HU.out, hbel⟩
  obtain ⟨b1, o1, A', n', c', hx1, rfl, hb1', t0, t1, t2, t3, t4, t5, t6, hw, hs⟩ := chn_at (KA.out _ hbel) hlt
  have hba := bel_alloc (Below.refl wr.heap.size wr) (Obj.cells #[.int .u64 l[j].Id, .int .u64 l[j].Local, .int .u64 l[j].Remote, .int .u64 l[j].Reserve, .int .u64 l[j].Most, .slice A' n' c', .bool l[j].Open] 28)
  have BN := BoxC.new wr l[j] A' n' c'
  have PB := hid (fun (W : World) (h : Below (wr.alloc (Obj.cells #[.int .u64 l[j].Id, .int .u64 l[j].Local, .int .u64 l[j].Remote, .int .u64 l[j].Reserve, .int .u64 l[j].Most, .slice A' n' c', .bool l[j].Open] 28)).heap.size (wr.alloc (Obj.cells #[.int .u64 l[j].Id, .int .u64 l[j].Local, .int .u64 l[j].Remote, .int .u64 l[j].Reserve, .int .u64 l[j].Most, .slice A' n' c', .bool l[j].Open] 28)) W) => chan_in hw hs (bel_call hba h))
  have KB := hid (fun (W : World) (h : Below (wr.alloc (Obj.cells #[.int .u64 l[j].Id, .int .u64 l[j].Local, .int .u64 l[j].Remote, .int .u64 l[j].Reserve, .int .u64 l[j].Most, .slice A' n' c', .bool l[j].Open] 28)).heap.size (wr.alloc (Obj.cells #[.int .u64 l[j].Id, .int .u64 l[j].Local, .int .u64 l[j].Remote, .int .u64 l[j].Reserve, .int .u64 l[j].Most, .slice A' n' c', .bool l[j].Open] 28)) W) => (BN.call h).all)
  have HRM := hid (refRoom9_any _ l[j] _ (chan_in hw hs hba))
  have ok := HG.out.2.1 l[j] (List.getElem_mem hx1)
  have HCE := hid (show chE l[j] = 0 from if_pos ok)
  rw [HCE.out] at HRM
  have HST := hid (acc_step (w := wl) (n := m) hx1)
  have HLS := hid (acc_less HG.out.2.2.1 (w := wl) (n := m) hx1)
  have HSO := hid (show SortedI (accO l wl m j) from ord_sorted (HG.out.2.2.1.sublist (List.take_sublist _ _)) wl m)
  have hal : (accO l wl m j).length ≤ 32 := by
    unfold accO
    rw [ord_len]
    have h1 := List.length_filter_le (elig m) (l.take j)
    rw [List.length_take] at h1
    omega
  have hir := (bounds_u64 hw.id)
  have VI := hw.id
  obtain ⟨rv, hrv⟩ : ∃ z, rmV l[j] = z := ⟨_, rfl⟩
  rw [hrv] at HRM
  have QRV := hid hrv
  have HU1 := hu.keep hba
  have HV1 := hv.keep hba
  have HB1 := bel_call hbel hba
  clear hrv ok hw hs hu hv hbel hba BN
  go_upto_region 8 with (fail)
  generalize wr.alloc (Obj.cells #[.int .u64 l[j].Id, .int .u64 l[j].Local, .int .u64 l[j].Remote, .int .u64 l[j].Reserve, .int .u64 l[j].Most, .slice A' n' c', .bool l[j].Open] 28) = W1 at *
  generalize wr.heap.size = gb at *
  obtain ⟨p0, p1, p2, p3, p4, p5, p6⟩ := KB.out _ (Below.refl W1.heap.size W1)
  go_wp2_with fail
  refine HRM.out.mono ?_
  rintro e w5 ⟨rfl, hb5⟩
  clear p0 p1 p2 p3 p4 p5 p6 t0 t1 t2 t3 t4 t5 t6
  obtain ⟨p0, p1, p2, p3, p4, p5, p6⟩ := KB.out _ hb5
  have HU5 := HU1.keep hb5
  have HV5 := HV1.keep hb5
  have HB5 := bel_call HB1 hb5
  clear HU1 HV1 HB1
  by_cases hop : l[j].Open = true
  rotate_left
  · have hop2 : l[j].Open = false := by simpa using hop
    have HN := hid (show accO l wl m (j + 1) = accO l wl m j from by rw [HST.out, if_neg (by rw [elig_iff]; exact fun h => hop h.1)])
    clear hop
    go_wp2
    go_roundw
    case rel => exact ⟨j + 1, _, _, rs, by omega, by go_num, rfl, rfl, by rw [HN.out]; exact HU5, HV5, by rw [HN.out]; exact HRS, HB5⟩
    case measure => simp [intOf]; omega
  by_cases hz : rv = 0
  · have e1 : (rv == 0) = true := by simpa using hz
    have HN := hid (show accO l wl m (j + 1) = accO l wl m j from by rw [HST.out, if_neg (by rw [elig_iff]; exact fun h => h.2.1 (by rw [QRV.out]; exact hz))])
    clear hz
    go_wp2
    go_roundw
    case rel => exact ⟨j + 1, _, _, rs, by omega, by go_num, rfl, rfl, by rw [HN.out]; exact HU5, HV5, by rw [HN.out]; exact HRS, HB5⟩
    case measure => simp [intOf]; omega
  have e1 : (rv == 0) = false := by simpa using hz
  by_cases hz2 : rv < m
  · have e2 : decide (rv < m) = true := by simpa using hz2
    have HN := hid (show accO l wl m (j + 1) = accO l wl m j from by rw [HST.out, if_neg (by rw [elig_iff, QRV.out]; exact fun h => by omega)])
    clear hz hz2
    go_wp2
    go_roundw
    case rel => exact ⟨j + 1, _, _, rs, by omega, by go_num, rfl, rfl, by rw [HN.out]; exact HU5, HV5, by rw [HN.out]; exact HRS, HB5⟩
    case measure => simp [intOf]; omega
  have e2 : decide (rv < m) = false := by simpa using hz2
  have HN := hid (show accO l wl m (j + 1) = insI (l[j].Id, keyC wl (floatOfInt .f64 m) l[j]) (accO l wl m j) from by rw [HST.out, if_pos (elig_iff.2 ⟨hop, by rw [QRV.out]; exact hz, by rw [QRV.out]; omega⟩)])
  clear hz hz2
  go_upto_region 10 with (fail)
  have HWG := hid (fun (W : World) (h : Below w5.heap.size w5 W) => refWeigh11_any _ _ _ wl l[j].Id W (KW.out _ (bel_call HB5 h)))
  have HON := hid (fun (W : World) (h : Below w5.heap.size w5 W) => refOne11_any _ l[j] (weighV wl l[j].Id) (floatOfInt .f64 m) W (PB.out _ (bel_call hb5 h)))
  rw [HCE.out] at HON
  have KC := hid (fun (W : World) (h : Below w5.heap.size w5 W) => KB.out _ (bel_call hb5 h))
  have HH := Below.refl w5.heap.size w5
  have HOP := hid hop
  clear p0 p1 p2 p3 p4 p5 p6 hop
  obtain ⟨p0, p1, p2, p3, p4, p5, p6⟩ := KC.out _ HH
  go_region_held3 (fun W => W.cell? ⟨gb, 0, none⟩ = some (.int .u64 l[j].Id) ∧ W.cell? ⟨gb, 1, none⟩ = some (.int .u64 l[j].Local) ∧ W.cell? ⟨gb, 2, none⟩ = some (.int .u64 l[j].Remote) ∧ W.cell? ⟨gb, 3, none⟩ = some (.int .u64 l[j].Reserve) ∧ W.cell? ⟨gb, 4, none⟩ = some (.int .u64 l[j].Most) ∧ W.cell? ⟨gb, 5, none⟩ = some (.slice A' n' c') ∧ W.cell? ⟨gb, 6, none⟩ = some (.bool l[j].Open))
    (first | exact KC.out _ HH | exact KC.out _ HH.drew | exact KC.out _ HH6 | exact KC.out _ HH7)
    (first
      | (go_at_call 21; (with_reducible refine (HWG.out _ HH.drew).mono ?_); rintro e w6 ⟨rfl, hb6⟩; have HH6 := bel_call HH.drew hb6)
      | (go_at_call 21; (with_reducible refine (HWG.out _ HH).mono ?_); rintro e w6 ⟨rfl, hb6⟩; have HH6 := bel_call HH hb6)
      | (go_at_call 12; (with_reducible refine (HON.out _ HH6).mono ?_); rintro e w7 ⟨rf, rfl, hrf, HRW, hb7⟩; have HH7 := bel_call HH6 hb7))
  clear p0 p1 p2 p3 p4 p5 p6
  have HKS := hid (show scK rf = keyC wl (floatOfInt .f64 m) l[j] from hrf.key)
  have HU7 := HU5.keep HH7
  have HV7 := HV5.keep HH7
  have HB7 := bel_call HB5 HH7
  have hbw := bel_call hb5 HH7
  clear hrf HU5 HV5 HB5 HH HH6 HH7 hb5 hb6 hb7
  have KX := hid (fun (W : World) (h : Below w7.heap.size w7 W) => (KB.out _ (bel_call hbw h)).1)
  obtain ⟨Ai, ni, ci, rfl, hsi⟩ := HU7.read
  obtain ⟨Af, nf, cf, rfl, hsf2⟩ := HV7.read
  have hni := hsi.len
  have hnf := hsf2.len
  have hci := hsi.cap
  have hcf := hsf2.cap
  unfold maxLen at hci hcf
  rw [List.length_map] at hni
  have hlr : rs.length = (accO l wl m j).length := by
    have := congrArg List.length HRS.out
    simpa using this
  have hnn : nf = ni := by omega
  subst hnn
  have hni32 : nf ≤ 32 := by omega
  have HLN := hid hni
  have HSI := hid hsi
  have HSF := hid hsf2
  clear HU7 HV7 hni hnf hlr hsi hsf2
  go_wp2
  obtain ⟨wo, hwo⟩ : ∃ z, z = wr := ⟨_, rfl⟩
  subst hwo
  go_loop [16] (fun a => ∃ k : Nat, k ≤ nf ∧ a = .int .i64 k ∧ Hid (∀ i (hi : i < (accO l wl m j).length), k ≤ i → ltK (accO l wl m j)[i].2 (scK rf) = true)) (fun a => (intOf a).toNat)
  case atStart => exact ⟨nf, Nat.le_refl _, rfl, hid fun i hi h => by rw [HLN.out] at hi; omega⟩
  case round =>
  obtain ⟨k, hk, rfl, HWO⟩ := hrel
  have hlen1 : ((((accO l wl m j).map Prod.fst).take k).length + 1) * 8 ≤ 140737488355328 := by rw [List.length_take]; omega
  have hlen2 : (((accO l wl m j).map Prod.fst).take k).length + 1 ≤ maxLen := by rw [List.length_take]; unfold maxLen; omega
  have hlen3 : ((rs.take k).length + 1) * 8 ≤ 140737488355328 := by rw [List.length_take]; omega
  have hlen4 : (rs.take k).length + 1 ≤ maxLen := by rw [List.length_take]; unfold maxLen; omega
  have su1 := run_uptoL (P := Try.prog) 34 24 .i64 Try.underlying34 Try.elemU64 Try.infoU64 Ai nf ci k (by omega)
  have su2 := run_fromL (P := Try.prog) 34 24 .i64 Try.underlying34 Try.elemU64 Try.infoU64 Ai nf ci k (by omega)
  have su3 := run_uptoL (P := Try.prog) 63 25 .i64 Try.underlying63 Try.elemF64 Try.infoF64 Af nf cf k (by omega)
  have su4 := run_fromL (P := Try.prog) 63 25 .i64 Try.underlying63 Try.elemF64 Try.infoF64 Af nf cf k (by omega)
  have HIU := hid (HSI.out.upto (i := k) (by omega))
  have HID := hid (HSI.out.cut (i := k) (by omega))
  by_cases hk0 : k = 0
  · have z3 : decide ((0 : Int) < (k : Int)) = false := by simp; omega
    have z3' : decide (0 < k) = false := by simp; omega
    have HPL := hid (fun i (hi : i < (accO l wl m j).length) (h : i + 1 = k) => (show ltK (accO l wl m j)[i].2 (scK rf) = false from by omega))
    clear hk0
    have HINS := hid (ins_place HSO.out (x := (l[j].Id, keyC wl (floatOfInt .f64 m) l[j])) HLS.out (k := k) (by rw [HLN.out]; exact hk) (by rw [← HKS.out]; exact HWO.out) (by rw [← HKS.out]; exact HPL.out))
    have y0 := KX.out _ (Below.refl w7.heap.size w7)
    go_upto_region 14 with (fail)
    go_region_held3 (fun W => W.cell? ⟨gb, 0, none⟩ = some (.int .u64 l[j].Id)) (first | exact KX.out _ (Below.refl _ _) | exact KX.out _ (Below.refl _ _).drew | exact KX.out _ (bel_alloc (Below.refl w7.heap.size w7).drew _) | exact KX.out _ hba7 | exact KX.out _ (bel_alloc hba7 _) | exact KX.out _ hba8 | exact KX.out _ hba9 | exact KX.out _ (bel_alloc (Below.refl w7.heap.size w7) _))
      (first
        | (refine step_catL (by rfl) (.const (.slice none 0 0)) (.tmp 71) 34 (by rfl) w7.heap.size none 24 _ 8 Try.underlying34 Try.infoU64 rfl (by decide) (.slice none 0 0) [] (((accO l wl m j).map Prod.fst).take k) (· < w7.heap.size) Ai k ci (by rfl) (by rfl) (OwnL.nil _ _ _ _ _) (HIU.out.drewN 1) (fun b hb => ⟨trivial, hb, by simp [Value.ownBlock]⟩) (Nat.le_refl _) (by simp; omega) (by simp; unfold maxLen; omega) ?_; intro va7 wa7 hoa7 hx7; rw [List.nil_append] at hoa7; have hba7 : Below w7.heap.size w7 wa7 := (Below.refl w7.heap.size w7).drew.trans hx7.of_nil)
        | (refine step_pushL (w := wa7) (by rfl) (.tmp 72) (.tmp 75) 34 (by rfl) w7.heap.size none 24 _ 8 Try.underlying34 Try.infoU64 rfl (by decide) va7 (((accO l wl m j).map Prod.fst).take k) l[j].Id #[.int .u64 l[j].Id] (fun _ => False) wa7.heap.size (by rfl) (by rfl) (bel_alloc (Below.refl _ _) _) (heap_alloc_new _ _) hoa7 ⟨rfl, VI⟩ (fun b hb => hb.elim) hba7.size hlen1 hlen2 ?_; intro va8 wa8 hoa8 hx8; have hba8 : Below w7.heap.size w7 wa8 := (hba7.alloc hba7.size _).trans ((hoa7.keep (bel_alloc (Below.refl _ _) _)).below hx8 (Nat.le_trans hba7.size (by simp))))
        | (refine step_catL (w := (w7.drewN 1).alloc (.cells #[.int .u64 l[j].Id] 24)) (by rfl) (.const (.slice none 0 0)) (.tmp 71) 34 (by rfl) (w7.heap.size + 1) none 24 _ 8 Try.underlying34 Try.infoU64 rfl (by decide) (.slice none 0 0) [] (((accO l wl m j).map Prod.fst).take k) (· < w7.heap.size) Ai k ci (by rfl) (by rfl) (OwnL.nil _ _ _ _ _) ((HIU.out.drewN 1).keep fun p hp => (bel_alloc (Below.refl w7.heap.size (w7.drewN 1)) _).cell hp) (fun b hb => ⟨trivial, by show b < ((w7.drewN 1).alloc _).heap.size; simp; omega, by simp [Value.ownBlock]⟩) (by simp) (by simp; omega) (by simp; unfold maxLen; omega) ?_; intro va7 wa7 hoa7 hx7; rw [List.nil_append] at hoa7; have hbx : Below (w7.heap.size + 1) ((w7.drewN 1).alloc (.cells #[.int .u64 l[j].Id] 24)) wa7 := hx7.of_nilB (by simp); have hba7 : Below w7.heap.size w7 wa7 := ((bel_drewN (Below.refl w7.heap.size w7) 1).alloc (Nat.le_refl _) _).trans (hbx.mono (by omega)); have hg7 := (hbx.block w7.heap.size (by omega)).trans (heap_alloc_new (w7.drewN 1) (.cells #[.int .u64 l[j].Id] 24)))
        | (refine step_pushW (w := wa7) (by rfl) (.tmp 72) (.tmp 75) 34 (by rfl) (w7.heap.size + 1) none 24 _ 8 Try.underlying34 Try.infoU64 rfl (by decide) va7 (((accO l wl m j).map Prod.fst).take k) l[j].Id #[.int .u64 l[j].Id] (fun _ => False) w7.heap.size (by rfl) (by rfl) hg7 hoa7 ⟨rfl, VI⟩ (fun b hb => hb.elim) (lt_of_block hg7) hlen1 hlen2 ?_; intro va8 wa8 hoa8' hx8; have hoa8 := hoa8'.low (Nat.le_succ w7.heap.size); have hba8 : Below w7.heap.size w7 wa8 := hba7.trans ((hoa7.below hx8 (lt_of_block hg7)).mono (by omega)))
        | (refine step_catL (w := wa8) (by rfl) (.tmp 76) (.tmp 79) 34 (by rfl) w7.heap.size none 24 _ 8 Try.underlying34 Try.infoU64 rfl (by decide) va8 (((accO l wl m j).map Prod.fst).take k ++ [l[j].Id]) (((accO l wl m j).map Prod.fst).drop k) (· < w7.heap.size) (cutS (Lay.int .u64).size Ai ci k) (nf - k) (ci - k) (by rfl) (by rfl) hoa8 (HID.out.keep fun p hp => hba8.cell hp) (fun b hb => ⟨trivial, Nat.lt_of_lt_of_le hb hba8.size, fun he => by have := hoa8.ge he.symm; omega⟩) hba8.size (by rw [List.length_append, List.length_take]; simp; omega) (by rw [List.length_append, List.length_take]; unfold maxLen; simp; omega) ?_; intro va9 wa9 hoa9 hx9; have hba9 : Below w7.heap.size w7 wa9 := hba8.trans (hoa8.below hx9 hba8.size)))
    all_goals
      have HUN := hid (hoa9.low HB7.size)
      have HSF9 := hid ((Sl.call HSF.out hba9))
      have HBZ := hid (bel_call HB7 hba9)
      clear y0
      go_upto_region 15 with (fail)
      clear hoa7 hoa8 hoa9 hba7 hba8
      obtain ⟨wz, hwz⟩ : ∃ z, z = wa9 := ⟨_, rfl⟩
      subst hwz
      have HFU := hid (HSF9.out.upto (i := k) (by omega))
      have HFD := hid (HSF9.out.cut (i := k) (by omega))
      go_region_held3 (fun _ => True) (first | trivial)
        (first
          | (refine step_catL (by rfl) (.const (.slice none 0 0)) (.tmp 83) 63 (by rfl) wz.heap.size none 25 _ 8 Try.underlying63 Try.infoF64 rfl (by decide) (.slice none 0 0) [] (rs.take k) (· < wz.heap.size) Af k cf (by rfl) (by rfl) (OwnL.nil _ _ _ _ _) (HFU.out.drewN 1) (fun b hb => ⟨trivial, hb, by simp [Value.ownBlock]⟩) (Nat.le_refl _) (by simp; omega) (by simp; unfold maxLen; omega) ?_; intro vb7 wb7 hob7 hx7; rw [List.nil_append] at hob7; have hbb7 : Below wz.heap.size wz wb7 := (Below.refl wz.heap.size wz).drew.trans hx7.of_nil)
          | (refine step_pushL (w := wb7) (by rfl) (.tmp 84) (.tmp 86) 63 (by rfl) wz.heap.size none 25 _ 8 Try.underlying63 Try.infoF64 rfl (by decide) vb7 (rs.take k) rf #[.float .f64 rf] (fun _ => False) wb7.heap.size (by rfl) (by rfl) (bel_alloc (Below.refl _ _) _) (heap_alloc_new _ _) hob7 ⟨rfl, HRW⟩ (fun b hb => hb.elim) hbb7.size hlen3 hlen4 ?_; intro vb8 wb8 hob8 hx8; have hbb8 : Below wz.heap.size wz wb8 := (hbb7.alloc hbb7.size _).trans ((hob7.keep (bel_alloc (Below.refl _ _) _)).below hx8 (Nat.le_trans hbb7.size (by simp))))
          | (refine step_catL (w := (wz.drewN 1).alloc (.cells #[.float .f64 rf] 25)) (by rfl) (.const (.slice none 0 0)) (.tmp 83) 63 (by rfl) (wz.heap.size + 1) none 25 _ 8 Try.underlying63 Try.infoF64 rfl (by decide) (.slice none 0 0) [] (rs.take k) (· < wz.heap.size) Af k cf (by rfl) (by rfl) (OwnL.nil _ _ _ _ _) ((HFU.out.drewN 1).keep fun p hp => (bel_alloc (Below.refl wz.heap.size (wz.drewN 1)) _).cell hp) (fun b hb => ⟨trivial, by show b < ((wz.drewN 1).alloc _).heap.size; simp; omega, by simp [Value.ownBlock]⟩) (by simp) (by simp; omega) (by simp; unfold maxLen; omega) ?_; intro vb7 wb7 hob7 hx7; rw [List.nil_append] at hob7; have hbx : Below (wz.heap.size + 1) ((wz.drewN 1).alloc (.cells #[.float .f64 rf] 25)) wb7 := hx7.of_nilB (by simp); have hbb7 : Below wz.heap.size wz wb7 := ((bel_drewN (Below.refl wz.heap.size wz) 1).alloc (Nat.le_refl _) _).trans (hbx.mono (by omega)); have hg7 := (hbx.block wz.heap.size (by omega)).trans (heap_alloc_new (wz.drewN 1) (.cells #[.float .f64 rf] 25)))
          | (refine step_pushW (w := wb7) (by rfl) (.tmp 84) (.tmp 86) 63 (by rfl) (wz.heap.size + 1) none 25 _ 8 Try.underlying63 Try.infoF64 rfl (by decide) vb7 (rs.take k) rf #[.float .f64 rf] (fun _ => False) wz.heap.size (by rfl) (by rfl) hg7 hob7 ⟨rfl, HRW⟩ (fun b hb => hb.elim) (lt_of_block hg7) hlen3 hlen4 ?_; intro vb8 wb8 hob8' hx8; have hob8 := hob8'.low (Nat.le_succ wz.heap.size); have hbb8 : Below wz.heap.size wz wb8 := hbb7.trans ((hob7.below hx8 (lt_of_block hg7)).mono (by omega)))
          | (refine step_catL (w := wb8) (by rfl) (.tmp 87) (.tmp 90) 63 (by rfl) wz.heap.size none 25 _ 8 Try.underlying63 Try.infoF64 rfl (by decide) vb8 (rs.take k ++ [rf]) (rs.drop k) (· < wz.heap.size) (cutS Lay.float.size Af cf k) (nf - k) (cf - k) (by rfl) (by rfl) hob8 (HFD.out.keep fun p hp => hbb8.cell hp) (fun b hb => ⟨trivial, Nat.lt_of_lt_of_le hb hbb8.size, fun he => by have := hob8.ge he.symm; omega⟩) hbb8.size (by rw [List.length_append, List.length_take]; simp; omega) (by rw [List.length_append, List.length_take]; unfold maxLen; simp; omega) ?_; intro vb9 wb9 hob9 hx9; have hbb9 : Below wz.heap.size wz wb9 := hbb8.trans (hob8.below hx9 hbb8.size)))
      all_goals
        have HVN := hid (hob9.low HBZ.out.size)
        have HUN2 := hid (HUN.out.keep hbb9)
        have HBE := hid (bel_call HBZ.out hbb9)
        have HR2 := hid (show (rs.take k ++ [rf] ++ rs.drop k).map scK = (accO l wl m (j + 1)).map Prod.snd from by
          rw [HN.out, HINS.out]
          simp only [List.map_append, List.map_cons, List.map_nil, List.map_take, List.map_drop, HRS.out, HKS.out])
        have HU2 := hid (show (accO l wl m (j + 1)).map Prod.fst = ((accO l wl m j).map Prod.fst).take k ++ [l[j].Id] ++ ((accO l wl m j).map Prod.fst).drop k from by
          rw [HN.out, HINS.out]
          simp only [List.map_append, List.map_cons, List.map_nil, List.map_take, List.map_drop])
        go_wp2
        go_roundw
        case rel => exact ⟨j + 1, _, _, _, by omega, by go_num, rfl, rfl, by rw [HU2.out]; exact HUN2.out, HVN.out, HR2, HBE.out⟩
        case measure => simp [intOf]; omega
  · obtain ⟨k', hk'⟩ : ∃ k' : Nat, k' + 1 = k := ⟨k - 1, by omega⟩
    have z3 : decide ((0 : Int) < (k : Int)) = true := by simp; omega
    have z3' : decide (0 < k) = true := by simp; omega
    have hkn : (k : Int) - 1 = (k' : Int) := by omega
    have hwk : IntKind.i64.wrap (k' : Int) = (k' : Int) := IntWalk.i64_in _ (by omega)
    have ik : (0 : Int) ≤ (k' : Int) ∧ (k' : Int) < (nf : Int) := by omega
    have ik2 : k' < nf := by omega
    obtain ⟨bf, of, hxf, rfl, hbf, qf⟩ := float_at HSF.out ik2
    have hkl : k' < (accO l wl m j).length := by rw [HLN.out]; exact ik2
    have hkey : scK rs[k'] = (accO l wl m j)[k'].2 := by
      have e1 : (rs.map scK)[k']'(by rw [List.length_map]; exact hxf) = ((accO l wl m j).map Prod.snd)[k']'(by rw [List.length_map]; exact hkl) := by simp only [HRS.out]
      simpa using e1
    have HLE := hid (fun (W : World) => refLess11_any rs[k'] rf W)
    rw [hkey] at HLE
    cases hlk : ltK (accO l wl m j)[k'].2 (scK rf) with
    | true =>
      rw [hlk] at HLE
      have HW2 := hid (show ∀ i (hi : i < (accO l wl m j).length), k' ≤ i → ltK (accO l wl m j)[i].2 (scK rf) = true from fun i hi h => by
        rcases Nat.lt_or_ge k' i with q | q
        · exact HWO.out i hi (by omega)
        · have : i = k' := by omega
          subst this; exact hlk)
      clear hlk hkey hk0
      go_wp2_with fail
      with_reducible refine (HLE.out _).mono ?_
      rintro e w9 ⟨rfl, rfl⟩
      go_wp2
      go_round
      case rel => exact ⟨k', by omega, rfl, HW2⟩
      case measure => simp [intOf]; omega
    | false =>
      rw [hlk] at HLE
      have HPL := hid (fun i (hi : i < (accO l wl m j).length) (h : i + 1 = k) => (show ltK (accO l wl m j)[i].2 (scK rf) = false from by
        have : i = k' := by omega
        subst this; exact hlk))
      clear hlk hkey hk0
      go_wp2_with fail
      with_reducible refine (HLE.out _).mono ?_
      rintro e w9 ⟨rfl, rfl⟩
      have HINS := hid (ins_place HSO.out (x := (l[j].Id, keyC wl (floatOfInt .f64 m) l[j])) HLS.out (k := k) (by rw [HLN.out]; exact hk) (by rw [← HKS.out]; exact HWO.out) (by rw [← HKS.out]; exact HPL.out))
      have y0 := KX.out _ (Below.refl w7.heap.size w7)
      go_upto_region 14 with (fail)
      go_region_held3 (fun W => W.cell? ⟨gb, 0, none⟩ = some (.int .u64 l[j].Id)) (first | exact KX.out _ (Below.refl _ _) | exact KX.out _ (Below.refl _ _).drew | exact KX.out _ (bel_alloc (Below.refl w7.heap.size w7).drew _) | exact KX.out _ hba7 | exact KX.out _ (bel_alloc hba7 _) | exact KX.out _ hba8 | exact KX.out _ hba9 | exact KX.out _ (bel_alloc (Below.refl w7.heap.size w7) _))
        (first
          | (refine step_catL (by rfl) (.const (.slice none 0 0)) (.tmp 71) 34 (by rfl) w7.heap.size none 24 _ 8 Try.underlying34 Try.infoU64 rfl (by decide) (.slice none 0 0) [] (((accO l wl m j).map Prod.fst).take k) (· < w7.heap.size) Ai k ci (by rfl) (by rfl) (OwnL.nil _ _ _ _ _) (HIU.out.drewN 1) (fun b hb => ⟨trivial, hb, by simp [Value.ownBlock]⟩) (Nat.le_refl _) (by simp; omega) (by simp; unfold maxLen; omega) ?_; intro va7 wa7 hoa7 hx7; rw [List.nil_append] at hoa7; have hba7 : Below w7.heap.size w7 wa7 := (Below.refl w7.heap.size w7).drew.trans hx7.of_nil)
          | (refine step_pushL (w := wa7) (by rfl) (.tmp 72) (.tmp 75) 34 (by rfl) w7.heap.size none 24 _ 8 Try.underlying34 Try.infoU64 rfl (by decide) va7 (((accO l wl m j).map Prod.fst).take k) l[j].Id #[.int .u64 l[j].Id] (fun _ => False) wa7.heap.size (by rfl) (by rfl) (bel_alloc (Below.refl _ _) _) (heap_alloc_new _ _) hoa7 ⟨rfl, VI⟩ (fun b hb => hb.elim) hba7.size hlen1 hlen2 ?_; intro va8 wa8 hoa8 hx8; have hba8 : Below w7.heap.size w7 wa8 := (hba7.alloc hba7.size _).trans ((hoa7.keep (bel_alloc (Below.refl _ _) _)).below hx8 (Nat.le_trans hba7.size (by simp))))
          | (refine step_catL (w := (w7.drewN 1).alloc (.cells #[.int .u64 l[j].Id] 24)) (by rfl) (.const (.slice none 0 0)) (.tmp 71) 34 (by rfl) (w7.heap.size + 1) none 24 _ 8 Try.underlying34 Try.infoU64 rfl (by decide) (.slice none 0 0) [] (((accO l wl m j).map Prod.fst).take k) (· < w7.heap.size) Ai k ci (by rfl) (by rfl) (OwnL.nil _ _ _ _ _) ((HIU.out.drewN 1).keep fun p hp => (bel_alloc (Below.refl w7.heap.size (w7.drewN 1)) _).cell hp) (fun b hb => ⟨trivial, by show b < ((w7.drewN 1).alloc _).heap.size; simp; omega, by simp [Value.ownBlock]⟩) (by simp) (by simp; omega) (by simp; unfold maxLen; omega) ?_; intro va7 wa7 hoa7 hx7; rw [List.nil_append] at hoa7; have hbx : Below (w7.heap.size + 1) ((w7.drewN 1).alloc (.cells #[.int .u64 l[j].Id] 24)) wa7 := hx7.of_nilB (by simp); have hba7 : Below w7.heap.size w7 wa7 := ((bel_drewN (Below.refl w7.heap.size w7) 1).alloc (Nat.le_refl _) _).trans (hbx.mono (by omega)); have hg7 := (hbx.block w7.heap.size (by omega)).trans (heap_alloc_new (w7.drewN 1) (.cells #[.int .u64 l[j].Id] 24)))
          | (refine step_pushW (w := wa7) (by rfl) (.tmp 72) (.tmp 75) 34 (by rfl) (w7.heap.size + 1) none 24 _ 8 Try.underlying34 Try.infoU64 rfl (by decide) va7 (((accO l wl m j).map Prod.fst).take k) l[j].Id #[.int .u64 l[j].Id] (fun _ => False) w7.heap.size (by rfl) (by rfl) hg7 hoa7 ⟨rfl, VI⟩ (fun b hb => hb.elim) (lt_of_block hg7) hlen1 hlen2 ?_; intro va8 wa8 hoa8' hx8; have hoa8 := hoa8'.low (Nat.le_succ w7.heap.size); have hba8 : Below w7.heap.size w7 wa8 := hba7.trans ((hoa7.below hx8 (lt_of_block hg7)).mono (by omega)))
          | (refine step_catL (w := wa8) (by rfl) (.tmp 76) (.tmp 79) 34 (by rfl) w7.heap.size none 24 _ 8 Try.underlying34 Try.infoU64 rfl (by decide) va8 (((accO l wl m j).map Prod.fst).take k ++ [l[j].Id]) (((accO l wl m j).map Prod.fst).drop k) (· < w7.heap.size) (cutS (Lay.int .u64).size Ai ci k) (nf - k) (ci - k) (by rfl) (by rfl) hoa8 (HID.out.keep fun p hp => hba8.cell hp) (fun b hb => ⟨trivial, Nat.lt_of_lt_of_le hb hba8.size, fun he => by have := hoa8.ge he.symm; omega⟩) hba8.size (by rw [List.length_append, List.length_take]; simp; omega) (by rw [List.length_append, List.length_take]; unfold maxLen; simp; omega) ?_; intro va9 wa9 hoa9 hx9; have hba9 : Below w7.heap.size w7 wa9 := hba8.trans (hoa8.below hx9 hba8.size)))
      all_goals
        have HUN := hid (hoa9.low HB7.size)
        have HSF9 := hid ((Sl.call HSF.out hba9))
        have HBZ := hid (bel_call HB7 hba9)
        clear y0
        go_upto_region 15 with (fail)
        clear hoa7 hoa8 hoa9 hba7 hba8
        obtain ⟨wz, hwz⟩ : ∃ z, z = wa9 := ⟨_, rfl⟩
        subst hwz
        have HFU := hid (HSF9.out.upto (i := k) (by omega))
        have HFD := hid (HSF9.out.cut (i := k) (by omega))
        go_region_held3 (fun _ => True) (first | trivial)
          (first
            | (refine step_catL (by rfl) (.const (.slice none 0 0)) (.tmp 83) 63 (by rfl) wz.heap.size none 25 _ 8 Try.underlying63 Try.infoF64 rfl (by decide) (.slice none 0 0) [] (rs.take k) (· < wz.heap.size) (some ⟨bf, of, none⟩) k cf (by rfl) (by rfl) (OwnL.nil _ _ _ _ _) (HFU.out.drewN 1) (fun b hb => ⟨trivial, hb, by simp [Value.ownBlock]⟩) (Nat.le_refl _) (by simp; omega) (by simp; unfold maxLen; omega) ?_; intro vb7 wb7 hob7 hx7; rw [List.nil_append] at hob7; have hbb7 : Below wz.heap.size wz wb7 := (Below.refl wz.heap.size wz).drew.trans hx7.of_nil)
            | (refine step_pushL (w := wb7) (by rfl) (.tmp 84) (.tmp 86) 63 (by rfl) wz.heap.size none 25 _ 8 Try.underlying63 Try.infoF64 rfl (by decide) vb7 (rs.take k) rf #[.float .f64 rf] (fun _ => False) wb7.heap.size (by rfl) (by rfl) (bel_alloc (Below.refl _ _) _) (heap_alloc_new _ _) hob7 ⟨rfl, HRW⟩ (fun b hb => hb.elim) hbb7.size hlen3 hlen4 ?_; intro vb8 wb8 hob8 hx8; have hbb8 : Below wz.heap.size wz wb8 := (hbb7.alloc hbb7.size _).trans ((hob7.keep (bel_alloc (Below.refl _ _) _)).below hx8 (Nat.le_trans hbb7.size (by simp))))
            | (refine step_catL (w := (wz.drewN 1).alloc (.cells #[.float .f64 rf] 25)) (by rfl) (.const (.slice none 0 0)) (.tmp 83) 63 (by rfl) (wz.heap.size + 1) none 25 _ 8 Try.underlying63 Try.infoF64 rfl (by decide) (.slice none 0 0) [] (rs.take k) (· < wz.heap.size) (some ⟨bf, of, none⟩) k cf (by rfl) (by rfl) (OwnL.nil _ _ _ _ _) ((HFU.out.drewN 1).keep fun p hp => (bel_alloc (Below.refl wz.heap.size (wz.drewN 1)) _).cell hp) (fun b hb => ⟨trivial, by show b < ((wz.drewN 1).alloc _).heap.size; simp; omega, by simp [Value.ownBlock]⟩) (by simp) (by simp; omega) (by simp; unfold maxLen; omega) ?_; intro vb7 wb7 hob7 hx7; rw [List.nil_append] at hob7; have hbx : Below (wz.heap.size + 1) ((wz.drewN 1).alloc (.cells #[.float .f64 rf] 25)) wb7 := hx7.of_nilB (by simp); have hbb7 : Below wz.heap.size wz wb7 := ((bel_drewN (Below.refl wz.heap.size wz) 1).alloc (Nat.le_refl _) _).trans (hbx.mono (by omega)); have hg7 := (hbx.block wz.heap.size (by omega)).trans (heap_alloc_new (wz.drewN 1) (.cells #[.float .f64 rf] 25)))
            | (refine step_pushW (w := wb7) (by rfl) (.tmp 84) (.tmp 86) 63 (by rfl) (wz.heap.size + 1) none 25 _ 8 Try.underlying63 Try.infoF64 rfl (by decide) vb7 (rs.take k) rf #[.float .f64 rf] (fun _ => False) wz.heap.size (by rfl) (by rfl) hg7 hob7 ⟨rfl, HRW⟩ (fun b hb => hb.elim) (lt_of_block hg7) hlen3 hlen4 ?_; intro vb8 wb8 hob8' hx8; have hob8 := hob8'.low (Nat.le_succ wz.heap.size); have hbb8 : Below wz.heap.size wz wb8 := hbb7.trans ((hob7.below hx8 (lt_of_block hg7)).mono (by omega)))
            | (refine step_catL (w := wb8) (by rfl) (.tmp 87) (.tmp 90) 63 (by rfl) wz.heap.size none 25 _ 8 Try.underlying63 Try.infoF64 rfl (by decide) vb8 (rs.take k ++ [rf]) (rs.drop k) (· < wz.heap.size) (cutS Lay.float.size (some ⟨bf, of, none⟩) cf k) (nf - k) (cf - k) (by rfl) (by rfl) hob8 (HFD.out.keep fun p hp => hbb8.cell hp) (fun b hb => ⟨trivial, Nat.lt_of_lt_of_le hb hbb8.size, fun he => by have := hob8.ge he.symm; omega⟩) hbb8.size (by rw [List.length_append, List.length_take]; simp; omega) (by rw [List.length_append, List.length_take]; unfold maxLen; simp; omega) ?_; intro vb9 wb9 hob9 hx9; have hbb9 : Below wz.heap.size wz wb9 := hbb8.trans (hob8.below hx9 hbb8.size)))
        all_goals
          have HVN := hid (hob9.low HBZ.out.size)
          have HUN2 := hid (HUN.out.keep hbb9)
          have HBE := hid (bel_call HBZ.out hbb9)
          have HR2 := hid (show (rs.take k ++ [rf] ++ rs.drop k).map scK = (accO l wl m (j + 1)).map Prod.snd from by
            rw [HN.out, HINS.out]
            simp only [List.map_append, List.map_cons, List.map_nil, List.map_take, List.map_drop, HRS.out, HKS.out])
          have HU2 := hid (show (accO l wl m (j + 1)).map Prod.fst = ((accO l wl m j).map Prod.fst).take k ++ [l[j].Id] ++ ((accO l wl m j).map Prod.fst).drop k from by
            rw [HN.out, HINS.out]
            simp only [List.map_append, List.map_cons, List.map_nil, List.map_take, List.map_drop])
          go_wp2
          go_roundw
          case rel => exact ⟨j + 1, _, _, _, by omega, by go_num, rfl, rfl, by rw [HU2.out]; exact HUN2.out, HVN.out, HR2, HBE.out⟩
          case measure => simp [intOf]; omega

set_option maxRecDepth 100000 in
set_option maxHeartbeats 1000000 in
theorem refFirst11_any (A0 : Option Addr) (n0 c0 : Nat) (l : List Chn) (A1 : Option Addr) (n1 c1 : Nat) (wl : List Wgt) (m : Int) (w : World) (r0 : Sl lay_Channel w (· < w.heap.size) A0 n0 c0 l) (r1 : Sl lay_Weight w (· < w.heap.size) A1 n1 c1 wl) :
    Calls Try.prog 16 #[.slice A0 n0 c0, .slice A1 n1 c1, .int .u64 m] w fun e w' => e = .returned (.tuple #[.int .u64 (fiV l wl m), .int .i64 (fiE l wl m)]) ∧ Below w.heap.size w w' := by
  have HO := hid (refOrder11_any A0 n0 c0 l A1 n1 c1 wl m w r0 r1)
  rcases lg_is (l := l) with ⟨g, e⟩ | ⟨g, e⟩
  rotate_left
  · rw [e] at HO
    have HE := hid (show fiV l wl m = 0 ∧ fiE l wl m = 1 from ⟨if_neg g, if_neg g⟩)
    clear e g
    go_enter Try.func16, Try.ntmps16
    go_wp2_with fail
    refine HO.out.mono ?_
    rintro e w1 ⟨v, rfl, hv, hb1⟩
    go_wp2
    go_ret2
    exact ⟨by rw [HE.out.1, HE.out.2]; rfl, hb1⟩
  rw [e] at HO
  have HE := hid (show fiV l wl m = (ordL l wl m).headD 0 ∧ fiE l wl m = if ordL l wl m = [] then 5 else 0 from ⟨if_pos g, if_pos g⟩)
  clear e g
  generalize ordL l wl m = o at *
  go_enter Try.func16, Try.ntmps16
  go_wp2_with fail
  refine HO.out.mono ?_
  rintro e w1 ⟨v, rfl, hv, hb1⟩
  obtain ⟨A2, n2, c2, rfl, R2⟩ := hv.formN
  have hl := R2.len
  have hc := R2.cap
  unfold maxLen at hc
  cases o with
  | nil =>
    have h0 : n2 = 0 := by rw [← hl]; rfl
    subst h0
    clear R2 hv
    go_wp2
    go_ret2
    exact ⟨by rw [HE.out.1, HE.out.2]; rfl, hb1⟩
  | cons x o =>
    have h0 : 0 < n2 := by rw [← hl]; simp
    obtain ⟨b2, o2, rfl, hb2, hcells⟩ := R2.at_ h0
    have q0 := hcells 0 h0
    rw [show nth (x :: o) 0 = x from rfl, Nat.add_zero] at q0
    have d0 : ((n2 : Int) == 0) = false := by simp; omega
    have HE2 := hid (show fiV l wl m = x ∧ fiE l wl m = 0 from ⟨HE.out.1, by rw [HE.out.2]; rfl⟩)
    clear R2 hv hcells HE
    go_wp2
    go_ret2
    exact ⟨by rw [HE2.out.1, HE2.out.2]; rfl, hb1⟩
end Go.Proofs.Ytpkfejfdbjoehaa
