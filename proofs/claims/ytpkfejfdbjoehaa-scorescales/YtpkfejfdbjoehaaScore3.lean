/-
  The program's One, Order and First of layer 11; all that package score answers.
-/
import Derived.Test.YtpkfejfdbjoehaaPackSc
import Derived.Shelf.SlSortCmp.NoneTotal
import Derived.Test.YtpkfejfdbjoehaaPackLg2
import Derived.Test.YtpkfejfdbjoehaaLedgerCW
namespace Go.Proofs.Ytpkfejfdbjoehaa
open Go.RowKit Go.WalkArith

theorem own_low {w : World} {b b' : Nat} {e : TypeId} {k : IntKind} {v : Value} {xs : List Int} (h : Own w b' e k v xs) (hb : b ≤ b') : Own w b e k v xs := by
  obtain ⟨h1, h2⟩ := h
  refine ⟨⟨h1.1, ?_⟩, h2⟩
  rcases h1.2 with h0 | ⟨g, cap, cur, hv, hg, r⟩
  · exact .inl h0
  · exact .inr ⟨g, cap, cur, hv, Nat.le_trans hb hg, r⟩
theorem sort_none (A : Option Addr) (c : Nat) (w : World) : Calls Try.prog 32 #[.slice A 0 c, .func (.func 33) #[] #[]] w fun e w' => e = .returned (.tuple #[]) ∧ w' = w :=
  AnyF.slices_SortFunc_none sortS A c _ w

set_option maxRecDepth 100000 in
set_option maxHeartbeats 1000000 in
theorem sOne_any (s : Array Value) (c : Chn) (a b : Nat) (w : World) (r : lay_Channel.rep w (· < w.heap.size) c s.toList) :
    Calls Try.prog 11 #[.agg s, .float .f64 a, .float .f64 b] w fun e w' => ∃ r, e = .returned (.tuple #[.float .f64 r, .int .i64 (chE c)]) ∧ FVal (oneO c a b) r ∧ (Lit.float .f64 r).wf = true ∧ Below w.heap.size w w' := by
  obtain ⟨A0a, n0a, c0a, rfl, hw0, hs0a⟩ := agg_Channel r
  clear r
  have HB := Below.refl w.heap.size w
  go_enter Try.func11, Try.ntmps11
  have hba := bel_alloc (Below.refl w.heap.size w) (Obj.cells #[.int .u64 c.Id, .int .u64 c.Local, .int .u64 c.Remote, .int .u64 c.Reserve, .int .u64 c.Most, .slice A0a n0a c0a, .bool c.Open] 28)
  have B0 : Box (w.alloc (Obj.cells #[.int .u64 c.Id, .int .u64 c.Local, .int .u64 c.Remote, .int .u64 c.Reserve, .int .u64 c.Most, .slice A0a n0a c0a, .bool c.Open] 28)) w.heap.size 28 [.int .u64 c.Id, .int .u64 c.Local, .int .u64 c.Remote, .int .u64 c.Reserve, .int .u64 c.Most, .slice A0a n0a c0a, .bool c.Open] := Box.new w _ _
  have S0a := Sl.call hs0a hba
  replace HB := bel_call HB hba
  clear hba hs0a
  go_upto_region 1 with (fail)
  generalize w.alloc (Obj.cells #[.int .u64 c.Id, .int .u64 c.Local, .int .u64 c.Remote, .int .u64 c.Reserve, .int .u64 c.Most, .slice A0a n0a c0a, .bool c.Open] 28) = W0 at *
  have K0 := hid (fun (W : World) (h : Below W0.heap.size W0 W) => (show W.cell? ⟨w.heap.size, 0, none⟩ = some (.int .u64 c.Id) ∧ W.cell? ⟨w.heap.size, 1, none⟩ = some (.int .u64 c.Local) ∧ W.cell? ⟨w.heap.size, 2, none⟩ = some (.int .u64 c.Remote) ∧ W.cell? ⟨w.heap.size, 3, none⟩ = some (.int .u64 c.Reserve) ∧ W.cell? ⟨w.heap.size, 4, none⟩ = some (.int .u64 c.Most) ∧ W.cell? ⟨w.heap.size, 5, none⟩ = some (.slice A0a n0a c0a) ∧ W.cell? ⟨w.heap.size, 6, none⟩ = some (.bool c.Open) from ⟨(B0.call h).at_ 0 rfl, (B0.call h).at_ 1 rfl, (B0.call h).at_ 2 rfl, (B0.call h).at_ 3 rfl, (B0.call h).at_ 4 rfl, (B0.call h).at_ 5 rfl, (B0.call h).at_ 6 rfl⟩))
  have P0 := hid (fun (W : World) (h : Below W0.heap.size W0 W) => (show lay_Channel.rep W (· < W.heap.size) c #[.int .u64 c.Id, .int .u64 c.Local, .int .u64 c.Remote, .int .u64 c.Reserve, .int .u64 c.Most, .slice A0a n0a c0a, .bool c.Open].toList from chan_in hw0 S0a h))
  have HB0 := Below.refl W0.heap.size W0
  clear B0 S0a
  obtain ⟨ce, hce⟩ : ∃ z, chE c = z := ⟨_, rfl⟩
  have Qce := hid hce
  clear hce
  obtain ⟨rv, hrv⟩ : ∃ z, rmV c = z := ⟨_, rfl⟩
  have Qrv := hid hrv
  clear hrv
  obtain ⟨av, hav⟩ : ∃ z, aaV c = z := ⟨_, rfl⟩
  have Qav := hid hav
  clear hav
  obtain ⟨p0x0, p0x1, p0x2, p0x3, p0x4, p0x5, p0x6⟩ := K0.out _ HB0
  go_wp2_with fail
  with_reducible refine (cCheck_any _ c _ (P0.out _ HB0)).mono ?_
  rw [Qce.out]
  rintro e w1 ⟨rfl, hb⟩
  replace HB := bel_call HB hb
  replace HB0 := bel_call HB0 hb
  clear p0x0 p0x1 p0x2 p0x3 p0x4 p0x5 p0x6
  clear hb
  by_cases hz : ce = 0
  rotate_left
  · have dz : (ce != 0) = true := by simpa using hz
    have HO := hid (show oneO c a b = some 0 from if_neg (by rw [Qce.out]; exact hz))
    clear hz
    go_wp2
    go_ret2
    exact ⟨0, by rw [Qce.out]; rfl, by rw [HO.out]; rfl, by decide, HB⟩
  subst hz
  have HO := hid (show oneO c a b = scoreV (rmV c) (aaV c) a b from if_pos Qce.out)
  obtain ⟨p0x0, p0x1, p0x2, p0x3, p0x4, p0x5, p0x6⟩ := K0.out _ HB0
  go_wp2_with fail
  with_reducible refine (cRoom_any _ c _ (P0.out _ HB0)).mono ?_
  rw [Qrv.out, Qce.out]
  rintro e w2 ⟨rfl, hb⟩
  replace HB := bel_call HB hb
  replace HB0 := bel_call HB0 hb
  clear p0x0 p0x1 p0x2 p0x3 p0x4 p0x5 p0x6
  clear hb
  obtain ⟨p0x0, p0x1, p0x2, p0x3, p0x4, p0x5, p0x6⟩ := K0.out _ HB0
  go_wp2_with fail
  with_reducible refine (cAll_any _ c _ (P0.out _ HB0)).mono ?_
  rw [Qav.out, Qce.out]
  rintro e w3 ⟨rfl, hb⟩
  replace HB := bel_call HB hb
  replace HB0 := bel_call HB0 hb
  clear p0x0 p0x1 p0x2 p0x3 p0x4 p0x5 p0x6
  clear hb
  go_upto_region 6 with (fail)
  obtain ⟨r1, w91, h1, f1, g1, b1⟩ := run_float (P := Try.prog) w3 .sub (.inr (.inl rfl)) 25 (floatOfInt .f64 rv) b
  obtain ⟨r2, w92, h2, f2, g2, b2⟩ := run_float (P := Try.prog) w91 .quo (.inr (.inr (.inr rfl))) 25 r1 (floatOfInt .f64 av)
  obtain ⟨r3, w93, h3, f3, g3, b3⟩ := run_float (P := Try.prog) w92 .mul (.inr (.inr (.inl rfl))) 25 a r2
  have HF := hid (score_steps f1 f2 f3)
  have HBE := hid (bel_call (bel_call (bel_call HB b1) b2) b3)
  clear f1 f2 f3 b1 b2 b3
  go_wp2
  go_ret2
  exact ⟨r3, by rw [Qce.out]; rfl, by rw [HO.out, Qrv.out, Qav.out]; exact HF.out, g3, HBE.out⟩
theorem Try.infoSco : (Try.prog.info? 59).map (fun i => (i.zero, i.size, i.bytes)) = some (some (.agg #[.int .u64 0, .float .f64 0]), lay_Weight.size, 16) := by kernel_rfl
theorem items_step {l : List Chn} {w : List Wgt} {n : Int} {j : Nat} (hj : j < l.length) : itemsI (l.take (j + 1)) w n = if elig n l[j] = true then itemsI (l.take j) w n ++ [(l[j].Id, keyC w (floatOfInt .f64 n) l[j])] else itemsI (l.take j) w n := by
  unfold itemsI
  rw [List.take_succ_eq_append_getElem hj, List.filter_append, List.map_append]
  by_cases h : elig n l[j] = true
  · rw [if_pos h]
    have : [l[j]].filter (elig n) = [l[j]] := by simp [h]
    rw [this]; rfl
  · rw [if_neg h]
    have : [l[j]].filter (elig n) = [] := by simp [h]
    rw [this]
    simp
theorem items_len (l : List Chn) (w : List Wgt) (n : Int) : (itemsI l w n).length ≤ l.length := by
  unfold itemsI
  rw [List.length_map]
  exact List.length_filter_le _ _
/-- A channel that has room is open. -/
theorem room_open {c : Chn} (h : rmV c ≠ 0) : c.Open = true := by
  cases ho : c.Open with
  | true => rfl
  | false =>
    exfalso
    apply h
    unfold rmV roomN
    split
    · rw [if_pos (.inl ho)]
    · rfl
theorem fit_apart {l : List Chn} {w : List Wgt} {n : Int} {fs : List Wgt} (hu : LUp l) (h : fs.map itm = itemsI l w n) : fs.Pairwise fun a b => a.Id ≠ b.Id := by
  have h1 := items_ids hu w n
  rw [← h, List.pairwise_map] at h1
  exact h1.imp fun h => by have h : _ < _ := h; exact Int.ne_of_lt h
theorem ord_of {l : List Chn} {w : List Wgt} {n : Int} {fs l' : List Wgt} (hg : LgOk l) (h1 : fs.map itm = itemsI l w n) (h2 : ∀ x, x ∈ l' ↔ x ∈ fs) (h3 : SortedI (l'.map itm)) : l'.map Wgt.Id = ordL l w n := by
  have e : l'.map itm = ordI l w n := sorted_ext h3 (ord_sorted hg.2.2.1 w n) fun x => by
    unfold ordI
    rw [sort_mem, ← h1, List.mem_map, List.mem_map]
    constructor
    · rintro ⟨y, hy, rfl⟩; exact ⟨y, (h2 y).1 hy, rfl⟩
    · rintro ⟨y, hy, rfl⟩; exact ⟨y, (h2 y).2 hy, rfl⟩
  unfold ordL
  rw [if_pos hg, ← e, List.map_map]
  rfl
set_option maxRecDepth 100000 in
set_option maxHeartbeats 4000000 in
theorem sOrder_any (A0 : Option Addr) (n0 c0 : Nat) (l : List Chn) (A1 : Option Addr) (n1 c1 : Nat) (wl : List Wgt) (m : Int) (w : World) (r0 : Sl lay_Channel w (· < w.heap.size) A0 n0 c0 l) (r1 : Sl lay_Weight w (· < w.heap.size) A1 n1 c1 wl) :
    Calls Try.prog 13 #[.slice A0 n0 c0, .slice A1 n1 c1, .int .u64 m] w fun e w' => ∃ v, e = .returned (.tuple #[v, .int .i64 (lgE l)]) ∧ Own w' w.heap.size 24 .u64 v (ordL l wl m) ∧ Below w.heap.size w w' := by
  have HL := hid r0.len
  have hcap := r0.cap
  unfold maxLen at hcap
  have KA := hid (fun (W : World) (h : Below w.heap.size w W) => Sl.call r0 h)
  have KW := hid (fun (W : World) (h : Below w.heap.size w W) => Sl.call r1 h)
  clear r0 r1
  go_enter Try.func13, Try.ntmps13
  go_wp2_with fail
  with_reducible refine (lCheck_any A0 n0 c0 l w (KA.out _ (Below.refl _ _))).mono ?_
  rcases lg_is (l := l) with ⟨g, e⟩ | ⟨g, e⟩
  rotate_left
  · rw [e]
    have HE := hid (show ordL l wl m = [] ∧ lgE l = 1 from ⟨if_neg g, e⟩)
    clear e g
    rintro e w1 ⟨rfl, hb1⟩
    go_wp2
    go_ret2
    exact ⟨_, by first | rfl | (rw [HE.out.2]; rfl), by rw [HE.out.1]; exact Own.nil _ _ _ _, hb1⟩
  rw [e]
  have HE := hid (show lgE l = 0 from e)
  have hn : n0 ≤ 32 := by rw [← HL.out]; exact g.1
  have HG := hid g
  clear e g
  rintro e w1 ⟨rfl, hb1⟩
  go_wp2
  go_loopw [9, 23] (fun u i wr => ∃ (j : Nat) (tu : Value) (fs : List Wgt), j ≤ n0 ∧ i = .int .i64 j ∧ u = tu ∧ OwnL lay_Weight wr w.heap.size none 59 tu fs ∧ Hid (fs.map itm = itemsI (l.take j) wl m) ∧ Below w.heap.size w wr) (fun _ i _ => n0 - (intOf i).toNat)
  case atStart => exact ⟨0, _, [], Nat.zero_le _, rfl, rfl, OwnL.nil _ _ _ _ _, hid rfl, hb1⟩
  case round =>
  obtain ⟨j, tx, fs, hj, rfl, htx, hu, HFS, hbel⟩ := hrel
  replace htx := htx.symm
  subst htx
  have hfl : fs.length ≤ j := by
    have h1 := items_len (l.take j) wl m
    rw [← HFS.out, List.length_map, List.length_take] at h1
    omega
  by_cases hlt : j < n0
  rotate_left
  · have hjn : j = n0 := by omega
    subst hjn
    have HIT := hid (show fs.map itm = itemsI l wl m from by rw [HFS.out, List.take_of_length_le (by rw [HL.out]; exact Nat.le_refl _)])
    obtain ⟨wq, hwq⟩ : ∃ z, z = wr := ⟨_, rfl⟩
    subst hwq
    by_cases h0 : fs.length = 0
    · have hnil : fs = [] := List.eq_nil_of_length_eq_zero h0
      subst hnil
      have HO := hid (show [].map Wgt.Id = ordL l wl m from ord_of HG.out HIT.out (fun x => Iff.rfl) List.Pairwise.nil)
      obtain ⟨A9, n9, c9, rfl, hs9⟩ := hu.read
      have hn9 : n9 = 0 := hs9.len.symm
      subst hn9
      have HS9 := hid hs9
      have HB9 := hid hbel
      clear hu hs9 h0 hbel hfl
      have HX := hid (sort_none A9 c9 wq)
      have HY := hid (idsOf_any A9 0 c9 [] wq HS9.out (by omega))
      go_wp2_with fail
      with_reducible refine HX.out.mono ?_
      rintro e w5 ⟨rfl, rfl⟩
      go_wp2_with fail
      with_reducible refine HY.out.mono ?_
      rintro e w6 ⟨v, rfl, hv, hb6⟩
      have HV := hid hv
      have HB6 := hid (bel_call HB9.out hb6)
      have hsz := HB9.out.size
      clear hv hb6
      go_wp2
      go_ret2
      exact ⟨_, by first | rfl | (rw [HE.out]; rfl), by rw [← HO.out]; exact own_low HV.out hsz, HB6.out⟩
    · obtain ⟨g, cap, rfl⟩ := hu.shape (by omega)
      have hap := fit_apart HG.out.2.2.1 HIT.out
      have HX := hid (sort_any fs.length cap g w.heap.size none fs wq hu (by omega) hap)
      have hg := hu.ownG
      have HB9 := hid hbel
      have HFL := hid hfl
      have hcap9 : cap ≤ 9223372036854775807 := by
        obtain ⟨A9, n9, c9, hv9, hs9⟩ := hu.read
        injection hv9 with q1 q2 q3
        have := hs9.cap
        unfold maxLen at this
        omega
      clear hu hap hbel h0 hfl
      go_wp2_with fail
      with_reducible refine HX.out.mono ?_
      rintro e w5 ⟨rfl, ⟨l', hmem, hsort, hs5⟩, hb5⟩
      have HO := hid (ord_of HG.out HIT.out hmem hsort)
      have HB5 := hid (HB9.out.trans hb5)
      have HY := hid (idsOf_any (some ⟨g, 0, none⟩) fs.length cap l' w5 hs5 (by have := HFL.out; omega))
      clear hmem hsort hs5 hb5
      go_wp2_with fail
      with_reducible refine HY.out.mono ?_
      rintro e w6 ⟨v, rfl, hv, hb6⟩
      have HV := hid hv
      have HB6 := hid (bel_call HB5.out hb6)
      have hsz := HB5.out.size
      clear hv hb6
      go_wp2
      go_ret2
      exact ⟨_, by first | rfl | (rw [HE.out]; rfl), by rw [← HO.out]; exact own_low HV.out hsz, HB6.out⟩
  obtain ⟨b1, o1, A', n', c', hx1, rfl, hb1', t0, t1, t2, t3, t4, t5, t6, hw, hs⟩ := chn_at (KA.out _ hbel) hlt
  have hba := bel_alloc (Below.refl wr.heap.size wr) (Obj.cells #[.int .u64 l[j].Id, .int .u64 l[j].Local, .int .u64 l[j].Remote, .int .u64 l[j].Reserve, .int .u64 l[j].Most, .slice A' n' c', .bool l[j].Open] 28)
  have BN := BoxC.new wr l[j] A' n' c'
  have PB := hid (fun (W : World) (h : Below (wr.alloc (Obj.cells #[.int .u64 l[j].Id, .int .u64 l[j].Local, .int .u64 l[j].Remote, .int .u64 l[j].Reserve, .int .u64 l[j].Most, .slice A' n' c', .bool l[j].Open] 28)).heap.size (wr.alloc (Obj.cells #[.int .u64 l[j].Id, .int .u64 l[j].Local, .int .u64 l[j].Remote, .int .u64 l[j].Reserve, .int .u64 l[j].Most, .slice A' n' c', .bool l[j].Open] 28)) W) => chan_in hw hs (bel_call hba h))
  have KB := hid (fun (W : World) (h : Below (wr.alloc (Obj.cells #[.int .u64 l[j].Id, .int .u64 l[j].Local, .int .u64 l[j].Remote, .int .u64 l[j].Reserve, .int .u64 l[j].Most, .slice A' n' c', .bool l[j].Open] 28)).heap.size (wr.alloc (Obj.cells #[.int .u64 l[j].Id, .int .u64 l[j].Local, .int .u64 l[j].Remote, .int .u64 l[j].Reserve, .int .u64 l[j].Most, .slice A' n' c', .bool l[j].Open] 28)) W) => (BN.call h).all)
  have HRM := hid (cRoom_any _ l[j] _ (chan_in hw hs hba))
  have ok := HG.out.2.1 l[j] (List.getElem_mem hx1)
  have HCE := hid (show chE l[j] = 0 from if_pos ok)
  rw [HCE.out] at HRM
  have HST := hid (items_step (w := wl) (n := m) hx1)
  have VI := hid hw.id
  obtain ⟨rv, hrv⟩ : ∃ z, rmV l[j] = z := ⟨_, rfl⟩
  rw [hrv] at HRM
  have QRV := hid hrv
  have HU1 := hu.keep hba
  have HB1 := bel_call hbel hba
  clear hrv ok hw hs hu hbel hba BN
  go_upto_region 8 with (fail)
  generalize wr.alloc (Obj.cells #[.int .u64 l[j].Id, .int .u64 l[j].Local, .int .u64 l[j].Remote, .int .u64 l[j].Reserve, .int .u64 l[j].Most, .slice A' n' c', .bool l[j].Open] 28) = W1 at *
  generalize wr.heap.size = gb at *
  obtain ⟨p0, p1, p2, p3, p4, p5, p6⟩ := KB.out _ (Below.refl W1.heap.size W1)
  go_wp2_with fail
  with_reducible refine HRM.out.mono ?_
  rintro e w5 ⟨rfl, hb5⟩
  clear p0 p1 p2 p3 p4 p5 p6 t0 t1 t2 t3 t4 t5 t6
  have HU5 := HU1.keep hb5
  have HB5 := bel_call HB1 hb5
  clear HU1 HB1
  by_cases hz : rv = 0
  · have e1 : (rv == 0) = true := by simpa using hz
    have HN := hid (show itemsI (l.take (j + 1)) wl m = itemsI (l.take j) wl m from by rw [HST.out, if_neg (by rw [elig_iff]; exact fun h => h.2.1 (by rw [QRV.out]; exact hz))])
    clear hz
    go_wp2
    go_roundw
    case rel => exact ⟨j + 1, _, fs, by omega, by go_num, rfl, HU5, by rw [HN.out]; exact HFS, HB5⟩
    case measure => simp [intOf]; omega
  have e1 : (rv == 0) = false := by simpa using hz
  by_cases hz2 : rv < m
  · have e2 : decide (rv < m) = true := by simpa using hz2
    have HN := hid (show itemsI (l.take (j + 1)) wl m = itemsI (l.take j) wl m from by rw [HST.out, if_neg (by rw [elig_iff, QRV.out]; exact fun h => by omega)])
    clear hz hz2
    go_wp2
    go_roundw
    case rel => exact ⟨j + 1, _, fs, by omega, by go_num, rfl, HU5, by rw [HN.out]; exact HFS, HB5⟩
    case measure => simp [intOf]; omega
  have e2 : decide (rv < m) = false := by simpa using hz2
  have HN := hid (show itemsI (l.take (j + 1)) wl m = itemsI (l.take j) wl m ++ [(l[j].Id, keyC wl (floatOfInt .f64 m) l[j])] from by rw [HST.out, if_pos (elig_iff.2 ⟨room_open (by rw [QRV.out]; exact hz), by rw [QRV.out]; exact hz, by rw [QRV.out]; omega⟩)])
  clear hz hz2
  go_upto_region 10 with (fail)
  have HWG := hid (fun (W : World) (h : Below w5.heap.size w5 W) => sWeigh_any _ _ _ wl l[j].Id W (KW.out _ (bel_call HB5 h)))
  have HON := hid (fun (W : World) (h : Below w5.heap.size w5 W) => sOne_any _ l[j] (weighV wl l[j].Id) (floatOfInt .f64 m) W (PB.out _ (bel_call hb5 h)))
  rw [HCE.out] at HON
  have KC := hid (fun (W : World) (h : Below w5.heap.size w5 W) => KB.out _ (bel_call hb5 h))
  have HH := Below.refl w5.heap.size w5
  obtain ⟨p0, p1, p2, p3, p4, p5, p6⟩ := KC.out _ HH
  go_region_held3 (fun W => W.cell? ⟨gb, 0, none⟩ = some (.int .u64 l[j].Id) ∧ W.cell? ⟨gb, 1, none⟩ = some (.int .u64 l[j].Local) ∧ W.cell? ⟨gb, 2, none⟩ = some (.int .u64 l[j].Remote) ∧ W.cell? ⟨gb, 3, none⟩ = some (.int .u64 l[j].Reserve) ∧ W.cell? ⟨gb, 4, none⟩ = some (.int .u64 l[j].Most) ∧ W.cell? ⟨gb, 5, none⟩ = some (.slice A' n' c') ∧ W.cell? ⟨gb, 6, none⟩ = some (.bool l[j].Open))
    (first | exact KC.out _ HH | exact KC.out _ HH.drew | exact KC.out _ HH6 | exact KC.out _ HH7)
    (first
      | (go_at_call 20; (with_reducible refine (HWG.out _ HH.drew).mono ?_); rintro e w6 ⟨rfl, hb6⟩; have HH6 := bel_call HH.drew hb6)
      | (go_at_call 20; (with_reducible refine (HWG.out _ HH).mono ?_); rintro e w6 ⟨rfl, hb6⟩; have HH6 := bel_call HH hb6)
      | (go_at_call 11; (with_reducible refine (HON.out _ HH6).mono ?_); rintro e w7 ⟨rf, rfl, hrf, HRW, hb7⟩; have HH7 := bel_call HH6 hb7))
  clear p0 p1 p2 p3 p4 p5 p6
  have HKS := hid (show scK rf = keyC wl (floatOfInt .f64 m) l[j] from hrf.key)
  have HU7 := HU5.keep HH7
  have HB7 := bel_call HB5 HH7
  have hbw := bel_call hb5 HH7
  have p0 := (KB.out _ hbw).1
  have HF9 := hid (show (fs ++ [(⟨l[j].Id, rf⟩ : Wgt)]).map itm = itemsI (l.take (j + 1)) wl m from by
    rw [HN.out, List.map_append, HFS.out]
    show _ ++ [(l[j].Id, scK rf)] = _
    rw [HKS.out])
  have HWF := hid (show WgtWf ⟨l[j].Id, rf⟩ from ⟨VI.out, HRW⟩)
  have hlen1 : (fs.length + 1) * 16 ≤ 140737488355328 := by omega
  have hlen2 : fs.length + 1 ≤ maxLen := by unfold maxLen; omega
  clear hrf HU5 HB5 HH HH6 HH7 hb5 hb6 hb7 hbw
  go_wp2_with (at_builtin; go_must (refine wpList_pushL (w := w7) rfl (.tmp 50) (.tmp 55) 57 rfl w.heap.size none 59 _ 16 Try.underlying57 Try.infoSco rfl (by decide) tx fs ⟨l[j].Id, rf⟩ #[.int .u64 l[j].Id, .float .f64 rf] (fun _ => False) rfl rfl HU7 (rep_Weight.2 ⟨rfl, HWF.out⟩) (fun b hb => hb.elim) HB7.size hlen1 hlen2 ?_; intro v8 w8 ho8 hx8; have hb8 : Below w.heap.size w7 w8 := HU7.below hx8 HB7.size))
  go_roundw
  case rel => exact ⟨j + 1, _, _, by omega, by go_num, rfl, ho8, HF9, HB7.trans hb8⟩
  case measure => simp [intOf]; omega

theorem sFirst_any (A0 : Option Addr) (n0 c0 : Nat) (l : List Chn) (A1 : Option Addr) (n1 c1 : Nat) (wl : List Wgt) (m : Int) (w : World) (r0 : Sl lay_Channel w (· < w.heap.size) A0 n0 c0 l) (r1 : Sl lay_Weight w (· < w.heap.size) A1 n1 c1 wl) :
    Calls Try.prog 15 #[.slice A0 n0 c0, .slice A1 n1 c1, .int .u64 m] w fun e w' => e = .returned (.tuple #[.int .u64 (fiV l wl m), .int .i64 (fiE l wl m)]) ∧ Below w.heap.size w w' := by
  have HO := hid (sOrder_any A0 n0 c0 l A1 n1 c1 wl m w r0 r1)
  rcases lg_is (l := l) with ⟨g, e⟩ | ⟨g, e⟩
  rotate_left
  · rw [e] at HO
    have HE := hid (show fiV l wl m = 0 ∧ fiE l wl m = 1 from ⟨if_neg g, if_neg g⟩)
    clear e g
    go_enter Try.func15, Try.ntmps15
    go_wp2_with fail
    refine HO.out.mono ?_
    rintro e w1 ⟨v, rfl, hv, hb1⟩
    go_wp2
    go_ret2
    exact ⟨by rw [HE.out.1, HE.out.2]; rfl, hb1⟩
  rw [e] at HO
  have HE := hid (show fiV l wl m = (ordL l wl m).headD 0 ∧ fiE l wl m = if ordL l wl m = [] then 5 else 0 from ⟨if_pos g, if_pos g⟩)
  clear e g
  generalize ordL l wl m = o at *
  go_enter Try.func15, Try.ntmps15
  go_wp2_with fail
  refine HO.out.mono ?_
  rintro e w1 ⟨v, rfl, hv, hb1⟩
  obtain ⟨A2, n2, c2, rfl, R2⟩ := hv.formN
  have hl := R2.len
  have hc := R2.cap
  unfold maxLen at hc
  cases o with
  | nil =>
    have h0 : n2 = 0 := by rw [← hl]; rfl
    subst h0
    clear R2 hv
    go_wp2
    go_ret2
    exact ⟨by rw [HE.out.1, HE.out.2]; rfl, hb1⟩
  | cons x o =>
    have h0 : 0 < n2 := by rw [← hl]; simp
    obtain ⟨b2, o2, rfl, hb2, hcells⟩ := R2.at_ h0
    have q0 := hcells 0 h0
    rw [show nth (x :: o) 0 = x from rfl, Nat.add_zero] at q0
    have d0 : ((n2 : Int) == 0) = false := by simp; omega
    have HE2 := hid (show fiV l wl m = x ∧ fiE l wl m = 0 from ⟨HE.out.1, by rw [HE.out.2]; rfl⟩)
    clear R2 hv hcells HE
    go_wp2
    go_ret2
    exact ⟨by rw [HE2.out.1, HE2.out.2]; rfl, hb1⟩

theorem score_spec : ScoreSpec where
  less := fun a b w => (sLess_any a b w).mono fun _ _ h => ⟨h.1, h.2 ▸ Below.refl _ _⟩
  one := fun s c a b w r => (sOne_any s c a b w r).mono fun _ _ ⟨r, h1, h2, _, h3⟩ => ⟨r, h1, h2, h3⟩
  weigh := fun A n c l id w h _ => sWeigh_any A n c l id w h
  order := fun A n c l A' n' c' l' m w h1 h2 _ => sOrder_any A n c l A' n' c' l' m w h1 h2
  first := fun A n c l A' n' c' l' m w h1 h2 _ => sFirst_any A n c l A' n' c' l' m w h1 h2
theorem chan_room : ChanRoom where
  room := fun s c w r => cRoom_any s c w r
theorem ledger_cw : LedgerCW where
  check := fun A n k l w h => lCheck_any A n k l w h
  get := fun A n k l id w h _ => lGet_any A n k l id w h
  where_ := fun A n k l hold w h hh => lWhere_any A n k l hold w h hh
  hold := fun A n k l id hold m w h _ hh hm => lHold_any A n k l id hold m w h hh hm
end Go.Proofs.Ytpkfejfdbjoehaa
