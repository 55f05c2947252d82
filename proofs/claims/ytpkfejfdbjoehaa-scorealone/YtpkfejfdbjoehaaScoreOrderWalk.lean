/-
  The walk of ScoreOrder.
-/
import Derived.Test.YtpkfejfdbjoehaaScoreHoldsWalk
import Derived.Deep.RegionHeld3
namespace Go.Proofs.Ytpkfejfdbjoehaa
open Go.RowKit Go.WalkArith

theorem room_nonneg {c : Chn} (ok : ChOk c) : 0 ≤ rmV c ∧ (rmV c ≠ 0 → c.Open = true) := by
  have hr : rmV c = roomN c := if_pos ok
  have h1 := ok.2.2.2.2.2.2.2.1
  rw [hr]
  unfold roomN
  split
  · exact ⟨by omega, fun h => absurd rfl h⟩
  · rename_i q
    simp only [not_or] at q
    refine ⟨?_, fun _ => by simpa using q.1⟩
    have : ¬ c.Local < c.Reserve := q.2.2
    rcases Int.le_total (c.Local - c.Reserve) (c.Most - heldN c) with k | k
    · rw [Int.min_eq_left k]; omega
    · rw [Int.min_eq_right k]; omega
theorem elig_room {c : Chn} {n : Int} (ok : ChOk c) : elig n c = true ↔ 0 < rmV c ∧ n ≤ rmV c := by
  obtain ⟨h1, h2⟩ := room_nonneg ok
  rw [elig_iff]
  constructor
  · rintro ⟨-, a, b⟩; exact ⟨by omega, b⟩
  · rintro ⟨a, b⟩; exact ⟨h2 (by omega), by omega, b⟩
theorem many_step {l : List Chn} {n : Int} {j : Nat} (hj : j < l.length) : ((l.take (j + 1)).filter (elig n)).length = ((l.take j).filter (elig n)).length + (if elig n l[j] = true then 1 else 0) := by
  rw [List.take_succ_eq_append_getElem hj, List.filter_append, List.length_append]
  congr 1
  by_cases h : elig n l[j] = true
  · rw [if_pos h]; simp [h]
  · rw [if_neg h]; simp [h]
/-- The j-th one of the order. -/
theorem ord_at {l : List Chn} {w : List Wgt} {n : Int} (g : LgOk l) {j : Nat} (hj : j < (ordI l w n).length) : ∃ c ∈ l, elig n c = true ∧ (ordI l w n)[j].1 = c.Id ∧ gtE l c.Id = 0 ∧ gtC l c.Id = c ∧ (ordI l w n)[j].2 = keyO (scoreV (rmV c) (aaV c) (weighV w c.Id) (floatOfInt .f64 n)) := by
  obtain ⟨c, h1, h2, h3⟩ := ord_mem.1 (List.getElem_mem hj)
  obtain ⟨g1, g2⟩ := gt_of g h1
  refine ⟨c, h1, h2, by rw [h3], g1, g2, ?_⟩
  rw [h3]
  show keyC w (floatOfInt .f64 n) c = _
  have : chE c = 0 := if_pos (g.2.1 c h1)
  unfold keyC oneO
  rw [if_pos this]
theorem ord_next {l : List Chn} {w : List Wgt} {n : Int} (g : LgOk l) {j : Nat} (hj : j + 1 < (ordI l w n).length) : ltK ((ordI l w n)[j].2) ((ordI l w n)[j + 1].2) = false ∧ (ltK ((ordI l w n)[j + 1].2) ((ordI l w n)[j].2) = true ∨ (ltK ((ordI l w n)[j + 1].2) ((ordI l w n)[j].2) = false ∧ (ordI l w n)[j].1 < (ordI l w n)[j + 1].1)) := by
  have := List.pairwise_iff_getElem.1 (ord_sorted g.2.2.1 w n) j (j + 1) (by omega) hj (by omega)
  rcases befB_iff.1 this with q | ⟨q, q'⟩
  · exact ⟨ltK_asym q, .inl q⟩
  · rw [q]
    exact ⟨ltK_irr _, .inr ⟨ltK_irr _, q'⟩⟩

set_option maxRecDepth 100000 in
set_option maxHeartbeats 8000000 in
theorem scoreOrder_walkH (HS : ScoreSpec) (HG : LedgerCW) (HR : ChanRoom) (A0 : Option Addr) (n0 c0 : Nat) (x0 : List Chn) (A1 : Option Addr) (n1 c1 : Nat) (x1 : List Wgt) (a2 : Int) (w : World) (r0 : Sl lay_Channel w (· < w.heap.size) A0 n0 c0 x0) (r1 : Sl lay_Weight w (· < w.heap.size) A1 n1 c1 x1) (b2 : 0 ≤ a2 ∧ a2 ≤ 18446744073709551615) :
    Calls Try.prog 5 #[.slice A0 n0 c0, .slice A1 n1 c1, .int .u64 a2] w fun e w' => e = .returned (.bool true) ∧ Below w.heap.size w w' := by
  have V2 := wf_u64 b2
  have hc0 := r0.cap
  unfold maxLen at hc0
  have hw0 := sl_chns r0
  have HL0 := hid r0.len
  have hc1 := r1.cap
  unfold maxLen at hc1
  have KA := hid (fun (W : World) (h : Below w.heap.size w W) => Sl.call r0 h)
  have KW := hid (fun (W : World) (h : Below w.heap.size w W) => Sl.call r1 h)
  clear r0 r1
  have HB := Below.refl w.heap.size w
  go_enter Try.func5, Try.ntmps5
  go_wp2_with fail
  with_reducible refine (live11_any HS _).mono ?_
  rintro e w1 ⟨rfl, hb⟩
  replace HB := bel_call HB hb
  clear hb
  go_wp2_with fail
  with_reducible refine (refFew10_any _ _ _ x0 _ (KA.out _ HB)).mono ?_
  rintro e w2 ⟨rfl, hb⟩
  replace HB := bel_call HB hb
  clear hb
  cases hfew : fewL x0
  · go_wp2
    go_ret
    exact ⟨rfl, HB⟩
  have HFW := hid hfew
  clear hfew
  by_cases hbig : 100 < n1
  · have d1 : decide ((100 : Int) < (n1 : Int)) = true := by simp; omega
    go_wp2
    go_ret
    exact ⟨rfl, HB⟩
  have d1 : decide ((100 : Int) < (n1 : Int)) = false := by simp; omega
  obtain ⟨oe, hoe⟩ : ∃ z, lgE x0 = z := ⟨_, rfl⟩
  have Qoe := hid hoe
  clear hoe
  go_wp2_with fail
  with_reducible refine (HS.order _ _ _ x0 _ _ _ x1 a2 _ (KA.out _ HB) (KW.out _ HB) V2).mono ?_
  rw [Qoe.out]
  rintro e w3 ⟨v, rfl, hv, hb⟩
  replace HB := bel_call HB hb
  clear hb
  obtain ⟨A2, n2, c2, rfl, R2⟩ := hv.formN
  clear hv
  have HB2 := Below.refl w3.heap.size w3
  have hL2 := R2.len
  have hcap2 := R2.cap
  unfold maxLen at hcap2
  rcases lg_val Qoe.out with ⟨rfl, hg⟩ | ⟨rfl, hg⟩
  rotate_left
  · have e0 : n2 = 0 := by rw [← hL2]; unfold ordL; rw [if_neg hg]; rfl
    subst e0
    clear hg R2
    go_wp2_with fail
    with_reducible refine (HG.check _ _ _ x0 _ (KA.out _ HB)).mono ?_
    rw [Qoe.out]
    rintro e w4 ⟨rfl, hb⟩
    replace HB := bel_call HB hb
    replace HB2 := bel_call HB2 hb
    clear hb
    go_wp2
    go_ret
    exact ⟨rfl, HB⟩
  have HLG := hid hg
  have eo : ordL x0 x1 a2 = (ordI x0 x1 a2).map Prod.fst := if_pos hg
  rw [eo] at R2 hL2
  have HLN := hid (show (ordI x0 x1 a2).length = n2 from by rw [← hL2, List.length_map])
  have HBI := hid HB
  clear hg eo hL2 HB
  go_wp2
  go_loopw [9, 53] (fun m i wr => ∃ j : Nat, j ≤ n0 ∧ i = .int .i64 j ∧ m = .int .i64 (((x0.take j).filter (elig a2)).length : Nat) ∧ Below w3.heap.size w3 wr) (fun _ i _ => n0 - (intOf i).toNat)
  case atStart => exact ⟨0, Nat.zero_le _, rfl, by simp, HB2⟩
  case round =>
  obtain ⟨j, hj, rfl, rfl, hbel⟩ := hrel
  by_cases hlt : j < n0
  · obtain ⟨b1, o1, A', n', c', hx1, rfl, hb1, t0, t1, t2, t3, t4, t5, t6, hw, hs⟩ := chn_at (KA.out _ (bel_call HBI.out hbel)) hlt
    have hba := bel_alloc (Below.refl wr.heap.size wr) (Obj.cells #[.int .u64 x0[j].Id, .int .u64 x0[j].Local, .int .u64 x0[j].Remote, .int .u64 x0[j].Reserve, .int .u64 x0[j].Most, .slice A' n' c', .bool x0[j].Open] 28)
    have HRM := hid (HR.room _ x0[j] _ (chan_in hw hs hba))
    have ok := HLG.out.2.1 x0[j] (List.getElem_mem hx1)
    have hch : chE x0[j] = 0 := if_pos ok
    rw [hch] at HRM
    have HEL := hid (elig_room (n := a2) ok)
    have HST := hid (many_step (n := a2) hx1)
    have hml : ((x0.take j).filter (elig a2)).length ≤ j := by
      have := List.length_filter_le (elig a2) (x0.take j)
      rw [List.length_take] at this
      omega
    obtain ⟨rv, hrv⟩ : ∃ z, rmV x0[j] = z := ⟨_, rfl⟩
    rw [hrv] at HRM HEL
    obtain ⟨mv, hmv⟩ : ∃ z, ((x0.take j).filter (elig a2)).length = z := ⟨_, rfl⟩
    rw [hmv] at HST hml ⊢
    have hr0 := (room_nonneg ok).1
    rw [hrv] at hr0
    clear hrv hmv hch ok hw hs
    go_wp2_with fail
    refine HRM.out.mono ?_
    rintro e w5 ⟨rfl, hb5⟩
    have HB5 := bel_call (bel_call hbel hba) hb5
    clear t0 t1 t2 t3 t4 t5 t6 hba hb5
    by_cases he : elig a2 x0[j] = true
    · have hq := HEL.out.1 he
      have q1 : decide ((0 : Int) < rv) = true := by simp; omega
      have q2 : decide (a2 ≤ rv) = true := by simp; omega
      have HS2 := hid (show ((x0.take (j + 1)).filter (elig a2)).length = mv + 1 from by rw [HST.out, if_pos he])
      clear he hq
      go_wp2
      go_roundw
      case rel => exact ⟨j + 1, by omega, by go_num, by rw [HS2.out]; go_num, HB5⟩
      case measure => simp [intOf]; omega
    · have HS2 := hid (show ((x0.take (j + 1)).filter (elig a2)).length = mv from by rw [HST.out, if_neg he]; rfl)
      have hq := mt HEL.out.2 he
      clear he
      by_cases q1 : 0 < rv
      · have d1' : decide ((0 : Int) < rv) = true := by simp; omega
        have d2' : decide (a2 ≤ rv) = false := by simp; omega
        clear hq q1
        go_wp2
        go_roundw
        case rel => exact ⟨j + 1, by omega, by go_num, by rw [HS2.out], HB5⟩
        case measure => simp [intOf]; omega
      · have d1' : decide ((0 : Int) < rv) = false := by simp; omega
        clear hq q1
        go_wp2
        go_roundw
        case rel => exact ⟨j + 1, by omega, by go_num, by rw [HS2.out], HB5⟩
        case measure => simp [intOf]; omega
  have HMN := hid (show ((x0.take j).filter (elig a2)).length = n2 from by
    rw [List.take_of_length_le (by rw [HL0.out]; omega), ← ord_len x0 x1 a2, HLN.out])
  rw [HMN.out]
  go_wp2
  obtain ⟨wo, hwo⟩ : ∃ z, z = wr := ⟨_, rfl⟩
  subst hwo
  go_loopw [14, 76] (fun la i wr => ∃ (j : Nat) (r : Nat), j ≤ n2 ∧ i = .int .i64 j ∧ la = .float .f64 r ∧ Hid (∀ k (hk : k < (ordI x0 x1 a2).length), k + 1 = j → scK r = (ordI x0 x1 a2)[k].2) ∧ Below w3.heap.size w3 wr) (fun _ i _ => n2 - (intOf i).toNat)
  case atStart => exact ⟨0, 0, Nat.zero_le _, rfl, rfl, hid fun k hk h => absurd h (by omega), hbel⟩
  case round =>
  obtain ⟨j2, rl, hj2, rfl, rfl, HLAST, hbe2⟩ := hrel
  by_cases hlt2 : j2 < n2
  rotate_left
  · have e2 : j2 = n2 := by omega
    have HBE := hid (bel_call HBI.out hbe2)
    have tn : ((n2 : Int) == (n2 : Int)) = true := by simp
    go_wp2
    go_ret
    exact ⟨rfl, HBE.out⟩
  have hjl : j2 < (ordI x0 x1 a2).length := by rw [HLN.out]; exact hlt2
  obtain ⟨b2', o2, rfl, hb2', hcells⟩ := R2.at_ (by omega)
  have q0 := (hbe2.cell (p := ⟨b2', o2 + j2, none⟩) hb2').trans (hcells j2 hlt2)
  obtain ⟨c, k1, k2, k3, k4, k5, k6⟩ := ord_at HLG.out hjl
  have hnth : nth ((ordI x0 x1 a2).map Prod.fst) j2 = c.Id := by
    rw [nth_get (by rw [List.length_map]; exact hjl), List.getElem_map]
    exact k3
  rw [hnth] at q0
  have HC := hid (And.intro k4 k5)
  have HKEY := hid k6
  have hwc := hw0 c k1
  have okc := HLG.out.2.1 c k1
  have HCE := hid (show chE c = 0 from if_pos okc)
  obtain ⟨hel1, hel2⟩ := (elig_room (n := a2) okc).1 k2
  have HOP := hid (elig_iff.1 k2).1
  have HPR := hid (fun (k : Nat) (hk : k + 1 = j2) => (show nth ((ordI x0 x1 a2).map Prod.fst) k = (ordI x0 x1 a2)[k].1 from by rw [nth_get (by rw [List.length_map]; omega), List.getElem_map]))
  have HID := hid k3
  have HCL := hid hcells
  clear hnth hcells k1 k2 k3 k4 k5 k6 okc hbel
  have HB := bel_call HBI.out hbe2
  have HBi := hbe2
  go_wp2_with fail
  with_reducible refine (HG.get _ _ _ x0 c.Id _ (KA.out _ HB) hwc.1.id).mono ?_
  rw [HC.out.1, HC.out.2]
  rintro e w4 ⟨v, rfl, hv, hb⟩
  replace HB := bel_call HB hb
  replace HBi := bel_call HBi hb
  clear hb
  obtain ⟨A3a, n3a, c3a, rfl, hs3a⟩ := hv.read
  have hw3 : ChnWf c := hwc.1
  clear hv
  have hba := bel_alloc (Below.refl w4.heap.size w4) (Obj.cells #[.int .u64 c.Id, .int .u64 c.Local, .int .u64 c.Remote, .int .u64 c.Reserve, .int .u64 c.Most, .slice A3a n3a c3a, .bool c.Open] 28)
  have B3 : Box (w4.alloc (Obj.cells #[.int .u64 c.Id, .int .u64 c.Local, .int .u64 c.Remote, .int .u64 c.Reserve, .int .u64 c.Most, .slice A3a n3a c3a, .bool c.Open] 28)) w4.heap.size 28 [.int .u64 c.Id, .int .u64 c.Local, .int .u64 c.Remote, .int .u64 c.Reserve, .int .u64 c.Most, .slice A3a n3a c3a, .bool c.Open] := Box.new w4 _ _
  have S3a := Sl.call hs3a hba
  replace HB := bel_call HB hba
  replace HBi := bel_call HBi hba
  clear hba hs3a
  go_upto_region 23 with (fail)
  generalize w4.alloc (Obj.cells #[.int .u64 c.Id, .int .u64 c.Local, .int .u64 c.Remote, .int .u64 c.Reserve, .int .u64 c.Most, .slice A3a n3a c3a, .bool c.Open] 28) = W3 at *
  generalize hg : w4.heap.size = g3 at *
  clear hg
  have K3 := hid (fun (W : World) (h : Below W3.heap.size W3 W) => (show W.cell? ⟨g3, 0, none⟩ = some (.int .u64 c.Id) ∧ W.cell? ⟨g3, 1, none⟩ = some (.int .u64 c.Local) ∧ W.cell? ⟨g3, 2, none⟩ = some (.int .u64 c.Remote) ∧ W.cell? ⟨g3, 3, none⟩ = some (.int .u64 c.Reserve) ∧ W.cell? ⟨g3, 4, none⟩ = some (.int .u64 c.Most) ∧ W.cell? ⟨g3, 5, none⟩ = some (.slice A3a n3a c3a) ∧ W.cell? ⟨g3, 6, none⟩ = some (.bool c.Open) from ⟨(B3.call h).at_ 0 rfl, (B3.call h).at_ 1 rfl, (B3.call h).at_ 2 rfl, (B3.call h).at_ 3 rfl, (B3.call h).at_ 4 rfl, (B3.call h).at_ 5 rfl, (B3.call h).at_ 6 rfl⟩))
  have P3 := hid (fun (W : World) (h : Below W3.heap.size W3 W) => (show lay_Channel.rep W (· < W.heap.size) c #[.int .u64 c.Id, .int .u64 c.Local, .int .u64 c.Remote, .int .u64 c.Reserve, .int .u64 c.Most, .slice A3a n3a c3a, .bool c.Open].toList from chan_in hw3 S3a h))
  have HB3 := Below.refl W3.heap.size W3
  clear B3 S3a
  obtain ⟨rv, hrv⟩ : ∃ z, rmV c = z := ⟨_, rfl⟩
  have Qrv := hid hrv
  clear hrv
  rw [Qrv.out] at hel1 hel2
  obtain ⟨p3x0, p3x1, p3x2, p3x3, p3x4, p3x5, p3x6⟩ := K3.out _ HB3
  go_wp2_with fail
  with_reducible refine (HR.room _ c _ (P3.out _ HB3)).mono ?_
  rw [Qrv.out, HCE.out]
  rintro e w5 ⟨rfl, hb⟩
  replace HB := bel_call HB hb
  replace HBi := bel_call HBi hb
  replace HB3 := bel_call HB3 hb
  clear p3x0 p3x1 p3x2 p3x3 p3x4 p3x5 p3x6
  clear hb
  have VC := hwc.1.id
  go_upto_region 24 with (fail)
  have HWG := hid (fun (W : World) (h : Below w5.heap.size w5 W) => HS.weigh _ _ _ x1 c.Id W (KW.out _ (bel_call HB h)) VC)
  have HON := hid (fun (W : World) (h : Below w5.heap.size w5 W) => HS.one _ c (weighV x1 c.Id) (floatOfInt .f64 a2) W (P3.out _ (bel_call HB3 h)))
  rw [HCE.out] at HON
  have KC := hid (fun (W : World) (h : Below w5.heap.size w5 W) => K3.out _ (bel_call HB3 h))
  have HH := Below.refl w5.heap.size w5
  obtain ⟨p3x0, p3x1, p3x2, p3x3, p3x4, p3x5, p3x6⟩ := KC.out _ HH
  have HO1 := hid (show oneO c (weighV x1 c.Id) (floatOfInt .f64 a2) = scoreV (rmV c) (aaV c) (weighV x1 c.Id) (floatOfInt .f64 a2) from if_pos HCE.out)
  go_region_held3 (fun W => W.cell? ⟨g3, 0, none⟩ = some (.int .u64 c.Id) ∧ W.cell? ⟨g3, 1, none⟩ = some (.int .u64 c.Local) ∧ W.cell? ⟨g3, 2, none⟩ = some (.int .u64 c.Remote) ∧ W.cell? ⟨g3, 3, none⟩ = some (.int .u64 c.Reserve) ∧ W.cell? ⟨g3, 4, none⟩ = some (.int .u64 c.Most) ∧ W.cell? ⟨g3, 5, none⟩ = some (.slice A3a n3a c3a) ∧ W.cell? ⟨g3, 6, none⟩ = some (.bool c.Open))
    (first | exact KC.out _ HH | exact KC.out _ HH.drew | exact KC.out _ HH6 | exact KC.out _ HH7)
    (first
      | (go_at_call 20; (with_reducible refine (HWG.out _ HH.drew).mono ?_); rintro e w6 ⟨rfl, hb6⟩; have HH6 := bel_call HH.drew hb6)
      | (go_at_call 20; (with_reducible refine (HWG.out _ HH).mono ?_); rintro e w6 ⟨rfl, hb6⟩; have HH6 := bel_call HH hb6)
      | (go_at_call 11; (with_reducible refine (HON.out _ HH6).mono ?_); rintro e w7 ⟨rs, rfl, hrs, hb7⟩; have HH7 := bel_call HH6 hb7))
  all_goals
    have HBE := bel_call HB HH7
    have HBE2 := bel_call HBi HH7
    have HKS := hid (show scK rs = (ordI x0 x1 a2)[j2].2 from by
      rw [hrs.key, HO1.out, HKEY.out])
    have hop := HOP.out
    have z1 : (rv == 0) = false := by simp; omega
    have z2 : decide (rv < a2) = false := by simp; omega
    clear p3x0 p3x1 p3x2 p3x3 p3x4 p3x5 p3x6 hrs
    by_cases hz : j2 = 0
    · have z3 : decide ((0 : Int) < (j2 : Int)) = false := by simp; omega
      have z3' : decide (0 < j2) = false := by simp; omega
      have HNX := hid (show ∀ k (hk : k < (ordI x0 x1 a2).length), k + 1 = j2 + 1 → scK rs = (ordI x0 x1 a2)[k].2 from fun k hk e => by
        have : k = j2 := by omega
        subst this
        exact HKS.out)
      clear hz
      go_wp2
      go_roundw
      case rel => exact ⟨j2 + 1, rs, by omega, by go_num, rfl, HNX, HBE2⟩
      case measure => simp [intOf]; omega
    · obtain ⟨k, hk⟩ : ∃ k : Nat, k + 1 = j2 := ⟨j2 - 1, by omega⟩
      have z3 : decide ((0 : Int) < (j2 : Int)) = true := by simp; omega
      have z3' : decide (0 < j2) = true := by simp; omega
      have hkn : (j2 : Int) - 1 = (k : Int) := by omega
      have hwk : IntKind.i64.wrap (k : Int) = (k : Int) := IntWalk.i64_in _ (by omega)
      have ik : (0 : Int) ≤ (k : Int) ∧ (k : Int) < (n2 : Int) := by omega
      have ik2 : k < n2 := by omega
      have hkl : k < (ordI x0 x1 a2).length := by omega
      have e1 := HLAST.out k hkl hk
      have qk := (HBE2.cell (p := ⟨b2', o2 + k, none⟩) hb2').trans (HCL.out k (by omega))
      rw [HPR.out k hk] at qk
      have HNX := hid (show ∀ k' (hk' : k' < (ordI x0 x1 a2).length), k' + 1 = j2 + 1 → scK rs = (ordI x0 x1 a2)[k'].2 from fun k' hk' e => by
        have : k' = j2 := by omega
        subst this
        exact HKS.out)
      subst hk
      obtain ⟨s1, s2⟩ := ord_next HLG.out hjl
      rw [← e1, ← HKS.out] at s1 s2
      rw [HID.out] at s2
      have H1 := hid (fun (W : World) => (by have := HS.less rl rs W; rw [s1] at this; exact this))
      have H2 := hid (fun (W : World) => HS.less rs rl W)
      obtain ⟨pi, hpi⟩ : ∃ z, (ordI x0 x1 a2)[k].1 = z := ⟨_, rfl⟩
      rw [hpi] at qk s2
      clear e1 s1 hpi hz
      rcases s2 with s2 | ⟨s2, s3⟩
      · rw [s2] at H2
        clear s2
        go_wp2_with fail
        with_reducible refine (H1.out _).mono ?_
        rintro e w8 ⟨rfl, hb8⟩
        go_wp2_with fail
        with_reducible refine (H2.out _).mono ?_
        rintro e w9 ⟨rfl, hb9⟩
        have HB9 := bel_call (bel_call HBE2 hb8) hb9
        go_wp2
        go_roundw
        case rel => exact ⟨k + 1 + 1, rs, by omega, by go_num, rfl, HNX, HB9⟩
        case measure => simp [intOf]; omega
      · rw [s2] at H2
        have z4 : decide (c.Id ≤ pi) = false := by simp; omega
        clear s2 s3
        go_wp2_with fail
        with_reducible refine (H1.out _).mono ?_
        rintro e w8 ⟨rfl, hb8⟩
        go_wp2_with fail
        with_reducible refine (H2.out _).mono ?_
        rintro e w9 ⟨rfl, hb9⟩
        have HB9 := bel_call (bel_call HBE2 hb8) hb9
        have qk9 := ((bel_call hb8 hb9).cell (p := ⟨b2', o2 + k, none⟩) (Nat.lt_of_lt_of_le hb2' HBE2.size)).trans qk
        clear qk
        go_wp2
        go_roundw
        case rel => exact ⟨k + 1 + 1, rs, by omega, by go_num, rfl, HNX, HB9⟩
        case measure => simp [intOf]; omega
end Go.Proofs.Ytpkfejfdbjoehaa
