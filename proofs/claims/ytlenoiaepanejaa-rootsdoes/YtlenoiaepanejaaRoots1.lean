/-
  The contracts of package roots' small functions: whether two rows of roots are the same, whether one has a key, where a root stands.
-/
import Derived.Test.YtlenoiaepanejaaRootsRef1
import Derived.Test.YtlenoiaepanejaaSearch
namespace Go.Proofs.Ytlenoiaepanejaa
open Go.RowKit Go.WalkArith

set_option maxRecDepth 100000 in
set_option maxHeartbeats 1000000 in
theorem equalRts_any (A1 A2 : Option Addr) (n1 c1 n2 c2 : Nat) (S : Nat → Prop) (l o : List Rtk) (w : World) (h1 : Sl lay_RootKey w S A1 n1 c1 l) (h2 : Sl lay_RootKey w S A2 n2 c2 o) :
    Calls Try.prog 31 #[.slice A1 n1 c1, .slice A2 n2 c2] w fun e w' => e = .returned (.bool (decide (l = o))) ∧ ∃ m, w' = w.drewN m := by
  have K1 := hid h1.len
  have K2 := hid h2.len
  have k1 := h1.cap
  have k2 := h2.cap
  unfold maxLen at k1 k2
  by_cases hl : n1 = n2
  · subst hl
    have hne : ((n1 : Int) != (n1 : Int)) = false := by simp
    go_enter Try.func31, Try.ntmps31
    go_wp2
    go_loopw [13] (fun i wr => ∃ j : Nat, j ≤ n1 ∧ i = .int .i64 j ∧ l.take j = o.take j ∧ ∃ m, wr = w.drewN m) (fun i _ => n1 - (intOf i).toNat)
    case atStart => exact ⟨0, Nat.zero_le _, rfl, rfl, 0, rfl⟩
    case round =>
      obtain ⟨j, hj, rfl, hpre, m, hwr⟩ := hrel
      have HP := hid hpre
      have HW := hid hwr
      clear hpre hwr
      by_cases hlt : j < n1
      · obtain ⟨b1, o1, hx1, rfl, -, t1, t2, t3, w1⟩ := rtk_at h1 hlt
        obtain ⟨b2, o2, hx2, rfl, -, u1, u2, u3, w2⟩ := rtk_at h2 hlt
        have hne2 := run_neRtk w1 w2
        clear w1 w2
        have q1 : wr.cell? ⟨b1, o1 + j * 3, none⟩ = some (.int .u64 l[j].Id) := by rw [HW.out]; exact t1
        have q2 : wr.cell? ⟨b1, o1 + j * 3 + 1, none⟩ = some (.int .u64 l[j].Key) := by rw [HW.out]; exact t2
        have q3 : wr.cell? ⟨b1, o1 + j * 3 + 2, none⟩ = some (.bool l[j].Gone) := by rw [HW.out]; exact t3
        have p1 : wr.cell? ⟨b2, o2 + j * 3, none⟩ = some (.int .u64 o[j].Id) := by rw [HW.out]; exact u1
        have p2 : wr.cell? ⟨b2, o2 + j * 3 + 1, none⟩ = some (.int .u64 o[j].Key) := by rw [HW.out]; exact u2
        have p3 : wr.cell? ⟨b2, o2 + j * 3 + 2, none⟩ = some (.bool o[j].Gone) := by rw [HW.out]; exact u3
        clear t1 t2 t3 u1 u2 u3
        by_cases he : l[j] = o[j]
        · have HN := hid (take_same8 hx1 hx2 HP.out he)
          rw [decide_eq_true he] at hne2
          clear he
          go_wp2_with fail
          go_quiet (fail)
          go_wp2
          go_roundw
          case rel => exact ⟨j + 1, by omega, by go_num, HN.out, m + _, by rw [HW.out]; exact drew_add8 w m _⟩
          case measure => simp [intOf]; omega
        · have HN := hid (show decide (l = o) = false from decide_eq_false fun e => he (by simp only [e]))
          rw [decide_eq_false he] at hne2
          clear he
          go_wp2_with fail
          go_quiet (fail)
          go_wp2
          go_ret
          exact ⟨ret_bool HN.out.symm, m + _, by rw [HW.out]; exact drew_add8 w m _⟩
      · have HN := hid (show decide (l = o) = true from by
          have := HP.out
          rw [List.take_of_length_le (by rw [K1.out]; omega), List.take_of_length_le (by rw [K2.out]; omega)] at this
          exact decide_eq_true this)
        go_wp2
        go_ret
        exact ⟨ret_bool HN.out.symm, m, HW.out⟩
  · have hne : ((n1 : Int) != (n2 : Int)) = true := by simp; omega
    have HN := hid (show decide (l = o) = false from decide_eq_false fun e => by rw [e] at K1; have a1 := K1.out; have a2 := K2.out; omega)
    go_enter Try.func31, Try.ntmps31
    go_wp2
    go_ret
    exact ⟨ret_bool HN.out.symm, 0, rfl⟩


set_option maxHeartbeats 1000000 in
theorem rSame_any (A1 A2 : Option Addr) (n1 c1 n2 c2 : Nat) (S : Nat → Prop) (l o : List Rtk) (w : World) (h1 : Sl lay_RootKey w S A1 n1 c1 l) (h2 : Sl lay_RootKey w S A2 n2 c2 o) :
    Calls Try.prog 20 #[.slice A1 n1 c1, .slice A2 n2 c2] w fun e w' => e = .returned (.bool (decide (l = o))) ∧ Below w.heap.size w w' := by
  go_enter Try.func20, Try.ntmps20
  go_wp2_with (go_at_call 31; go_must (refine (equalRts_any _ _ _ _ _ _ _ _ _ _ h1 h2).mono ?_; rintro e w1 ⟨rfl, m, rfl⟩))
  go_ret
  exact ⟨rfl, bel_drewN (Below.refl _ _) _⟩

set_option maxHeartbeats 1000000 in
theorem hasKey1_any (s : Array Value) (S : Nat → Prop) (r : Rtk) (k : Int) (b : Nat) (w : World) (hs : lay_RootKey.rep w S r s.toList) (hc : w.cell? ⟨b, 0, none⟩ = some (.int .u64 k)) (hb : b < w.heap.size) :
    Calls Try.prog 36 #[.agg s, .pointer (some ⟨b, 0, none⟩)] w fun e w' => e = .returned (.bool (r.Key == k)) ∧ Below w.heap.size w w' := by
  obtain ⟨rfl, hw⟩ := agg_RootKey hs
  have hb0 : Below w.heap.size w (w.alloc (Obj.cells #[.int .u64 r.Id, .int .u64 r.Key, .bool r.Gone] 34)) := bel_alloc (Below.refl _ _) _
  have q := (hb0.cell (p := ⟨b, 0, none⟩) hb).trans hc
  go_enter Try.func36, Try.ntmps36
  go_wp2
  go_ret
  exact ⟨rfl, hb0⟩

set_option maxHeartbeats 1000000 in
theorem indexKey_any (A : Option Addr) (n c : Nat) (l : List Rtk) (k : Int) (b : Nat) (w : World) (h : Sl lay_RootKey w (· < w.heap.size) A n c l) (hc : w.cell? ⟨b, 0, none⟩ = some (.int .u64 k)) (hb : b < w.heap.size) :
    Calls Try.prog 40 #[.slice A n c, .func (.func 36) #[] #[.pointer (some ⟨b, 0, none⟩)]] w fun e w' => (∃ r : Int, e = .returned (.int .i64 r) ∧ decide (0 ≤ r) = hasK l k) ∧ Below w.heap.size w w' := by
  have HL := hid h.len
  have hcap := h.cap
  unfold maxLen at hcap
  go_enter Try.func40, Try.ntmps40
  go_wp2
  go_loopw [8] (fun i wr => ∃ j : Nat, j ≤ n ∧ i = .int .i64 j ∧ hasK (l.take j) k = false ∧ Below w.heap.size w wr) (fun i _ => n - (intOf i).toNat)
  case atStart => exact ⟨0, Nat.zero_le _, rfl, by simp [hasK], Below.refl _ _⟩
  case round =>
    obtain ⟨j, hj, rfl, hpre, hbel⟩ := hrel
    have HP := hid hpre
    clear hpre
    by_cases hlt : j < n
    · obtain ⟨b1, o1, hx1, rfl, hb1, t1, t2, t3, hw⟩ := rtk_at h hlt
      have q1 := (hbel.cell (p := ⟨b1, o1 + j * 3, none⟩) hb1).trans t1
      have q2 := (hbel.cell (p := ⟨b1, o1 + j * 3 + 1, none⟩) hb1).trans t2
      have q3 := (hbel.cell (p := ⟨b1, o1 + j * 3 + 2, none⟩) hb1).trans t3
      have HT := hid (hasK_take hx1 k)
      have HA := hid (hasK_at hx1)
      have HC := hid (hasKey1_any #[.int .u64 l[j].Id, .int .u64 l[j].Key, .bool l[j].Gone] (fun _ => True) l[j] k b wr (rep_RootKey.2 ⟨rfl, hw⟩) ((hbel.cell (p := ⟨b, 0, none⟩) hb).trans hc) (Nat.lt_of_lt_of_le hb hbel.size))
      clear t1 t2 t3 hw
      by_cases he : l[j].Key = k
      · have d1 : (l[j].Key == k) = true := by simpa using he
        rw [he] at HA
        have HN := hid (show decide (0 ≤ (j : Int)) = hasK l k from by rw [HA.out]; simp)
        rw [d1] at HC
        clear he HT HA
        go_wp2_with (go_at_call 36; go_must (refine HC.out.mono ?_; rintro e w1 ⟨rfl, hb1⟩))
        go_ret
        exact ⟨⟨_, rfl, HN.out⟩, bel_call hbel hb1⟩
      · have d1 : (l[j].Key == k) = false := by simpa using he
        have HN := hid (show hasK (l.take (j + 1)) k = false from by rw [HT.out, HP.out, d1]; rfl)
        rw [d1] at HC
        clear he HT HA
        go_wp2_with (go_at_call 36; go_must (refine HC.out.mono ?_; rintro e w1 ⟨rfl, hb1⟩))
        go_roundw
        case rel => exact ⟨j + 1, by omega, by go_num, HN.out, bel_call hbel hb1⟩
        case measure => simp [intOf]; omega
    · have HN := hid (show decide (0 ≤ (-1 : Int)) = hasK l k from by have := HP.out; rw [List.take_of_length_le (by rw [HL.out]; omega)] at this; rw [this]; rfl)
      go_wp2
      go_ret
      exact ⟨⟨_, rfl, HN.out⟩, hbel⟩

set_option maxHeartbeats 1000000 in
theorem containsKey_any (A : Option Addr) (n c : Nat) (l : List Rtk) (k : Int) (b : Nat) (w : World) (h : Sl lay_RootKey w (· < w.heap.size) A n c l) (hc : w.cell? ⟨b, 0, none⟩ = some (.int .u64 k)) (hb : b < w.heap.size) :
    Calls Try.prog 35 #[.slice A n c, .func (.func 36) #[] #[.pointer (some ⟨b, 0, none⟩)]] w fun e w' => e = .returned (.bool (hasK l k)) ∧ Below w.heap.size w w' := by
  go_enter Try.func35, Try.ntmps35
  go_wp2_with (go_at_call 40; go_must (refine (indexKey_any _ _ _ _ _ _ _ h hc hb).mono ?_; rintro e w1 ⟨⟨r, rfl, hr⟩, hb1⟩))
  have HR := hid hr
  clear hr
  go_wp2
  go_ret
  exact ⟨rfl, hb1⟩

set_option maxHeartbeats 1000000 in
theorem hasKey_any (A : Option Addr) (n c : Nat) (l : List Rtk) (k : Int) (w : World) (h : Sl lay_RootKey w (· < w.heap.size) A n c l) :
    Calls Try.prog 22 #[.slice A n c, .int .u64 k] w fun e w' => e = .returned (.bool (hasK l k)) ∧ Below w.heap.size w w' := by
  have hb0 : Below w.heap.size w (w.alloc (.cells #[.int .u64 k] 23)) := bel_alloc (Below.refl _ _) _
  have hc : (w.alloc (.cells #[.int .u64 k] 23)).cell? ⟨w.heap.size, 0, none⟩ = some (.int .u64 k) := by rw [World.cell?_alloc_at] <;> rfl
  have HC := hid (containsKey_any A n c l k w.heap.size _ (Sl.call h hb0) hc (by simp))
  go_enter Try.func22, Try.ntmps22
  go_wp2_with (go_at_call 35; go_must (refine HC.out.mono ?_; rintro e w1 ⟨rfl, hb1⟩))
  go_ret
  exact ⟨rfl, bel_call hb0 hb1⟩

theorem placeOf1_any (s : Array Value) (S : Nat → Prop) (r : Rtk) (t : Int) (w : World) (hs : lay_RootKey.rep w S r s.toList) :
    Calls Try.prog 33 #[.agg s, .int .u64 t] w fun e w' => e = .returned (.int .i64 (cmpI r.Id t)) ∧ Below w.heap.size w w' := by
  obtain ⟨rfl, hw⟩ := agg_RootKey hs
  go_enter Try.func33, Try.ntmps33
  go_wp2_with (go_at_call 34; refine (compare_any _ _ _).mono ?_; rintro e w' ⟨rfl, rfl⟩)
  go_ret
  exact ⟨rfl, by (repeat (first | exact Below.refl _ _ | refine Below.drew ?_ | refine bel_drewN ?_ _ | refine bel_alloc ?_ _ | refine bel_call ?_ (by assumption)))⟩

set_option maxRecDepth 100000 in
set_option maxHeartbeats 1000000 in
theorem searchR_any (A : Option Addr) (n c : Nat) (l : List Rtk) (t : Int) (w : World) (hr : Sl lay_RootKey w (· < w.heap.size) A n c l) (hn : n ≤ 64) (hR : RtUp l) :
    Calls Try.prog 32 #[.slice A n c, .int .u64 t, .func (.func 33) #[] #[]] w fun e w' => ∃ k : Nat, e = .returned (.tuple #[.int .i64 k, .bool (hitF Rtk.Id l t k)]) ∧ AtF Rtk.Id l t k ∧ Below w.heap.size w w' := by
  have HL := hid hr.len
  have hcap := hr.cap
  unfold maxLen at hcap
  have HR := hid (show UpF Rtk.Id l from hR)
  clear hR
  go_enter Try.func32, Try.ntmps32
  go_wp2
  go_loopw [9, 10] (fun u v wr => ∃ i j : Nat, u = .int .i64 i ∧ v = .int .i64 j ∧ EndsF Rtk.Id l t i j ∧ Below w.heap.size w wr) (fun u v _ => (intOf v).toNat - (intOf u).toNat)
  case atStart => exact ⟨0, n, rfl, rfl, ⟨Nat.zero_le _, by rw [HL.out]; exact Nat.le_refl _, fun _ _ h => absurd h (by omega), fun k h1 h2 => by rw [HL.out] at h1; omega⟩, Below.refl _ _⟩
  case round =>
    obtain ⟨i, j, rfl, rfl, he, hbel⟩ := hrel
    have hij := he.1
    have hjn : j ≤ n := by rw [← HL.out]; exact he.2.1
    have HE := hid he
    clear he
    by_cases hlt : i < j
    · have hmj : (i + j) / 2 < j := by omega
      have him : i ≤ (i + j) / 2 := by omega
      obtain ⟨b, off, hx, rfl, hb, h1, h2, h3, hw⟩ := rtk_at hr (j := (i + j) / 2) (by omega)
      have q1 := (hbel.cell (p := ⟨b, off + (i + j) / 2 * 3, none⟩) hb).trans h1
      have q2 := (hbel.cell (p := ⟨b, off + (i + j) / 2 * 3 + 1, none⟩) hb).trans h2
      have q3 := (hbel.cell (p := ⟨b, off + (i + j) / 2 * 3 + 2, none⟩) hb).trans h3
      have wm : IntKind.i64.wrap ((i : Int) + (j : Int)) = (i : Int) + (j : Int) := IntWalk.i64_in _ (by omega)
      clear h1 h2 h3
      have PR := hid (show lay_RootKey.rep wr (fun _ => True) l[(i + j) / 2] #[.int .u64 l[(i + j) / 2].Id, .int .u64 l[(i + j) / 2].Key, .bool l[(i + j) / 2].Gone].toList from rep_RootKey.2 ⟨rfl, hw⟩)
      have HUP := hid (fun hc => HE.out.up HR.out hmj him hx hc)
      have HDN := hid (fun hc => HE.out.down HR.out him hx hc)
      clear hw
      generalize hG : l[(i + j) / 2] = r at *
      clear hG
      go_wp2_with fail
      with_reducible refine (placeOf1_any _ _ r t _ PR.out).mono ?_
      rintro e w2 ⟨rfl, hb2⟩
      have HB := hbel.trans (hb2.mono hbel.size)
      by_cases hc : r.Id < t
      · have hcm : cmpI r.Id t = -1 := by unfold cmpI; rw [if_pos hc]
        have HN := hid (HUP.out hc)
        rw [hcm]
        clear hc hcm
        go_wp2
        go_roundw
        case rel => exact ⟨(i + j) / 2 + 1, j, by go_num, rfl, HN.out, HB⟩
        case measure => simp [intOf]; omega
      · have hcm : decide (cmpI r.Id t < 0) = false := by unfold cmpI; simp [hc]; split <;> omega
        have HN := hid (HDN.out (by omega))
        clear hc
        go_wp2
        go_roundw
        case rel => exact ⟨i, (i + j) / 2, rfl, by go_num, HN.out, HB⟩
        case measure => simp [intOf]; omega
    · obtain rfl : i = j := by omega
      have HA := hid (show AtF Rtk.Id l t i from ⟨HE.out.2.1, HE.out.2.2.1, HE.out.2.2.2⟩)
      by_cases hin : i < n
      · obtain ⟨b, off, hx, rfl, hb, h1, h2, h3, hw⟩ := rtk_at hr (j := i) hin
        have q1 := (hbel.cell (p := ⟨b, off + i * 3, none⟩) hb).trans h1
        have q2 := (hbel.cell (p := ⟨b, off + i * 3 + 1, none⟩) hb).trans h2
        have q3 := (hbel.cell (p := ⟨b, off + i * 3 + 2, none⟩) hb).trans h3
        have PR := hid (show lay_RootKey.rep wr (fun _ => True) l[i] #[.int .u64 l[i].Id, .int .u64 l[i].Key, .bool l[i].Gone].toList from rep_RootKey.2 ⟨rfl, hw⟩)
        have HT := hid (show (cmpI l[i].Id t == 0) = hitF Rtk.Id l t i from by
          rw [hitF_get hx]
          unfold cmpI
          by_cases h : l[i].Id = t
          · simp [h]
          · rw [show (l[i].Id == t) = false from by simpa using h]
            split
            · rfl
            · split
              · rfl
              · omega)
        clear h1 h2 h3 hw
        go_wp2_with fail
        with_reducible refine (placeOf1_any _ _ l[i] t _ PR.out).mono ?_
        rintro e w2 ⟨rfl, hb2⟩
        have HB := hbel.trans (hb2.mono hbel.size)
        generalize cmpI l[i].Id t = cc at *
        go_wp2
        go_ret2
        exact ⟨i, by rw [← HT.out]; rfl, HA.out, HB⟩
      · have hin' : decide ((i : Int) < (n : Int)) = false := by simp; omega
        have HT := hid (show hitF Rtk.Id l t i = false from hitF_out (by rw [HL.out]; omega))
        go_wp2
        go_ret2
        exact ⟨i, by rw [HT.out]; rfl, HA.out, hbel⟩
theorem placeOf_any (A : Option Addr) (n c : Nat) (l : List Rtk) (t : Int) (w : World) (hr : Sl lay_RootKey w (· < w.heap.size) A n c l) (hn : n ≤ 64) (hR : RtUp l) :
    Calls Try.prog 21 #[.slice A n c, .int .u64 t] w fun e w' => ∃ k : Nat, e = .returned (.tuple #[.int .i64 k, .bool (hitF Rtk.Id l t k)]) ∧ AtF Rtk.Id l t k ∧ Below w.heap.size w w' := by
  go_enter Try.func21, Try.ntmps21
  go_wp2_with fail
  with_reducible refine (searchR_any _ _ _ l t _ hr hn hR).mono ?_
  rintro e w2 ⟨k, rfl, hk, hb2⟩
  have HK := hid hk
  clear hk
  obtain ⟨dd, hdd⟩ : ∃ d, hitF Rtk.Id l t k = d := ⟨_, rfl⟩
  rw [hdd]
  have HD := hid hdd
  clear hdd
  go_wp2
  go_ret2
  exact ⟨k, by rw [HD.out]; rfl, HK.out, hb2⟩
end Go.Proofs.Ytlenoiaepanejaa
