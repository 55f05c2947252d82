/-
  Package ledger: the library over channels; channels with holds of their own; where one stands.
-/
import Derived.Test.YtanlpcndbfmkiaaPack1
import Derived.Test.YtanlpcndbfmkiaaPack2
import Derived.Test.YtanlpcndbfmkiaaPack3
import Derived.Test.YtanlpcndbfmkiaaPack4
import Derived.Test.YtanlpcndbfmkiaaPack5
import Derived.Test.YtanlpcndbfmkiaaPack6
import Derived.Test.YtanlpcndbfmkiaaPack7
import Derived.Test.YtanlpcndbfmkiaaPack8
import Derived.Test.YtanlpcndbfmkiaaPack9
import Derived.Test.YtanlpcndbfmkiaaPack10
import Derived.Test.YtanlpcndbfmkiaaPack11
import Derived.Test.YtanlpcndbfmkiaaPack12
import Derived.Test.YtanlpcndbfmkiaaPack13
import Derived.Test.YtanlpcndbfmkiaaPack14
import Derived.Test.YtanlpcndbfmkiaaPack15
import Derived.Test.YtanlpcndbfmkiaaPack16
import Derived.Test.YtanlpcndbfmkiaaPack17
import Derived.Test.YtanlpcndbfmkiaaPack18
import Derived.Test.YtanlpcndbfmkiaaPack19
import Derived.Test.YtanlpcndbfmkiaaPack20
import Derived.Test.YtanlpcndbfmkiaaPack21
import Derived.Test.YtanlpcndbfmkiaaPack22
import Derived.Test.YtanlpcndbfmkiaaPack23
namespace Go.Proofs.Ytanlpcndbfmkiaa
open Go.RowKit Go.WalkArith

theorem Try.infoChL : (Try.prog.info? 26).map (fun i => (i.zero, i.size, i.bytes)) = some (some (.agg #[.int .u64 0, .int .u64 0, .int .u64 0, .int .u64 0, .int .u64 0, .slice none 0 0, .bool false]), lay_Channel.size, 72) := by kernel_rfl
theorem Try.elemChL : Try.prog.elem 22 = 26 := by kernel_rfl

set_option maxHeartbeats 1000000 in
theorem cloneC_any (A : Option Addr) (n c : Nat) (l : List Chn) (w : World) (h : Sl lay_Channel w (· < w.heap.size) A n c l) (hn : n ≤ 1048576) :
    Calls Try.prog 74 #[.slice A n c] w fun e w' => ∃ v', e = .returned v' ∧ OwnL lay_Channel w' w.heap.size none 26 v' l ∧ Below w.heap.size w w' := by
  have hnil := fun W => run_is_nil (P := Try.prog) W 22 26 A n c Try.underlying22
  cases A with
  | none =>
    have hc := h.no rfl
    have hn0 : n = 0 := by have := h.cap; omega
    subst hc hn0
    have hx : l = [] := List.eq_nil_of_length_eq_zero h.len
    subst hx
    go_enter Try.func74, Try.ntmps74
    go_wp2
    go_ret
    exact ⟨_, rfl, OwnL.nil _ _ _ _ _, Below.refl _ _⟩
  | some a =>
    have hb0 : Below w.heap.size w (w.alloc (Obj.cells #[] 26)) := bel_alloc (Below.refl _ _) _
    have HS := hid (h.keep fun _ hp => hb0.cell hp)
    go_enter Try.func74, Try.ntmps74
    go_wp2_with (at_builtin; go_must (refine wpList_catL rfl _ _ 22 rfl w.heap.size none 26 _ 72 Try.underlying22 Try.infoChL rfl (by decide) (.slice (some ⟨w.heap.size, 0, none⟩) 0 0) [] l (· < w.heap.size) (some a) n c rfl rfl (OwnL.empty lay_Channel _ _ none) HS.out (fun b hb => ⟨trivial, Nat.lt_of_lt_of_le hb hb0.size, fun he => by simp [Value.ownBlock] at he; omega⟩) (by simp) (by simp; omega) (by unfold maxLen; simp; omega) ?_; intro v3 w3 hown3 hext3))
    go_ret
    simp only [List.nil_append] at hown3
    exact ⟨_, rfl, hown3, hb0.trans ((OwnL.empty lay_Channel w _ none).below hext3 (by simp))⟩

theorem place1C_any (s : Array Value) (S : Nat → Prop) (r : Chn) (t : Int) (w : World) (hs : lay_Channel.rep w S r s.toList) :
    Calls Try.prog 70 #[.agg s, .int .u64 t] w fun e w' => e = .returned (.int .i64 (cmpI r.Id t)) ∧ Below w.heap.size w w' := by
  obtain ⟨A', n', c', rfl, hw, hh⟩ := agg_Channel hs
  go_enter Try.func70, Try.ntmps70
  go_wp2_with (go_at_call 71; refine (compare_any _ _ _).mono ?_; rintro e w' ⟨rfl, rfl⟩)
  go_ret
  exact ⟨rfl, by (repeat (first | exact Below.refl _ _ | refine Below.drew ?_ | refine bel_drewN ?_ _ | refine bel_alloc ?_ _ | refine bel_call ?_ (by assumption)))⟩

set_option maxRecDepth 100000 in
set_option maxHeartbeats 2000000 in
theorem searchC_any (A : Option Addr) (n c : Nat) (l : List Chn) (t : Int) (w : World) (hr : Sl lay_Channel w (· < w.heap.size) A n c l) (hn : n ≤ 64) (hR : UpF Chn.Id l) :
    Calls Try.prog 69 #[.slice A n c, .int .u64 t, .func (.func 70) #[] #[]] w fun e w' => ∃ k : Nat, e = .returned (.tuple #[.int .i64 k, .bool (hitF Chn.Id l t k)]) ∧ AtF Chn.Id l t k ∧ Below w.heap.size w w' := by
  have HL := hid hr.len
  have hcap := hr.cap
  unfold maxLen at hcap
  have HR := hid (show UpF Chn.Id l from hR)
  clear hR
  go_enter Try.func69, Try.ntmps69
  go_wp2
  go_loopw [9, 10] (fun u v wr => ∃ i j : Nat, u = .int .i64 i ∧ v = .int .i64 j ∧ EndsF Chn.Id l t i j ∧ Below w.heap.size w wr) (fun u v _ => (intOf v).toNat - (intOf u).toNat)
  case atStart => exact ⟨0, n, rfl, rfl, ⟨Nat.zero_le _, by rw [HL.out]; exact Nat.le_refl _, fun _ _ h => absurd h (by omega), fun k h1 h2 => by rw [HL.out] at h1; omega⟩, Below.refl _ _⟩
  case round =>
    obtain ⟨i, j, rfl, rfl, he, hbel⟩ := hrel
    have hij := he.1
    have hjn : j ≤ n := by rw [← HL.out]; exact he.2.1
    have HE := hid he
    clear he
    by_cases hlt : i < j
    · have hmj : (i + j) / 2 < j := by omega
      have him : i ≤ (i + j) / 2 := by omega
      obtain ⟨b, off, A', n', c', hx, rfl, hb, h0, h1, h2, h3, h4, h5, h6, hw, hh⟩ := chn_at hr (j := (i + j) / 2) (by omega)
      have q0 := (hbel.cell (p := ⟨b, off + (i + j) / 2 * 7, none⟩) hb).trans h0
      have q1 := (hbel.cell (p := ⟨b, off + (i + j) / 2 * 7 + 1, none⟩) hb).trans h1
      have q2 := (hbel.cell (p := ⟨b, off + (i + j) / 2 * 7 + 2, none⟩) hb).trans h2
      have q3 := (hbel.cell (p := ⟨b, off + (i + j) / 2 * 7 + 3, none⟩) hb).trans h3
      have q4 := (hbel.cell (p := ⟨b, off + (i + j) / 2 * 7 + 4, none⟩) hb).trans h4
      have q5 := (hbel.cell (p := ⟨b, off + (i + j) / 2 * 7 + 5, none⟩) hb).trans h5
      have q6 := (hbel.cell (p := ⟨b, off + (i + j) / 2 * 7 + 6, none⟩) hb).trans h6
      have wm : IntKind.i64.wrap ((i : Int) + (j : Int)) = (i : Int) + (j : Int) := IntWalk.i64_in _ (by omega)
      clear h0 h1 h2 h3 h4 h5 h6
      have PR := hid (show lay_Channel.rep wr (· < w.heap.size) l[(i + j) / 2] #[.int .u64 l[(i + j) / 2].Id, .int .u64 l[(i + j) / 2].Local, .int .u64 l[(i + j) / 2].Remote, .int .u64 l[(i + j) / 2].Reserve, .int .u64 l[(i + j) / 2].Most, .slice A' n' c', .bool l[(i + j) / 2].Open].toList from rep_Channel.2 ⟨A', n', c', rfl, hw, hh.keep fun _ hp => hbel.cell hp⟩)
      have HUP := hid (fun hc => HE.out.up HR.out hmj him hx hc)
      have HDN := hid (fun hc => HE.out.down HR.out him hx hc)
      clear hw hh
      generalize hG : l[(i + j) / 2] = r at *
      clear hG
      go_wp2_with fail
      with_reducible refine (place1C_any _ _ r t _ PR.out).mono ?_
      rintro e w2 ⟨rfl, hb2⟩
      have HB := hbel.trans (hb2.mono hbel.size)
      by_cases hc : r.Id < t
      · have hcm : cmpI r.Id t = -1 := by unfold cmpI; rw [if_pos hc]
        have HN := hid (HUP.out hc)
        rw [hcm]
        clear hc hcm
        go_wp2
        go_roundw
        case rel => exact ⟨(i + j) / 2 + 1, j, by go_num, rfl, HN.out, HB⟩
        case measure => simp [intOf]; omega
      · have hcm : decide (cmpI r.Id t < 0) = false := by unfold cmpI; simp [hc]; split <;> omega
        have HN := hid (HDN.out (by omega))
        clear hc
        go_wp2
        go_roundw
        case rel => exact ⟨i, (i + j) / 2, rfl, by go_num, HN.out, HB⟩
        case measure => simp [intOf]; omega
    · obtain rfl : i = j := by omega
      have HA := hid (show AtF Chn.Id l t i from ⟨HE.out.2.1, HE.out.2.2.1, HE.out.2.2.2⟩)
      by_cases hin : i < n
      · obtain ⟨b, off, A', n', c', hx, rfl, hb, h0, h1, h2, h3, h4, h5, h6, hw, hh⟩ := chn_at hr (j := i) hin
        have q0 := (hbel.cell (p := ⟨b, off + i * 7, none⟩) hb).trans h0
        have q1 := (hbel.cell (p := ⟨b, off + i * 7 + 1, none⟩) hb).trans h1
        have q2 := (hbel.cell (p := ⟨b, off + i * 7 + 2, none⟩) hb).trans h2
        have q3 := (hbel.cell (p := ⟨b, off + i * 7 + 3, none⟩) hb).trans h3
        have q4 := (hbel.cell (p := ⟨b, off + i * 7 + 4, none⟩) hb).trans h4
        have q5 := (hbel.cell (p := ⟨b, off + i * 7 + 5, none⟩) hb).trans h5
        have q6 := (hbel.cell (p := ⟨b, off + i * 7 + 6, none⟩) hb).trans h6
        have PR := hid (show lay_Channel.rep wr (· < w.heap.size) l[i] #[.int .u64 l[i].Id, .int .u64 l[i].Local, .int .u64 l[i].Remote, .int .u64 l[i].Reserve, .int .u64 l[i].Most, .slice A' n' c', .bool l[i].Open].toList from rep_Channel.2 ⟨A', n', c', rfl, hw, hh.keep fun _ hp => hbel.cell hp⟩)
        have HT := hid (show (cmpI l[i].Id t == 0) = hitF Chn.Id l t i from by
          rw [hitF_get hx]
          unfold cmpI
          by_cases h : l[i].Id = t
          · simp [h]
          · rw [show (l[i].Id == t) = false from by simpa using h]
            split
            · rfl
            · split
              · rfl
              · omega)
        clear h0 h1 h2 h3 h4 h5 h6 hw hh
        go_wp2_with fail
        with_reducible refine (place1C_any _ _ l[i] t _ PR.out).mono ?_
        rintro e w2 ⟨rfl, hb2⟩
        have HB := hbel.trans (hb2.mono hbel.size)
        generalize cmpI l[i].Id t = cc at *
        go_wp2
        go_ret2
        exact ⟨i, by rw [← HT.out]; rfl, HA.out, HB⟩
      · have hin' : decide ((i : Int) < (n : Int)) = false := by simp; omega
        have HT := hid (show hitF Chn.Id l t i = false from hitF_out (by rw [HL.out]; omega))
        go_wp2
        go_ret2
        exact ⟨i, by rw [HT.out]; rfl, HA.out, hbel⟩
theorem placeC_any (A : Option Addr) (n c : Nat) (l : List Chn) (t : Int) (w : World) (hr : Sl lay_Channel w (· < w.heap.size) A n c l) (hn : n ≤ 64) (hR : UpF Chn.Id l) :
    Calls Try.prog 37 #[.slice A n c, .int .u64 t] w fun e w' => ∃ k : Nat, e = .returned (.tuple #[.int .i64 k, .bool (hitF Chn.Id l t k)]) ∧ AtF Chn.Id l t k ∧ Below w.heap.size w w' := by
  go_enter Try.func37, Try.ntmps37
  go_wp2_with fail
  with_reducible refine (searchC_any _ _ _ l t _ hr hn hR).mono ?_
  rintro e w2 ⟨k, rfl, hk, hb2⟩
  have HK := hid hk
  clear hk
  obtain ⟨dd, hdd⟩ : ∃ d, hitF Chn.Id l t k = d := ⟨_, rfl⟩
  rw [hdd]
  have HD := hid hdd
  clear hdd
  go_wp2
  go_ret2
  exact ⟨k, by rw [HD.out]; rfl, HK.out, hb2⟩

set_option maxRecDepth 100000 in
set_option maxHeartbeats 1000000 in
theorem eqFuncC_any (A1 A2 : Option Addr) (n1 c1 n2 c2 : Nat) (l o : List Chn) (w : World) (h1 : Sl lay_Channel w (· < w.heap.size) A1 n1 c1 l) (h2 : Sl lay_Channel w (· < w.heap.size) A2 n2 c2 o) :
    Calls Try.prog 67 #[.slice A1 n1 c1, .slice A2 n2 c2, .func (.func 34) #[] #[]] w fun e w' => e = .returned (.bool (decide (l = o))) ∧ Below w.heap.size w w' := by
  have K1 := hid h1.len
  have K2 := hid h2.len
  have k1 := h1.cap
  have k2 := h2.cap
  unfold maxLen at k1 k2
  by_cases hl : n1 = n2
  · subst hl
    have hne : ((n1 : Int) != (n1 : Int)) = false := by simp
    go_enter Try.func67, Try.ntmps67
    go_wp2
    go_loopw [17] (fun i wr => ∃ j : Nat, j ≤ n1 ∧ i = .int .i64 j ∧ l.take j = o.take j ∧ Below w.heap.size w wr) (fun i _ => n1 - (intOf i).toNat)
    case atStart => exact ⟨0, Nat.zero_le _, rfl, rfl, Below.refl _ _⟩
    case round =>
      obtain ⟨j, hj, rfl, hpre, hbel⟩ := hrel
      have HP := hid hpre
      clear hpre
      by_cases hlt : j < n1
      · obtain ⟨b1, o1, A', n', c', hx1, rfl, hb1, t10, t11, t12, t13, t14, t15, t16, e1, hV1⟩ := chn_at h1 hlt
        obtain ⟨b2, o2, A'', n'', c'', hx2, rfl, hb2, t20, t21, t22, t23, t24, t25, t26, e2, hV2⟩ := chn_at h2 hlt
        have q10 := (hbel.cell (p := ⟨b1, o1 + j * 7, none⟩) hb1).trans t10
        have q11 := (hbel.cell (p := ⟨b1, o1 + j * 7 + 1, none⟩) hb1).trans t11
        have q12 := (hbel.cell (p := ⟨b1, o1 + j * 7 + 2, none⟩) hb1).trans t12
        have q13 := (hbel.cell (p := ⟨b1, o1 + j * 7 + 3, none⟩) hb1).trans t13
        have q14 := (hbel.cell (p := ⟨b1, o1 + j * 7 + 4, none⟩) hb1).trans t14
        have q15 := (hbel.cell (p := ⟨b1, o1 + j * 7 + 5, none⟩) hb1).trans t15
        have q16 := (hbel.cell (p := ⟨b1, o1 + j * 7 + 6, none⟩) hb1).trans t16
        have q20 := (hbel.cell (p := ⟨b2, o2 + j * 7, none⟩) hb2).trans t20
        have q21 := (hbel.cell (p := ⟨b2, o2 + j * 7 + 1, none⟩) hb2).trans t21
        have q22 := (hbel.cell (p := ⟨b2, o2 + j * 7 + 2, none⟩) hb2).trans t22
        have q23 := (hbel.cell (p := ⟨b2, o2 + j * 7 + 3, none⟩) hb2).trans t23
        have q24 := (hbel.cell (p := ⟨b2, o2 + j * 7 + 4, none⟩) hb2).trans t24
        have q25 := (hbel.cell (p := ⟨b2, o2 + j * 7 + 5, none⟩) hb2).trans t25
        have q26 := (hbel.cell (p := ⟨b2, o2 + j * 7 + 6, none⟩) hb2).trans t26
        have hg1 : b1 < wr.heap.size := Nat.lt_of_lt_of_le hb1 hbel.size
        have hg2 : b2 < wr.heap.size := Nat.lt_of_lt_of_le hb2 hbel.size
        have hbb := (hbel.alloc hbel.size (Obj.cells #[.int .u64 l[j].Id, .int .u64 l[j].Local, .int .u64 l[j].Remote, .int .u64 l[j].Reserve, .int .u64 l[j].Most, .slice A' n' c', .bool l[j].Open] 26)).alloc (by have := hbel.size; simp; omega) (Obj.cells #[.int .u64 o[j].Id, .int .u64 o[j].Local, .int .u64 o[j].Remote, .int .u64 o[j].Reserve, .int .u64 o[j].Most, .slice A'' n'' c'', .bool o[j].Open] 26)
        have P1 := hid (show lay_Channel.rep _ (· < w.heap.size) l[j] #[.int .u64 l[j].Id, .int .u64 l[j].Local, .int .u64 l[j].Remote, .int .u64 l[j].Reserve, .int .u64 l[j].Most, .slice A' n' c', .bool l[j].Open].toList from rep_Channel.2 ⟨A', n', c', rfl, e1, hV1.keep fun _ hp => hbb.cell hp⟩)
        have P2 := hid (show lay_Channel.rep _ (· < w.heap.size) o[j] #[.int .u64 o[j].Id, .int .u64 o[j].Local, .int .u64 o[j].Remote, .int .u64 o[j].Reserve, .int .u64 o[j].Most, .slice A'' n'' c'', .bool o[j].Open].toList from rep_Channel.2 ⟨A'', n'', c'', rfl, e2, hV2.keep fun _ hp => hbb.cell hp⟩)
        have HS := hid (fun (b : Nat) (h : b < w.heap.size) => Nat.lt_of_lt_of_le h hbb.size)
        clear t10 t11 t12 t13 t14 t15 t16 t20 t21 t22 t23 t24 t25 t26 hV1 hV2 e1 e2
        by_cases he : l[j] = o[j]
        · have HN := hid (take_same_any hx1 hx2 HP.out he)
          have HD := hid (decide_eq_true he)
          clear he
          go_wp2_with fail
          with_reducible refine (cSame_any _ _ l[j] o[j] _ (lay_Channel.wide P1.out HS.out) (lay_Channel.wide P2.out HS.out)).mono ?_
          rw [HD.out]
          rintro e w2 ⟨rfl, hb2⟩
          go_wp2
          go_roundw
          case rel => exact ⟨j + 1, by omega, by go_num, HN.out, hbb.trans (hb2.mono hbb.size)⟩
          case measure => simp [intOf]; omega
        · have HN := hid (show decide (l = o) = false from decide_eq_false fun e => he (by simp only [e]))
          have HD := hid (decide_eq_false he)
          clear he
          go_wp2_with fail
          with_reducible refine (cSame_any _ _ l[j] o[j] _ (lay_Channel.wide P1.out HS.out) (lay_Channel.wide P2.out HS.out)).mono ?_
          rw [HD.out]
          rintro e w2 ⟨rfl, hb2⟩
          go_wp2
          go_ret
          exact ⟨ret_bool HN.out.symm, hbb.trans (hb2.mono hbb.size)⟩
      · have HN := hid (show decide (l = o) = true from by
          have := HP.out
          rw [List.take_of_length_le (by rw [K1.out]; omega), List.take_of_length_le (by rw [K2.out]; omega)] at this
          exact decide_eq_true this)
        go_wp2
        go_ret
        exact ⟨ret_bool HN.out.symm, hbel⟩
  · have hne : ((n1 : Int) != (n2 : Int)) = true := by simp; omega
    have HN := hid (show decide (l = o) = false from decide_eq_false fun e => by rw [e] at K1; have a1 := K1.out; have a2 := K2.out; omega)
    go_enter Try.func67, Try.ntmps67
    go_wp2
    go_ret
    exact ⟨ret_bool HN.out.symm, Below.refl _ _⟩

set_option maxHeartbeats 1000000 in
theorem lSame_any (A1 A2 : Option Addr) (n1 c1 n2 c2 : Nat) (l o : List Chn) (w : World) (h1 : Sl lay_Channel w (· < w.heap.size) A1 n1 c1 l) (h2 : Sl lay_Channel w (· < w.heap.size) A2 n2 c2 o) :
    Calls Try.prog 32 #[.slice A1 n1 c1, .slice A2 n2 c2] w fun e w' => e = .returned (.bool (decide (l = o))) ∧ Below w.heap.size w w' := by
  go_enter Try.func32, Try.ntmps32
  go_wp2_with fail
  with_reducible refine (eqFuncC_any A1 A2 n1 c1 n2 c2 l o w h1 h2).mono ?_
  rintro e w1 ⟨rfl, hb1⟩
  go_wp2
  go_ret
  exact ⟨rfl, hb1⟩

set_option maxRecDepth 100000 in
set_option maxHeartbeats 4000000 in
/-- The channel with holds of its own. -/
theorem copyOf_any (s : Array Value) (c : Chn) (w : World) (r : lay_Channel.rep w (· < w.heap.size) c s.toList) (hn : c.Holds.length ≤ 1048576) :
    Calls Try.prog 40 #[.agg s] w fun e w' => ∃ v, e = .returned v ∧ OwnC w' w.heap.size v c ∧ Below w.heap.size w w' := by
  obtain ⟨A, n, k, rfl, hw, hs⟩ := agg_Channel r
  clear r
  have HL := hid hs.len
  have hcap := hs.cap
  unfold maxLen at hcap
  rw [HL.out] at hn
  have hb0 : Below w.heap.size w ((w.alloc (Obj.cells #[.int .u64 c.Id, .int .u64 c.Local, .int .u64 c.Remote, .int .u64 c.Reserve, .int .u64 c.Most, .slice A n k, .bool c.Open] 26)).alloc (Obj.cells #[.int .u64 0, .int .u64 0, .int .u64 0, .int .u64 0, .int .u64 0, .slice none 0 0, .bool false] 26)) := bel_alloc (bel_alloc (Below.refl _ _) _) _
  have BC : BoxC ((w.alloc (Obj.cells #[.int .u64 c.Id, .int .u64 c.Local, .int .u64 c.Remote, .int .u64 c.Reserve, .int .u64 c.Most, .slice A n k, .bool c.Open] 26)).alloc (Obj.cells #[.int .u64 0, .int .u64 0, .int .u64 0, .int .u64 0, .int .u64 0, .slice none 0 0, .bool false] 26)) w.heap.size c A n k := heap_alloc2_old _ _ _
  have BR : BoxC ((w.alloc (Obj.cells #[.int .u64 c.Id, .int .u64 c.Local, .int .u64 c.Remote, .int .u64 c.Reserve, .int .u64 c.Most, .slice A n k, .bool c.Open] 26)).alloc (Obj.cells #[.int .u64 0, .int .u64 0, .int .u64 0, .int .u64 0, .int .u64 0, .slice none 0 0, .bool false] 26)) (w.heap.size + 1) zeroCh none 0 0 := alloc2_new _ _ _
  have HZ := hid (show ((w.alloc (Obj.cells #[.int .u64 c.Id, .int .u64 c.Local, .int .u64 c.Remote, .int .u64 c.Reserve, .int .u64 c.Most, .slice A n k, .bool c.Open] 26)).alloc (Obj.cells #[.int .u64 0, .int .u64 0, .int .u64 0, .int .u64 0, .int .u64 0, .slice none 0 0, .bool false] 26)).heap.size = w.heap.size + 2 from by simp)
  have S0 := Sl.call hs hb0
  go_enter Try.func40, Try.ntmps40
  go_upto_region 1 with (fail)
  generalize ((w.alloc (Obj.cells #[.int .u64 c.Id, .int .u64 c.Local, .int .u64 c.Remote, .int .u64 c.Reserve, .int .u64 c.Most, .slice A n k, .bool c.Open] 26)).alloc (Obj.cells #[.int .u64 0, .int .u64 0, .int .u64 0, .int .u64 0, .int .u64 0, .slice none 0 0, .bool false] 26)) = W0 at *
  obtain ⟨p0, p1, p2, p3, p4, p5, p6⟩ := BC.all
  go_wp2_with fail
  with_reducible refine (cloneH_any A n k c.Holds W0 S0 (by omega)).mono ?_
  rintro e w6 ⟨v6, rfl, ho6', hb6⟩
  have ho6 := ho6'.hld W0.heap.size
  obtain ⟨A7, n7, c7, rfl, hs7⟩ := ho6.read
  have BC6 := BC.call hb6
  have BR6 := BR.call hb6
  have HB6 := bel_call hb0 hb6
  have BC8 : BoxC (w6.setCell ⟨w.heap.size, 5, none⟩ (.slice A7 n7 c7)) w.heap.size c A7 n7 c7 := BC6.setHol A7 n7 c7
  have BR8 := BR6.setOther (b := w.heap.size) (by omega) 5 (.slice A7 n7 c7)
  have HB8 := HB6.setCell (p := ⟨w.heap.size, 5, none⟩) (Nat.le_refl _) (.slice A7 n7 c7)
  have HO8 := ho6.setLow (b := w.heap.size) (by rw [HZ.out]; omega) (by rw [HZ.out]; omega) 5 (.slice A7 n7 c7)
  clear p0 p1 p2 p3 p4 p5 p6
  have y5 := BC6.all.2.2.2.2.2.1
  have g5 := BC6.f 5
  clear BC BR ho6 ho6' hb6 hs7 HB6 BR6 BC6 hb0 S0
  go_upto_region 2 with (fail)
  clear y5 g5
  generalize w6.setCell ⟨w.heap.size, 5, none⟩ (.slice A7 n7 c7) = W8 at *
  have B9 := hid (BR8.set c A7 n7 c7)
  have HB9 := hid (Below.setBox HB8 (g := w.heap.size + 1) (Nat.le_succ _) c A7 n7 c7)
  have HO9 := hid ((OwnL.setBox HO8 (g := w.heap.size + 1) (by rw [HZ.out]; omega) c A7 n7 c7).lows (base' := w.heap.size) (lo' := w.heap.size) (by rw [HZ.out]; omega) (by rw [HZ.out]; omega))
  obtain ⟨p0, p1, p2, p3, p4, p5, p6⟩ := BC8.all
  obtain ⟨z0, z1, z2, z3, z4, z5, z6⟩ := BR8.all
  have f0 := BR8.f 0
  have f1 := BR8.f 1
  have f2 := BR8.f 2
  have f3 := BR8.f 3
  have f4 := BR8.f 4
  have f5 := BR8.f 5
  have f6 := BR8.f 6
  clear BC8 BR8 HB8 HO8
  go_wp2
  refine bodyPost_ret_by (results_c rfl _ _ (w.heap.size + 1) 0 rfl [.int .u64 c.Id, .int .u64 c.Local, .int .u64 c.Remote, .int .u64 c.Reserve, .int .u64 c.Most, .slice A7 n7 c7, .bool c.Open] _ (range7 B9.out) Try.underlying26 rfl (by kernel_rfl)) rfl ?_
  exact ⟨_, rfl, ⟨_, rfl, HO9.out⟩, HB9.out⟩

theorem setFrom7 (w : World) (g i : Nat) (a b c d e f h : Value) : setFrom w g i [a, b, c, d, e, f, h] = ((((((w.setCell ⟨g, i, none⟩ a).setCell ⟨g, i + 1, none⟩ b).setCell ⟨g, i + 2, none⟩ c).setCell ⟨g, i + 3, none⟩ d).setCell ⟨g, i + 4, none⟩ e).setCell ⟨g, i + 5, none⟩ f).setCell ⟨g, i + 6, none⟩ h := rfl

set_option maxRecDepth 100000 in
set_option maxHeartbeats 4000000 in
/-- Channels with holds of their own. -/
theorem copies_any (A : Option Addr) (n k : Nat) (l : List Chn) (w : World) (h : Sl lay_Channel w (· < w.heap.size) A n k l) (hn : n ≤ 1048576) (hh : ∀ c ∈ l, c.Holds.length ≤ 1048576) :
    Calls Try.prog 39 #[.slice A n k] w fun e w' => ∃ v, e = .returned v ∧ OwnL lay_Channel w' w.heap.size (some w.heap.size) 26 v l ∧ Below w.heap.size w w' := by
  have HL := hid h.len
  have HH := hid hh
  clear hh
  go_enter Try.func39, Try.ntmps39
  go_wp2_with fail
  with_reducible refine (cloneC_any A n k l w h hn).mono ?_
  rintro e w1 ⟨v1, rfl, ho1, hb1⟩
  obtain ⟨A1, n1, c1, rfl, hs1⟩ := ho1.read
  obtain rfl : n1 = n := by rw [← hs1.len, HL.out]
  have HM := hid (ho1.mixV w.heap.size)
  have hcap := hs1.cap
  unfold maxLen at hcap
  clear hs1 ho1
  go_wp2
  go_loopw [10] (fun i wr => ∃ j : Nat, j ≤ n1 ∧ i = .int .i64 j ∧ MixV lay_Channel wr w.heap.size w.heap.size 26 A1 n1 c1 l j ∧ Below w.heap.size w wr) (fun i _ => n1 - (intOf i).toNat)
  case atStart => exact ⟨0, Nat.zero_le _, rfl, HM.out, hb1⟩
  case round =>
    obtain ⟨j, hj, rfl, hm, hbel⟩ := hrel
    by_cases hlt : j < n1
    · rcases hm with ⟨-, h0, -, -⟩ | ⟨g, rfl, hm⟩
      · omega
      obtain ⟨cs, hx, hr, hc, -⟩ := hm.elem hlt
      obtain ⟨A', n', c', rfl, hw, hs⟩ := rep_Channel.1 hr
      have k0 : wr.cell? ⟨g, j * 7, none⟩ = some (.int .u64 l[j].Id) := hc 0 _ rfl
      have k1 : wr.cell? ⟨g, j * 7 + 1, none⟩ = some (.int .u64 l[j].Local) := hc 1 _ rfl
      have k2 : wr.cell? ⟨g, j * 7 + 2, none⟩ = some (.int .u64 l[j].Remote) := hc 2 _ rfl
      have k3 : wr.cell? ⟨g, j * 7 + 3, none⟩ = some (.int .u64 l[j].Reserve) := hc 3 _ rfl
      have k4 : wr.cell? ⟨g, j * 7 + 4, none⟩ = some (.int .u64 l[j].Most) := hc 4 _ rfl
      have k5 : wr.cell? ⟨g, j * 7 + 5, none⟩ = some (.slice A' n' c') := hc 5 _ rfl
      have k6 : wr.cell? ⟨g, j * 7 + 6, none⟩ = some (.bool l[j].Open) := hc 6 _ rfl
      have hba := bel_alloc (Below.refl wr.heap.size wr) (Obj.cells #[.int .u64 l[j].Id, .int .u64 l[j].Local, .int .u64 l[j].Remote, .int .u64 l[j].Reserve, .int .u64 l[j].Most, .slice A' n' c', .bool l[j].Open] 26)
      have PR := hid (chan_in hw (hs.wide fun b hb => hb.2.1) hba)
      have hle : l[j].Holds.length ≤ 1048576 := HH.out _ (List.getElem_mem hx)
      have HW := hid hw
      have HMM := hid hm
      clear hc hr hs hw hm
      have hsz := hbel.size
      go_wp2_with fail
      with_reducible refine (copyOf_any _ l[j] _ PR.out hle).mono ?_
      rintro e w2 ⟨v2, rfl, ⟨u, rfl, ho⟩, hb2⟩
      have HBB := bel_call hba hb2
      obtain ⟨Au, nu, cu, rfl, hsu⟩ := ho.sl (low := wr.heap.size) (by simp) (by simp)
      have hm2 := HMM.out.keep HBB
      have hg := HMM.out.lt
      have HR := hid (show lay_Channel.rep w2 (Els w2 (some w.heap.size) (.slice (some ⟨g, 0, none⟩) n1 c1)) l[j] [.int .u64 l[j].Id, .int .u64 l[j].Local, .int .u64 l[j].Remote, .int .u64 l[j].Reserve, .int .u64 l[j].Most, .slice Au nu cu, .bool l[j].Open] from rep_Channel.2 ⟨Au, nu, cu, rfl, HW.out, hsu.wide fun b hb => ⟨⟨Nat.le_trans hsz hb.1, hb.2.2⟩, hb.2.1, fun e => by
        have h1 := hb.1
        have h2 := hg.2
        simp [Value.ownBlock] at e
        omega⟩⟩)
      have HM9 := hid (hm2.all_ hlt hx HR.out)
      rw [size_lay_Channel, setFrom7] at HM9
      have HB9 := hid (Below.all_ hg.1 [.int .u64 l[j].Id, .int .u64 l[j].Local, .int .u64 l[j].Remote, .int .u64 l[j].Reserve, .int .u64 l[j].Most, .slice Au nu cu, .bool l[j].Open] (j * 7) w2 (hbel.trans (HBB.mono hsz)))
      rw [setFrom7] at HB9
      obtain ⟨cs2, hx2, hr2, hc2, hf2⟩ := hm2.elem hlt
      obtain ⟨A'', n'', c'', rfl, -, -⟩ := rep_Channel.1 hr2
      have y0 : w2.cell? ⟨g, j * 7, none⟩ = some (.int .u64 l[j].Id) := hc2 0 _ rfl
      have f0 := hf2 (j * 7)
      have y1 : w2.cell? ⟨g, j * 7 + 1, none⟩ = some (.int .u64 l[j].Local) := hc2 1 _ rfl
      have f1 := hf2 (j * 7 + 1)
      have y2 : w2.cell? ⟨g, j * 7 + 2, none⟩ = some (.int .u64 l[j].Remote) := hc2 2 _ rfl
      have f2 := hf2 (j * 7 + 2)
      have y3 : w2.cell? ⟨g, j * 7 + 3, none⟩ = some (.int .u64 l[j].Reserve) := hc2 3 _ rfl
      have f3 := hf2 (j * 7 + 3)
      have y4 : w2.cell? ⟨g, j * 7 + 4, none⟩ = some (.int .u64 l[j].Most) := hc2 4 _ rfl
      have f4 := hf2 (j * 7 + 4)
      have y5 : w2.cell? ⟨g, j * 7 + 5, none⟩ = some (.slice A'' n'' c'') := hc2 5 _ rfl
      have f5 := hf2 (j * 7 + 5)
      have y6 : w2.cell? ⟨g, j * 7 + 6, none⟩ = some (.bool l[j].Open) := hc2 6 _ rfl
      have f6 := hf2 (j * 7 + 6)
      clear hc2 hf2 hr2 hm2 ho hsu hb2 hba HBB
      go_wp2
      go_roundw
      case rel => exact ⟨j + 1, by omega, by go_num, .inr ⟨g, rfl, HM9.out⟩, HB9.out⟩
      case measure => simp [intOf]; omega
    · have hjn : j = n1 := by omega
      rw [hjn] at hm
      have HO := hid hm.own
      go_wp2
      go_ret
      exact ⟨_, rfl, HO.out, hbel⟩
end Go.Proofs.Ytanlpcndbfmkiaa
