/-
  Package channel: the library over holds; where a hold stands; all holds together.
-/
import Derived.DeepKeys4
import Derived.Deep.QuietTactic
import Derived.Deep.RegionHeld3
import Derived.Test.YtanlpcndbfmkiaaPack1
import Derived.Test.YtanlpcndbfmkiaaPack2
import Derived.Test.YtanlpcndbfmkiaaPack3
import Derived.Test.YtanlpcndbfmkiaaPack4
import Derived.Test.YtanlpcndbfmkiaaPack5
import Derived.Test.YtanlpcndbfmkiaaPack6
import Derived.Test.YtanlpcndbfmkiaaPack7
import Derived.Test.YtanlpcndbfmkiaaPack8
import Derived.Test.YtanlpcndbfmkiaaPack9
import Derived.Test.YtanlpcndbfmkiaaPack10
import Derived.Test.YtanlpcndbfmkiaaPack11
import Derived.Test.YtanlpcndbfmkiaaPack12
import Derived.Test.YtanlpcndbfmkiaaPack13
import Derived.Test.YtanlpcndbfmkiaaPack14
import Derived.Test.YtanlpcndbfmkiaaPack15
import Derived.Test.YtanlpcndbfmkiaaPack16
namespace Go.Proofs.Ytanlpcndbfmkiaa
open Go.RowKit Go.WalkArith

theorem Try.elemHld : Try.prog.elem 24 = 41 := by kernel_rfl
theorem flat_Hld (w : World) (S S' : Nat → Prop) (a : Hld) (c : List Value) (h : lay_Hold.rep w S a c) : lay_Hold.rep w S' a c := rep_Hold.2 (rep_Hold.1 h)

set_option maxRecDepth 100000 in
set_option maxHeartbeats 2000000 in
theorem equalH_any (A1 A2 : Option Addr) (n1 c1 n2 c2 : Nat) (S : Nat → Prop) (l o : List Hld) (w : World) (h1 : Sl lay_Hold w S A1 n1 c1 l) (h2 : Sl lay_Hold w S A2 n2 c2 o) :
    Calls Try.prog 68 #[.slice A1 n1 c1, .slice A2 n2 c2] w fun e w' => e = .returned (.bool (decide (l = o))) ∧ ∃ m, w' = w.drewN m := by
  have K1 := hid h1.len
  have K2 := hid h2.len
  have k1 := h1.cap
  have k2 := h2.cap
  unfold maxLen at k1 k2
  by_cases hl : n1 = n2
  · subst hl
    have hne : ((n1 : Int) != (n1 : Int)) = false := by simp
    go_enter Try.func68, Try.ntmps68
    go_wp2
    go_loopw [13] (fun i wr => ∃ j : Nat, j ≤ n1 ∧ i = .int .i64 j ∧ l.take j = o.take j ∧ ∃ m, wr = w.drewN m) (fun i _ => n1 - (intOf i).toNat)
    case atStart => exact ⟨0, Nat.zero_le _, rfl, rfl, 0, rfl⟩
    case round =>
      obtain ⟨j, hj, rfl, hpre, m, hwr⟩ := hrel
      have HP := hid hpre
      have HW := hid hwr
      clear hpre hwr
      by_cases hlt : j < n1
      · obtain ⟨b1, o1, hx1, rfl, -, t0, t1, w1⟩ := hld_at h1 hlt
        obtain ⟨b2, o2, hx2, rfl, -, u0, u1, w2⟩ := hld_at h2 hlt
        have hne2 := run_neHld w1 w2
        clear w1 w2
        have q0 : wr.cell? ⟨b1, o1 + j * 2, none⟩ = some (.int .u64 l[j].Id) := by rw [HW.out]; exact t0
        have q1 : wr.cell? ⟨b1, o1 + j * 2 + 1, none⟩ = some (.int .u64 l[j].N) := by rw [HW.out]; exact t1
        have p0 : wr.cell? ⟨b2, o2 + j * 2, none⟩ = some (.int .u64 o[j].Id) := by rw [HW.out]; exact u0
        have p1 : wr.cell? ⟨b2, o2 + j * 2 + 1, none⟩ = some (.int .u64 o[j].N) := by rw [HW.out]; exact u1
        clear t0 u0 t1 u1
        by_cases he : l[j] = o[j]
        · have HN := hid (take_same_any hx1 hx2 HP.out he)
          rw [decide_eq_true he] at hne2
          clear he
          go_wp2_with fail
          go_quiet (fail)
          go_wp2
          go_roundw
          case rel => exact ⟨j + 1, by omega, by go_num, HN.out, m + _, by rw [HW.out]; exact drew_add_any w m _⟩
          case measure => simp [intOf]; omega
        · have HN := hid (show decide (l = o) = false from decide_eq_false fun e => he (by simp only [e]))
          rw [decide_eq_false he] at hne2
          clear he
          go_wp2_with fail
          go_quiet (fail)
          go_wp2
          go_ret
          exact ⟨ret_bool HN.out.symm, m + _, by rw [HW.out]; exact drew_add_any w m _⟩
      · have HN := hid (show decide (l = o) = true from by
          have := HP.out
          rw [List.take_of_length_le (by rw [K1.out]; omega), List.take_of_length_le (by rw [K2.out]; omega)] at this
          exact decide_eq_true this)
        go_wp2
        go_ret
        exact ⟨ret_bool HN.out.symm, m, HW.out⟩
  · have hne : ((n1 : Int) != (n2 : Int)) = true := by simp; omega
    have HN := hid (show decide (l = o) = false from decide_eq_false fun e => by rw [e] at K1; have a1 := K1.out; have a2 := K2.out; omega)
    go_enter Try.func68, Try.ntmps68
    go_wp2
    go_ret
    exact ⟨ret_bool HN.out.symm, 0, rfl⟩

theorem place1H_any (s : Array Value) (S : Nat → Prop) (r : Hld) (t : Int) (w : World) (hs : lay_Hold.rep w S r s.toList) :
    Calls Try.prog 94 #[.agg s, .int .u64 t] w fun e w' => e = .returned (.int .i64 (cmpI r.Id t)) ∧ Below w.heap.size w w' := by
  obtain ⟨rfl, hw⟩ := agg_Hold hs
  go_enter Try.func94, Try.ntmps94
  go_wp2_with (go_at_call 71; refine (compare_any _ _ _).mono ?_; rintro e w' ⟨rfl, rfl⟩)
  go_ret
  exact ⟨rfl, by (repeat (first | exact Below.refl _ _ | refine Below.drew ?_ | refine bel_drewN ?_ _ | refine bel_alloc ?_ _ | refine bel_call ?_ (by assumption)))⟩

set_option maxRecDepth 100000 in
set_option maxHeartbeats 2000000 in
theorem searchH_any (A : Option Addr) (n c : Nat) (l : List Hld) (t : Int) (w : World) (hr : Sl lay_Hold w (· < w.heap.size) A n c l) (hn : n ≤ 64) (hR : UpF Hld.Id l) :
    Calls Try.prog 93 #[.slice A n c, .int .u64 t, .func (.func 94) #[] #[]] w fun e w' => ∃ k : Nat, e = .returned (.tuple #[.int .i64 k, .bool (hitF Hld.Id l t k)]) ∧ AtF Hld.Id l t k ∧ Below w.heap.size w w' := by
  have HL := hid hr.len
  have hcap := hr.cap
  unfold maxLen at hcap
  have HR := hid (show UpF Hld.Id l from hR)
  clear hR
  go_enter Try.func93, Try.ntmps93
  go_wp2
  go_loopw [9, 10] (fun u v wr => ∃ i j : Nat, u = .int .i64 i ∧ v = .int .i64 j ∧ EndsF Hld.Id l t i j ∧ Below w.heap.size w wr) (fun u v _ => (intOf v).toNat - (intOf u).toNat)
  case atStart => exact ⟨0, n, rfl, rfl, ⟨Nat.zero_le _, by rw [HL.out]; exact Nat.le_refl _, fun _ _ h => absurd h (by omega), fun k h1 h2 => by rw [HL.out] at h1; omega⟩, Below.refl _ _⟩
  case round =>
    obtain ⟨i, j, rfl, rfl, he, hbel⟩ := hrel
    have hij := he.1
    have hjn : j ≤ n := by rw [← HL.out]; exact he.2.1
    have HE := hid he
    clear he
    by_cases hlt : i < j
    · have hmj : (i + j) / 2 < j := by omega
      have him : i ≤ (i + j) / 2 := by omega
      obtain ⟨b, off, hx, rfl, hb, h0, h1, hw⟩ := hld_at hr (j := (i + j) / 2) (by omega)
      have q0 := (hbel.cell (p := ⟨b, off + (i + j) / 2 * 2, none⟩) hb).trans h0
      have q1 := (hbel.cell (p := ⟨b, off + (i + j) / 2 * 2 + 1, none⟩) hb).trans h1
      have wm : IntKind.i64.wrap ((i : Int) + (j : Int)) = (i : Int) + (j : Int) := IntWalk.i64_in _ (by omega)
      clear h0 h1
      have PR := hid (show lay_Hold.rep wr (fun _ => True) l[(i + j) / 2] #[.int .u64 l[(i + j) / 2].Id, .int .u64 l[(i + j) / 2].N].toList from rep_Hold.2 ⟨rfl, hw⟩)
      have HUP := hid (fun hc => HE.out.up HR.out hmj him hx hc)
      have HDN := hid (fun hc => HE.out.down HR.out him hx hc)
      clear hw
      generalize hG : l[(i + j) / 2] = r at *
      clear hG
      go_wp2_with fail
      with_reducible refine (place1H_any _ _ r t _ PR.out).mono ?_
      rintro e w2 ⟨rfl, hb2⟩
      have HB := hbel.trans (hb2.mono hbel.size)
      by_cases hc : r.Id < t
      · have hcm : cmpI r.Id t = -1 := by unfold cmpI; rw [if_pos hc]
        have HN := hid (HUP.out hc)
        rw [hcm]
        clear hc hcm
        go_wp2
        go_roundw
        case rel => exact ⟨(i + j) / 2 + 1, j, by go_num, rfl, HN.out, HB⟩
        case measure => simp [intOf]; omega
      · have hcm : decide (cmpI r.Id t < 0) = false := by unfold cmpI; simp [hc]; split <;> omega
        have HN := hid (HDN.out (by omega))
        clear hc
        go_wp2
        go_roundw
        case rel => exact ⟨i, (i + j) / 2, rfl, by go_num, HN.out, HB⟩
        case measure => simp [intOf]; omega
    · obtain rfl : i = j := by omega
      have HA := hid (show AtF Hld.Id l t i from ⟨HE.out.2.1, HE.out.2.2.1, HE.out.2.2.2⟩)
      by_cases hin : i < n
      · obtain ⟨b, off, hx, rfl, hb, h0, h1, hw⟩ := hld_at hr (j := i) hin
        have q0 := (hbel.cell (p := ⟨b, off + i * 2, none⟩) hb).trans h0
        have q1 := (hbel.cell (p := ⟨b, off + i * 2 + 1, none⟩) hb).trans h1
        have PR := hid (show lay_Hold.rep wr (fun _ => True) l[i] #[.int .u64 l[i].Id, .int .u64 l[i].N].toList from rep_Hold.2 ⟨rfl, hw⟩)
        have HT := hid (show (cmpI l[i].Id t == 0) = hitF Hld.Id l t i from by
          rw [hitF_get hx]
          unfold cmpI
          by_cases h : l[i].Id = t
          · simp [h]
          · rw [show (l[i].Id == t) = false from by simpa using h]
            split
            · rfl
            · split
              · rfl
              · omega)
        clear h0 h1 hw
        go_wp2_with fail
        with_reducible refine (place1H_any _ _ l[i] t _ PR.out).mono ?_
        rintro e w2 ⟨rfl, hb2⟩
        have HB := hbel.trans (hb2.mono hbel.size)
        generalize cmpI l[i].Id t = cc at *
        go_wp2
        go_ret2
        exact ⟨i, by rw [← HT.out]; rfl, HA.out, HB⟩
      · have hin' : decide ((i : Int) < (n : Int)) = false := by simp; omega
        have HT := hid (show hitF Hld.Id l t i = false from hitF_out (by rw [HL.out]; omega))
        go_wp2
        go_ret2
        exact ⟨i, by rw [HT.out]; rfl, HA.out, hbel⟩
theorem placeH_any (A : Option Addr) (n c : Nat) (l : List Hld) (t : Int) (w : World) (hr : Sl lay_Hold w (· < w.heap.size) A n c l) (hn : n ≤ 64) (hR : UpF Hld.Id l) :
    Calls Try.prog 82 #[.slice A n c, .int .u64 t] w fun e w' => ∃ k : Nat, e = .returned (.tuple #[.int .i64 k, .bool (hitF Hld.Id l t k)]) ∧ AtF Hld.Id l t k ∧ Below w.heap.size w w' := by
  go_enter Try.func82, Try.ntmps82
  go_wp2_with fail
  with_reducible refine (searchH_any _ _ _ l t _ hr hn hR).mono ?_
  rintro e w2 ⟨k, rfl, hk, hb2⟩
  have HK := hid hk
  clear hk
  obtain ⟨dd, hdd⟩ : ∃ d, hitF Hld.Id l t k = d := ⟨_, rfl⟩
  rw [hdd]
  have HD := hid hdd
  clear hdd
  go_wp2
  go_ret2
  exact ⟨k, by rw [HD.out]; rfl, HK.out, hb2⟩

set_option maxHeartbeats 1000000 in
theorem cloneH_any (A : Option Addr) (n c : Nat) (l : List Hld) (w : World) (h : Sl lay_Hold w (· < w.heap.size) A n c l) (hn : n ≤ 1048576) :
    Calls Try.prog 75 #[.slice A n c] w fun e w' => ∃ v', e = .returned v' ∧ OwnL lay_Hold w' w.heap.size none 41 v' l ∧ Below w.heap.size w w' := by
  have hnil := fun W => run_is_nil (P := Try.prog) W 24 41 A n c Try.underlying24
  cases A with
  | none =>
    have hc := h.no rfl
    have hn0 : n = 0 := by have := h.cap; omega
    subst hc hn0
    have hx : l = [] := List.eq_nil_of_length_eq_zero h.len
    subst hx
    go_enter Try.func75, Try.ntmps75
    go_wp2
    go_ret
    exact ⟨_, rfl, OwnL.nil _ _ _ _ _, Below.refl _ _⟩
  | some a =>
    have hb0 : Below w.heap.size w (w.alloc (Obj.cells #[] 41)) := bel_alloc (Below.refl _ _) _
    have HS := hid (h.keep fun _ hp => hb0.cell hp)
    go_enter Try.func75, Try.ntmps75
    go_wp2_with (at_builtin; go_must (refine wpList_catL rfl _ _ 24 rfl w.heap.size none 41 _ 16 Try.underlying24 Try.infoHld rfl (by decide) (.slice (some ⟨w.heap.size, 0, none⟩) 0 0) [] l (· < w.heap.size) (some a) n c rfl rfl (OwnL.empty lay_Hold _ _ none) HS.out (fun b hb => ⟨trivial, Nat.lt_of_lt_of_le hb hb0.size, fun he => by simp [Value.ownBlock] at he; omega⟩) (by simp) (by simp; omega) (by unfold maxLen; simp; omega) ?_; intro v3 w3 hown3 hext3))
    go_ret
    simp only [List.nil_append] at hown3
    exact ⟨_, rfl, hown3, hb0.trans ((OwnL.empty lay_Hold w _ none).below hext3 (by simp))⟩

set_option maxRecDepth 100000 in
set_option maxHeartbeats 2000000 in
theorem growH_any (n : Nat) (hn : n ≤ 1048576) (lo : Option Nat) (w : World) :
    Calls Try.prog 95 #[.slice none 0 0, .int .i64 n] w fun e w' => ∃ v', e = .returned v' ∧ OwnL lay_Hold w' w.heap.size lo 41 v' [] ∧ Below w.heap.size w w' := by
  have w0 : IntKind.i64.wrap ((n : Int) - 0) = n := IntWalk.i64_in _ (by omega)
  have w1 : IntKind.i64.wrap (n : Int) = n := IntWalk.i64_in _ (by omega)
  have d0 : decide ((n : Int) < 0) = false := by simp
  by_cases h0 : n = 0
  · subst h0
    go_enter Try.func95, Try.ntmps95
    go_wp2
    go_ret
    exact ⟨_, rfl, OwnL.nil _ _ _ _ _, Below.refl _ _⟩
  · have d1 : decide ((0 : Int) < (n : Int)) = true := by simp; omega
    have d2 : decide (0 < n) = true := by simp; omega
    have hsl := fun A c => run_uptoL (P := Try.prog) 24 41 .i64 Try.underlying24 Try.elemHld Try.infoHld A n c 0 (Nat.zero_le _)
    have hsl0 := run_uptoL (P := Try.prog) 24 41 .i64 Try.underlying24 Try.elemHld Try.infoHld none 0 0 0 (Nat.zero_le _)
    obtain ⟨cap, W, hr, ho, hb⟩ := run_zeros0 (P := Try.prog) lay_Hold w 24 3 24 41 .i64 .i64 Try.underlying24 Try.underlying3 Try.infoHld rfl (by decide) lo n (by omega) hn (by decide)
    have HO := hid ho
    have HB := hid hb
    have HS := hid hsl
    clear ho hb h0 hsl
    go_enter Try.func95, Try.ntmps95
    have hs2 := HS.out (some ⟨w.heap.size, 0, none⟩) cap
    go_wp2_with (at_builtin; go_must (refine Lib.wpList_append_run _ rfl _ _ _ _ rfl _ _ rfl rfl _ _ hr ?_))
    go_ret
    exact ⟨_, rfl, HO.out, HB.out⟩

set_option maxRecDepth 100000 in
set_option maxHeartbeats 2000000 in
theorem concatH_any (A : Option Addr) (n c : Nat) (ls : List (List Hld)) (w : World) (h : Sl (Lay.slice lay_Hold) w (· < w.heap.size) A n c ls) (hsum : ls.flatten.length ≤ 1048576) :
    Calls Try.prog 83 #[.slice A n c] w fun e w' => ∃ v', e = .returned v' ∧ OwnL lay_Hold w' w.heap.size (some w.heap.size) 41 v' ls.flatten ∧ Below w.heap.size w w' := by
  have HL := hid h.len
  have hcap := h.cap
  unfold maxLen at hcap
  have HF := hid (fun j => flat_take_len ls j)
  go_enter Try.func83, Try.ntmps83
  go_wp2
  go_loop [3, 11] (fun s i => ∃ j : Nat, j ≤ n ∧ i = .int .i64 j ∧ s = .int .i64 (lenF ls j : Nat)) (fun _ i => n - (intOf i).toNat)
  case atStart => exact ⟨0, Nat.zero_le _, rfl, rfl⟩
  case round =>
    obtain ⟨j, hj, rfl, rfl⟩ := hrel
    have hs := HF.out j
    by_cases hlt : j < n
    · obtain ⟨b, off, A', n', c', hx, rfl, hb, hc, hsl⟩ := row_at h hlt
      have HT := hid (flat_take hx)
      have hs1 := HF.out (j + 1)
      have hs2 : lenF ls (j + 1) = lenF ls j + n' := by unfold lenF; rw [HT.out, List.length_append, hsl.len]
      have HN := hid (show ((lenF ls (j + 1) : Nat) : Int) = (lenF ls j : Nat) + n' from by omega)
      rw [hs2] at hs1
      clear hs2
      generalize lenF ls j = m at *
      clear hsl
      have wm : IntKind.i64.wrap ((m : Int) + (n' : Int)) = (m : Int) + (n' : Int) := IntWalk.i64_in _ (by omega)
      have d1 : decide ((m : Int) + (n' : Int) < 0) = false := by simp; omega
      go_wp2
      go_round
      case rel => exact ⟨j + 1, by omega, by go_num, by rw [HN.out]⟩
      case measure => simp [intOf]; omega
    · have hjn : j = n := by omega
      have HE := hid (show ls.take j = ls from List.take_of_length_le (by rw [HL.out]; omega))
      have hm : lenF ls j ≤ 1048576 := Nat.le_trans hs hsum
      clear hs
      generalize lenF ls j = m at *
      go_wp2_with fail
      with_reducible refine (growH_any m hm (some w.heap.size) w).mono ?_
      rintro e w1 ⟨v1, rfl, ho1, hb1⟩
      have HSL := hid (fun (W : World) (h' : Below w.heap.size w W) => Sl.call h h')
      go_wp2
      go_loopw [6, 27] (fun u i wr => ∃ k : Nat, k ≤ n ∧ i = .int .i64 k ∧ OwnL lay_Hold wr w.heap.size (some w.heap.size) 41 u (ls.take k).flatten ∧ Below w.heap.size w wr) (fun _ i _ => n - (intOf i).toNat)
      case atStart => exact ⟨0, Nat.zero_le _, rfl, ho1, hb1⟩
      case round =>
        obtain ⟨k, hk, rfl, hown, hbel⟩ := hrel
        by_cases hlk : k < n
        · obtain ⟨b, off, A', n', c', hx, rfl, hb, hc, hsl⟩ := row_at h hlk
          have q1 := (hbel.cell (p := ⟨b, off + k, none⟩) hb).trans hc
          have HT := hid (flat_take hx)
          have hs1 := HF.out (k + 1)
          have hs3 : (ls.take k).flatten.length + n' ≤ 1048576 := by
            unfold lenF at hs1
            rw [HT.out, List.length_append, hsl.len] at hs1
            omega
          clear hs1
          have HS2 := hid ((hsl.keep (w' := wr) fun p hp => hbel.cell hp))
          clear hsl hc
          have hsz := hbel.size
          have HO := hid hown
          clear hown
          go_wp2_with (at_builtin; go_must (refine wpList_catL rfl _ _ 24 rfl w.heap.size none 41 _ 16 Try.underlying24 Try.infoHld rfl (by decide) _ (ls.take k).flatten ls[k] (· < w.heap.size) A' n' c' rfl rfl HO.out.loose HS2.out (fun b hb => ⟨trivial, Nat.lt_of_lt_of_le hb hsz, fun he => by have := HO.out.ge he.symm; omega⟩) hsz (by omega) (by unfold maxLen; omega) ?_; intro v3 w3 hown3 hext3))
          go_roundw
          case rel => exact ⟨k + 1, by omega, by go_num, by rw [HT.out]; exact hown3.flat flat_Hld _, hbel.trans (HO.out.below hext3 hsz)⟩
          case measure => simp [intOf]; omega
        · have HE2 := hid (show ls.take k = ls from List.take_of_length_le (by rw [HL.out]; omega))
          rw [HE2.out] at hown
          go_wp2
          go_ret
          exact ⟨_, rfl, hown, hbel⟩

def TghOk (l : List Hld) : Prop := l.length ≤ 64 ∧ (∀ h ∈ l, h.N ≠ 0) ∧ HUp l ∧ allLe mMax (numsH l) = true ∧ sumM (numsH l) ≤ mMax
noncomputable instance (l : List Hld) : Decidable (TghOk l) := Classical.propDecidable _
noncomputable def tghE (l : List Hld) : Int := if TghOk l then 0 else 1
noncomputable def tghV (l : List Hld) : Int := if TghOk l then sumM (numsH l) else 0
/-- So far they may be. -/
def TghPre (l : List Hld) (j : Nat) : Prop := (∀ i (hi : i < l.length), i < j → l[i].N ≠ 0 ∧ (∀ h0 : 0 < i, (l[i - 1]'(by omega)).Id < l[i].Id)) ∧ allLe mMax (numsH (l.take j)) = true ∧ sumM (numsH (l.take j)) ≤ mMax
theorem tgh_split (l : List Hld) (j : Nat) : numsH l = numsH (l.take j) ++ numsH (l.drop j) := by
  unfold numsH
  rw [← List.map_append, List.take_append_drop]
theorem tgh_add {l : List Hld} (h : TghOk l) (hw : HldsWf l) {j : Nat} (hj : j < l.length) : addE [sumM (numsH (l.take j)), l[j].N] = 0 := by
  obtain ⟨a1, a2, a3, a4, a5⟩ := h
  have h1 := tgh_split l (j + 1)
  have h2 : 0 ≤ sumM (numsH (l.drop (j + 1))) := sumM_nonneg (nums_nonneg fun x hx => hw x (List.mem_of_mem_drop hx))
  have h3 : 0 ≤ sumM (numsH (l.take j)) := sumM_nonneg (nums_nonneg fun x hx => hw x (List.mem_of_mem_take hx))
  rw [nums_take hj] at h1
  have h4 := congrArg sumM h1
  rw [sumM_append, sumM_append] at h4
  simp only [sumM] at h4
  have h5 := (bounds_u64 (hw _ (List.getElem_mem hj)).num).1
  refine (add_ok ?_ ?_).1
  · rw [allLe_iff]
    intro x hx
    simp at hx
    rcases hx with rfl | rfl <;> omega
  · simp only [sumM]; omega
theorem tgh_next {l : List Hld} {j : Nat} (hj : j < l.length) (h : TghPre l j) (hN : l[j].N ≠ 0) (hI : ∀ h0 : 0 < j, (l[j - 1]'(by omega)).Id < l[j].Id) (hA : addE [sumM (numsH (l.take j)), l[j].N] = 0) :
    TghPre l (j + 1) ∧ addN [sumM (numsH (l.take j)), l[j].N] = sumM (numsH (l.take (j + 1))) := by
  obtain ⟨b1, b2, b3⟩ := add_nums hA
  rw [allLe_iff] at b1
  have e : sumM (numsH (l.take (j + 1))) = sumM (numsH (l.take j)) + l[j].N := by rw [nums_take hj, sumM_append]; simp [sumM]
  have e2 : sumM [sumM (numsH (l.take j)), l[j].N] = sumM (numsH (l.take j)) + l[j].N := by simp [sumM]
  refine ⟨⟨fun i hi hij => ?_, ?_, ?_⟩, ?_⟩
  · by_cases hlt : i < j
    · exact h.1 i hi hlt
    · have e : i = j := by omega
      subst e
      exact ⟨hN, hI⟩
  · have h1 := h.2.1
    rw [allLe_iff] at h1 ⊢
    rw [nums_take hj]
    intro x hx
    rcases List.mem_append.1 hx with q | q
    · exact h1 x q
    · exact b1 x (by simp at q; simp [q])
  · rw [e, ← e2]; exact b2
  · rw [b3, e2, e]
theorem tgh_all {l : List Hld} (hl : l.length ≤ 64) (h : TghPre l l.length) : TghOk l := by
  obtain ⟨h1, h2, h3⟩ := h
  rw [List.take_length] at h2 h3
  refine ⟨hl, fun x hx => ?_, up_of fun i hi h0 => (h1 i hi hi).2 h0, h2, h3⟩
  obtain ⟨i, hi, rfl⟩ := List.getElem_of_mem hx
  exact (h1 i hi hi).1

theorem mAdd2B_any (a b : Int) (g : Nat) (w : World) (hg : g = w.heap.size) (ha : (Lit.int .u64 a).wf = true) (hb : (Lit.int .u64 b).wf = true) :
    Calls Try.prog 76 #[.slice (some ⟨g, 0, none⟩) 2 2] (w.alloc (.cells #[.int .u64 a, .int .u64 b] 23)) fun e w' => e = .returned (.tuple #[.int .u64 (addN [a, b]), .int .i64 (addE [a, b])]) ∧ Below w.heap.size w w' := by
  subst hg
  exact mAdd2_any a b w ha hb

set_option maxRecDepth 100000 in
set_option maxHeartbeats 4000000 in
theorem together_any (A : Option Addr) (n k : Nat) (l : List Hld) (w : World) (h : Sl lay_Hold w (· < w.heap.size) A n k l) :
    Calls Try.prog 89 #[.slice A n k] w fun e w' => e = .returned (.tuple #[.int .u64 (tghV l), .int .i64 (tghE l)]) ∧ Below w.heap.size w w' := by
  have HL := hid h.len
  have hcap := h.cap
  unfold maxLen at hcap
  have HWF := hid (show HldsWf l from sl_hlds h)
  have HNO := hid (fun (q : ¬ TghOk l) => (And.intro (if_neg q) (if_neg q) : tghE l = 1 ∧ tghV l = 0))
  by_cases h64 : 64 < n
  · have d1 : decide ((64 : Int) < (n : Int)) = true := by simp; omega
    have HE := hid (HNO.out fun q => by have := q.1; rw [HL.out] at this; omega)
    go_enter Try.func89, Try.ntmps89
    go_wp2
    go_ret2
    exact ⟨by rw [HE.out.1, HE.out.2]; rfl, Below.refl _ _⟩
  have d1 : decide ((64 : Int) < (n : Int)) = false := by simp; omega
  have HS := hid (fun (W : World) (hb : Below w.heap.size w W) => Sl.call h hb)
  go_enter Try.func89, Try.ntmps89
  go_wp2
  go_loopw [4, 14] (fun u i wr => ∃ j : Nat, j ≤ n ∧ i = .int .i64 j ∧ u = .int .u64 (sumM (numsH (l.take j))) ∧ Hid (TghPre l j) ∧ Below w.heap.size w wr) (fun _ i _ => n - (intOf i).toNat)
  case atStart => exact ⟨0, Nat.zero_le _, rfl, rfl, hid ⟨fun i hi h => absurd h (by omega), rfl, by rw [List.take_zero]; decide⟩, Below.refl _ _⟩
  case round =>
  obtain ⟨j, hj, rfl, rfl, HP, hbel⟩ := hrel
  by_cases hlt : j < n
  · obtain ⟨b1, o1, hx1, rfl, hb1, t1, t2, hwh⟩ := hld_at (HS.out _ hbel) hlt
    have hba := bel_alloc hbel (Obj.cells #[.int .u64 l[j].Id, .int .u64 l[j].N] 41)
    have y0 : (wr.alloc (Obj.cells #[.int .u64 l[j].Id, .int .u64 l[j].N] 41)).cell? ⟨wr.heap.size, 0, none⟩ = some (.int .u64 l[j].Id) := by rw [World.cell?_alloc_at _ _ _ _ rfl]; rfl
    have y1 : (wr.alloc (Obj.cells #[.int .u64 l[j].Id, .int .u64 l[j].N] 41)).cell? ⟨wr.heap.size, 1, none⟩ = some (.int .u64 l[j].N) := by rw [World.cell?_alloc_at _ _ _ _ rfl]; rfl
    have HSA := HS.out _ hba
    go_upto_region 7 with (fail)
    generalize wr.alloc (Obj.cells #[.int .u64 l[j].Id, .int .u64 l[j].N] 41) = W5 at *
    clear t1 t2
    by_cases g1 : l[j].N = 0
    · have d1 : (l[j].N == 0) = true := by simpa using g1
      have HE := hid (HNO.out fun q => q.2.1 _ (List.getElem_mem hx1) g1)
      clear g1
      go_quiet (fail)
      go_wp2
      go_ret2
      exact ⟨by rw [HE.out.1, HE.out.2]; rfl, bel_drewN hba _⟩
    have d1 : (l[j].N == 0) = false := by simpa using g1
    have bnd0 : 0 ≤ sumM (numsH (l.take j)) := sumM_nonneg (nums_nonneg fun x hx => HWF.out x (List.mem_of_mem_take hx))
    have bnd1 : sumM (numsH (l.take j)) ≤ 4611686018427387904 := HP.out.2.2
    have wfs : (Lit.int .u64 (sumM (numsH (l.take j)))).wf = true := wf_u64 (by omega)
    have HNA := hid (fun (q : ¬ addE [sumM (numsH (l.take j)), l[j].N] = 0) => HNO.out fun r => q (tgh_add r HWF.out hx1))
    by_cases g2 : j = 0
    · have d2 : decide ((0 : Int) < (j : Int)) = false := by simp; omega
      have d2' : decide (0 < j) = false := decide_eq_false (by omega)
      have HNX := hid (fun q => tgh_next hx1 HP.out g1 (fun h0 => absurd h0 (by omega)) q)
      have HG2 := hid g2
      clear g1 g2
      obtain ⟨ae, hae⟩ : ∃ z, addE [sumM (numsH (l.take j)), l[j].N] = z := ⟨_, rfl⟩
      obtain ⟨an, han⟩ : ∃ z, addN [sumM (numsH (l.take j)), l[j].N] = z := ⟨_, rfl⟩
      have HAD := hid (fun (W : World) (g : Nat) (hg : g = W.heap.size) => mAdd2B_any (sumM (numsH (l.take j))) l[j].N g W hg wfs hwh.num)
      rw [hae, han] at HAD
      rw [hae] at HNA HNX
      rw [han] at HNX
      clear hae han hwh
      generalize sumM (numsH (l.take j)) = sj at *
      go_quiet (fail)
      go_wp2_with fail
      with_reducible refine (HAD.out _ _ ?hg).mono ?_
      case hg => rfl
      rintro e w5 ⟨rfl, hb5⟩
      have HB5 := bel_call (bel_drewN hba _) hb5
      by_cases hz : ae = 0
      · obtain ⟨HN1, HN2⟩ := HNX.out hz
        have N1 := hid HN1
        have N2 := hid HN2
        clear HN1 HN2
        subst hz
        go_wp2
        go_roundw
        case rel => exact ⟨j + 1, by omega, by go_num, by rw [N2.out], N1, HB5⟩
        case measure => simp [intOf]; omega
      · have HE := hid (HNA.out hz)
        have dz : (ae != 0) = true := by simpa using hz
        clear hz
        go_wp2
        go_ret2
        exact ⟨by rw [HE.out.1, HE.out.2]; rfl, HB5⟩
    have d2 : decide ((0 : Int) < (j : Int)) = true := by simp; omega
    have d2' : decide (0 < j) = true := decide_eq_true (by omega)
    obtain ⟨q, hq⟩ : ∃ q : Nat, q + 1 = j := ⟨j - 1, by omega⟩
    have hkn : (j : Int) - 1 = (q : Int) := by omega
    have hwk : IntKind.i64.wrap (q : Int) = (q : Int) := IntWalk.i64_in _ (by omega)
    obtain ⟨b2, o2, hx2, hA2, -, u1, -, -⟩ := hld_at HSA (show q < n by omega)
    injection hA2 with hA2
    injection hA2 with e1 e2
    subst e1 e2
    have ik : (0 : Int) ≤ (q : Int) ∧ (q : Int) < (n : Int) := by omega
    have ik2 : q < n := by omega
    by_cases g3 : l[q].Id < l[j].Id
    · have d3 : decide (l[j].Id ≤ l[q].Id) = false := by simp; omega
      have HNX := hid (fun e => tgh_next hx1 HP.out g1 (fun _ => by
          have e : j - 1 = q := by omega
          simp only [e]
          exact g3) e)
      have HQ := hid hq
      clear g3 hq
      generalize l[q].Id = qi at *
      obtain ⟨ae, hae⟩ : ∃ z, addE [sumM (numsH (l.take j)), l[j].N] = z := ⟨_, rfl⟩
      obtain ⟨an, han⟩ : ∃ z, addN [sumM (numsH (l.take j)), l[j].N] = z := ⟨_, rfl⟩
      have HAD := hid (fun (W : World) (g : Nat) (hg : g = W.heap.size) => mAdd2B_any (sumM (numsH (l.take j))) l[j].N g W hg wfs hwh.num)
      rw [hae, han] at HAD
      rw [hae] at HNA HNX
      rw [han] at HNX
      clear hae han hwh
      generalize sumM (numsH (l.take j)) = sj at *
      go_quiet (fail)
      go_wp2_with fail
      with_reducible refine (HAD.out _ _ ?hg).mono ?_
      case hg => rfl
      rintro e w5 ⟨rfl, hb5⟩
      have HB5 := bel_call (bel_drewN hba _) hb5
      by_cases hz : ae = 0
      · obtain ⟨HN1, HN2⟩ := HNX.out hz
        have N1 := hid HN1
        have N2 := hid HN2
        clear HN1 HN2
        subst hz
        go_wp2
        go_roundw
        case rel => exact ⟨j + 1, by omega, by go_num, by rw [N2.out], N1, HB5⟩
        case measure => simp [intOf]; omega
      · have HE := hid (HNA.out hz)
        have dz : (ae != 0) = true := by simpa using hz
        clear hz
        go_wp2
        go_ret2
        exact ⟨by rw [HE.out.1, HE.out.2]; rfl, HB5⟩
    · have d3 : decide (l[j].Id ≤ l[q].Id) = true := by simp; omega
      have HE := hid (HNO.out fun h => g3 (List.pairwise_iff_getElem.1 h.2.2.1 q j hx2 hx1 (by omega)))
      have HQ := hid hq
      clear g1 g2 g3 hq
      generalize l[q].Id = qi at *
      go_quiet (fail)
      go_wp2
      go_ret2
      exact ⟨by rw [HE.out.1, HE.out.2]; rfl, bel_drewN hba _⟩
  · have hjn : j = n := by omega
    have hok : TghOk l := tgh_all (by rw [HL.out]; omega) (by rw [HL.out, ← hjn]; exact HP.out)
    have HE := hid (show tghE l = 0 ∧ tghV l = sumM (numsH (l.take j)) from ⟨if_pos hok, by rw [List.take_of_length_le (by rw [HL.out]; omega)]; exact if_pos hok⟩)
    clear hok hjn
    generalize sumM (numsH (l.take j)) = sj at *
    go_wp2
    go_ret2
    exact ⟨by rw [HE.out.1, HE.out.2]; rfl, hbel⟩

end Go.Proofs.Ytanlpcndbfmkiaa
