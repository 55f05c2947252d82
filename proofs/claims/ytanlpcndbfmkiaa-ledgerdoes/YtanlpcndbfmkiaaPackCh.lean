/-
  Package channel: the library over holds; where a hold stands; all holds together.
  Package channel: Held, Check, All, Room, Same.
  Package channel: Hold, Push, Close.
  Package channel: Push, Close.
  Package channel: Settle, Fail; all that the package answers.
-/
import Derived.Test.YtanlpcndbfmkiaaChannelRef4
import Derived.Test.YtanlpcndbfmkiaaSearch
import Derived.Test.YtanlpcndbfmkiaaOwnPut
import Derived.Test.YtanlpcndbfmkiaaGrow
import Derived.Test.YtanlpcndbfmkiaaGen
import Derived.DeepKeys4
import Derived.Deep.QuietTactic
import Derived.Deep.RegionHeld3
import Derived.Test.YtanlpcndbfmkiaaPhase
import Derived.Test.YtanlpcndbfmkiaaAnyH
namespace Go.Proofs.Ytanlpcndbfmkiaa
open Go.RowKit Go.WalkArith

theorem Try.elemHld : Try.prog.elem 24 = 41 := by kernel_rfl
theorem flat_Hld (w : World) (S S' : Nat → Prop) (a : Hld) (c : List Value) (h : lay_Hold.rep w S a c) : lay_Hold.rep w S' a c := rep_Hold.2 (rep_Hold.1 h)

set_option maxRecDepth 100000 in
set_option maxHeartbeats 2000000 in
theorem equalH_any (A1 A2 : Option Addr) (n1 c1 n2 c2 : Nat) (S : Nat → Prop) (l o : List Hld) (w : World) (h1 : Sl lay_Hold w S A1 n1 c1 l) (h2 : Sl lay_Hold w S A2 n2 c2 o) :
    Calls Try.prog 68 #[.slice A1 n1 c1, .slice A2 n2 c2] w fun e w' => e = .returned (.bool (decide (l = o))) ∧ ∃ m, w' = w.drewN m := by
  have K1 := hid h1.len
  have K2 := hid h2.len
  have k1 := h1.cap
  have k2 := h2.cap
  unfold maxLen at k1 k2
  by_cases hl : n1 = n2
  · subst hl
    have hne : ((n1 : Int) != (n1 : Int)) = false := by simp
    go_enter Try.func68, Try.ntmps68
    go_wp2
    go_loopw [13] (fun i wr => ∃ j : Nat, j ≤ n1 ∧ i = .int .i64 j ∧ l.take j = o.take j ∧ ∃ m, wr = w.drewN m) (fun i _ => n1 - (intOf i).toNat)
    case atStart => exact ⟨0, Nat.zero_le _, rfl, rfl, 0, rfl⟩
    case round =>
      obtain ⟨j, hj, rfl, hpre, m, hwr⟩ := hrel
      have HP := hid hpre
      have HW := hid hwr
      clear hpre hwr
      by_cases hlt : j < n1
      · obtain ⟨b1, o1, hx1, rfl, -, t0, t1, w1⟩ := hld_at h1 hlt
        obtain ⟨b2, o2, hx2, rfl, -, u0, u1, w2⟩ := hld_at h2 hlt
        have hne2 := run_neHld w1 w2
        clear w1 w2
        have q0 : wr.cell? ⟨b1, o1 + j * 2, none⟩ = some (.int .u64 l[j].Id) := by rw [HW.out]; exact t0
        have q1 : wr.cell? ⟨b1, o1 + j * 2 + 1, none⟩ = some (.int .u64 l[j].N) := by rw [HW.out]; exact t1
        have p0 : wr.cell? ⟨b2, o2 + j * 2, none⟩ = some (.int .u64 o[j].Id) := by rw [HW.out]; exact u0
        have p1 : wr.cell? ⟨b2, o2 + j * 2 + 1, none⟩ = some (.int .u64 o[j].N) := by rw [HW.out]; exact u1
        clear t0 u0 t1 u1
        by_cases he : l[j] = o[j]
        · have HN := hid (take_same_any hx1 hx2 HP.out he)
          rw [decide_eq_true he] at hne2
          clear he
          go_wp2_with fail
          go_quiet (fail)
          go_wp2
          go_roundw
          case rel => exact ⟨j + 1, by omega, by go_num, HN.out, m + _, by rw [HW.out]; exact drew_add_any w m _⟩
          case measure => simp [intOf]; omega
        · have HN := hid (show decide (l = o) = false from decide_eq_false fun e => he (by simp only [e]))
          rw [decide_eq_false he] at hne2
          clear he
          go_wp2_with fail
          go_quiet (fail)
          go_wp2
          go_ret
          exact ⟨ret_bool HN.out.symm, m + _, by rw [HW.out]; exact drew_add_any w m _⟩
      · have HN := hid (show decide (l = o) = true from by
          have := HP.out
          rw [List.take_of_length_le (by rw [K1.out]; omega), List.take_of_length_le (by rw [K2.out]; omega)] at this
          exact decide_eq_true this)
        go_wp2
        go_ret
        exact ⟨ret_bool HN.out.symm, m, HW.out⟩
  · have hne : ((n1 : Int) != (n2 : Int)) = true := by simp; omega
    have HN := hid (show decide (l = o) = false from decide_eq_false fun e => by rw [e] at K1; have a1 := K1.out; have a2 := K2.out; omega)
    go_enter Try.func68, Try.ntmps68
    go_wp2
    go_ret
    exact ⟨ret_bool HN.out.symm, 0, rfl⟩

theorem place1H_any (s : Array Value) (S : Nat → Prop) (r : Hld) (t : Int) (w : World) (hs : lay_Hold.rep w S r s.toList) :
    Calls Try.prog 94 #[.agg s, .int .u64 t] w fun e w' => e = .returned (.int .i64 (cmpI r.Id t)) ∧ Below w.heap.size w w' := by
  obtain ⟨rfl, hw⟩ := agg_Hold hs
  go_enter Try.func94, Try.ntmps94
  go_wp2_with (go_at_call 71; refine (compare_any _ _ _).mono ?_; rintro e w' ⟨rfl, rfl⟩)
  go_ret
  exact ⟨rfl, by (repeat (first | exact Below.refl _ _ | refine Below.drew ?_ | refine bel_drewN ?_ _ | refine bel_alloc ?_ _ | refine bel_call ?_ (by assumption)))⟩

set_option maxRecDepth 100000 in
set_option maxHeartbeats 2000000 in
theorem searchH_any (A : Option Addr) (n c : Nat) (l : List Hld) (t : Int) (w : World) (hr : Sl lay_Hold w (· < w.heap.size) A n c l) (hn : n ≤ 64) (hR : UpF Hld.Id l) :
    Calls Try.prog 93 #[.slice A n c, .int .u64 t, .func (.func 94) #[] #[]] w fun e w' => ∃ k : Nat, e = .returned (.tuple #[.int .i64 k, .bool (hitF Hld.Id l t k)]) ∧ AtF Hld.Id l t k ∧ Below w.heap.size w w' := by
  have HL := hid hr.len
  have hcap := hr.cap
  unfold maxLen at hcap
  have HR := hid (show UpF Hld.Id l from hR)
  clear hR
  go_enter Try.func93, Try.ntmps93
  go_wp2
  go_loopw [9, 10] (fun u v wr => ∃ i j : Nat, u = .int .i64 i ∧ v = .int .i64 j ∧ EndsF Hld.Id l t i j ∧ Below w.heap.size w wr) (fun u v _ => (intOf v).toNat - (intOf u).toNat)
  case atStart => exact ⟨0, n, rfl, rfl, ⟨Nat.zero_le _, by rw [HL.out]; exact Nat.le_refl _, fun _ _ h => absurd h (by omega), fun k h1 h2 => by rw [HL.out] at h1; omega⟩, Below.refl _ _⟩
  case round =>
    obtain ⟨i, j, rfl, rfl, he, hbel⟩ := hrel
    have hij := he.1
    have hjn : j ≤ n := by rw [← HL.out]; exact he.2.1
    have HE := hid he
    clear he
    by_cases hlt : i < j
    · have hmj : (i + j) / 2 < j := by omega
      have him : i ≤ (i + j) / 2 := by omega
      obtain ⟨b, off, hx, rfl, hb, h0, h1, hw⟩ := hld_at hr (j := (i + j) / 2) (by omega)
      have q0 := (hbel.cell (p := ⟨b, off + (i + j) / 2 * 2, none⟩) hb).trans h0
      have q1 := (hbel.cell (p := ⟨b, off + (i + j) / 2 * 2 + 1, none⟩) hb).trans h1
      have wm : IntKind.i64.wrap ((i : Int) + (j : Int)) = (i : Int) + (j : Int) := IntWalk.i64_in _ (by omega)
      clear h0 h1
      have PR := hid (show lay_Hold.rep wr (fun _ => True) l[(i + j) / 2] #[.int .u64 l[(i + j) / 2].Id, .int .u64 l[(i + j) / 2].N].toList from rep_Hold.2 ⟨rfl, hw⟩)
      have HUP := hid (fun hc => HE.out.up HR.out hmj him hx hc)
      have HDN := hid (fun hc => HE.out.down HR.out him hx hc)
      clear hw
      generalize hG : l[(i + j) / 2] = r at *
      clear hG
      go_wp2_with fail
      with_reducible refine (place1H_any _ _ r t _ PR.out).mono ?_
      rintro e w2 ⟨rfl, hb2⟩
      have HB := hbel.trans (hb2.mono hbel.size)
      by_cases hc : r.Id < t
      · have hcm : cmpI r.Id t = -1 := by unfold cmpI; rw [if_pos hc]
        have HN := hid (HUP.out hc)
        rw [hcm]
        clear hc hcm
        go_wp2
        go_roundw
        case rel => exact ⟨(i + j) / 2 + 1, j, by go_num, rfl, HN.out, HB⟩
        case measure => simp [intOf]; omega
      · have hcm : decide (cmpI r.Id t < 0) = false := by unfold cmpI; simp [hc]; split <;> omega
        have HN := hid (HDN.out (by omega))
        clear hc
        go_wp2
        go_roundw
        case rel => exact ⟨i, (i + j) / 2, rfl, by go_num, HN.out, HB⟩
        case measure => simp [intOf]; omega
    · obtain rfl : i = j := by omega
      have HA := hid (show AtF Hld.Id l t i from ⟨HE.out.2.1, HE.out.2.2.1, HE.out.2.2.2⟩)
      by_cases hin : i < n
      · obtain ⟨b, off, hx, rfl, hb, h0, h1, hw⟩ := hld_at hr (j := i) hin
        have q0 := (hbel.cell (p := ⟨b, off + i * 2, none⟩) hb).trans h0
        have q1 := (hbel.cell (p := ⟨b, off + i * 2 + 1, none⟩) hb).trans h1
        have PR := hid (show lay_Hold.rep wr (fun _ => True) l[i] #[.int .u64 l[i].Id, .int .u64 l[i].N].toList from rep_Hold.2 ⟨rfl, hw⟩)
        have HT := hid (show (cmpI l[i].Id t == 0) = hitF Hld.Id l t i from by
          rw [hitF_get hx]
          unfold cmpI
          by_cases h : l[i].Id = t
          · simp [h]
          · rw [show (l[i].Id == t) = false from by simpa using h]
            split
            · rfl
            · split
              · rfl
              · omega)
        clear h0 h1 hw
        go_wp2_with fail
        with_reducible refine (place1H_any _ _ l[i] t _ PR.out).mono ?_
        rintro e w2 ⟨rfl, hb2⟩
        have HB := hbel.trans (hb2.mono hbel.size)
        generalize cmpI l[i].Id t = cc at *
        go_wp2
        go_ret2
        exact ⟨i, by rw [← HT.out]; rfl, HA.out, HB⟩
      · have hin' : decide ((i : Int) < (n : Int)) = false := by simp; omega
        have HT := hid (show hitF Hld.Id l t i = false from hitF_out (by rw [HL.out]; omega))
        go_wp2
        go_ret2
        exact ⟨i, by rw [HT.out]; rfl, HA.out, hbel⟩
theorem placeH_any (A : Option Addr) (n c : Nat) (l : List Hld) (t : Int) (w : World) (hr : Sl lay_Hold w (· < w.heap.size) A n c l) (hn : n ≤ 64) (hR : UpF Hld.Id l) :
    Calls Try.prog 82 #[.slice A n c, .int .u64 t] w fun e w' => ∃ k : Nat, e = .returned (.tuple #[.int .i64 k, .bool (hitF Hld.Id l t k)]) ∧ AtF Hld.Id l t k ∧ Below w.heap.size w w' := by
  go_enter Try.func82, Try.ntmps82
  go_wp2_with fail
  with_reducible refine (searchH_any _ _ _ l t _ hr hn hR).mono ?_
  rintro e w2 ⟨k, rfl, hk, hb2⟩
  have HK := hid hk
  clear hk
  obtain ⟨dd, hdd⟩ : ∃ d, hitF Hld.Id l t k = d := ⟨_, rfl⟩
  rw [hdd]
  have HD := hid hdd
  clear hdd
  go_wp2
  go_ret2
  exact ⟨k, by rw [HD.out]; rfl, HK.out, hb2⟩

set_option maxHeartbeats 1000000 in
theorem cloneH_any (A : Option Addr) (n c : Nat) (l : List Hld) (w : World) (h : Sl lay_Hold w (· < w.heap.size) A n c l) (hn : n ≤ 1048576) :
    Calls Try.prog 75 #[.slice A n c] w fun e w' => ∃ v', e = .returned v' ∧ OwnL lay_Hold w' w.heap.size none 41 v' l ∧ Below w.heap.size w w' := by
  have hnil := fun W => run_is_nil (P := Try.prog) W 24 41 A n c Try.underlying24
  cases A with
  | none =>
    have hc := h.no rfl
    have hn0 : n = 0 := by have := h.cap; omega
    subst hc hn0
    have hx : l = [] := List.eq_nil_of_length_eq_zero h.len
    subst hx
    go_enter Try.func75, Try.ntmps75
    go_wp2
    go_ret
    exact ⟨_, rfl, OwnL.nil _ _ _ _ _, Below.refl _ _⟩
  | some a =>
    have hb0 : Below w.heap.size w (w.alloc (Obj.cells #[] 41)) := bel_alloc (Below.refl _ _) _
    have HS := hid (h.keep fun _ hp => hb0.cell hp)
    go_enter Try.func75, Try.ntmps75
    go_wp2_with (at_builtin; go_must (refine wpList_catL rfl _ _ 24 rfl w.heap.size none 41 _ 16 Try.underlying24 Try.infoHld rfl (by decide) (.slice (some ⟨w.heap.size, 0, none⟩) 0 0) [] l (· < w.heap.size) (some a) n c rfl rfl (OwnL.empty lay_Hold _ _ none) HS.out (fun b hb => ⟨trivial, Nat.lt_of_lt_of_le hb hb0.size, fun he => by simp [Value.ownBlock] at he; omega⟩) (by simp) (by simp; omega) (by unfold maxLen; simp; omega) ?_; intro v3 w3 hown3 hext3))
    go_ret
    simp only [List.nil_append] at hown3
    exact ⟨_, rfl, hown3, hb0.trans ((OwnL.empty lay_Hold w _ none).below hext3 (by simp))⟩

set_option maxRecDepth 100000 in
set_option maxHeartbeats 2000000 in
theorem growH_any (n : Nat) (hn : n ≤ 1048576) (lo : Option Nat) (w : World) :
    Calls Try.prog 95 #[.slice none 0 0, .int .i64 n] w fun e w' => ∃ v', e = .returned v' ∧ OwnL lay_Hold w' w.heap.size lo 41 v' [] ∧ Below w.heap.size w w' := by
  have w0 : IntKind.i64.wrap ((n : Int) - 0) = n := IntWalk.i64_in _ (by omega)
  have w1 : IntKind.i64.wrap (n : Int) = n := IntWalk.i64_in _ (by omega)
  have d0 : decide ((n : Int) < 0) = false := by simp
  by_cases h0 : n = 0
  · subst h0
    go_enter Try.func95, Try.ntmps95
    go_wp2
    go_ret
    exact ⟨_, rfl, OwnL.nil _ _ _ _ _, Below.refl _ _⟩
  · have d1 : decide ((0 : Int) < (n : Int)) = true := by simp; omega
    have d2 : decide (0 < n) = true := by simp; omega
    have hsl := fun A c => run_uptoL (P := Try.prog) 24 41 .i64 Try.underlying24 Try.elemHld Try.infoHld A n c 0 (Nat.zero_le _)
    have hsl0 := run_uptoL (P := Try.prog) 24 41 .i64 Try.underlying24 Try.elemHld Try.infoHld none 0 0 0 (Nat.zero_le _)
    obtain ⟨cap, W, hr, ho, hb⟩ := run_zeros0 (P := Try.prog) lay_Hold w 24 3 24 41 .i64 .i64 Try.underlying24 Try.underlying3 Try.infoHld rfl (by decide) lo n (by omega) hn (by decide)
    have HO := hid ho
    have HB := hid hb
    have HS := hid hsl
    clear ho hb h0 hsl
    go_enter Try.func95, Try.ntmps95
    have hs2 := HS.out (some ⟨w.heap.size, 0, none⟩) cap
    go_wp2_with (at_builtin; go_must (refine Lib.wpList_append_run _ rfl _ _ _ _ rfl _ _ rfl rfl _ _ hr ?_))
    go_ret
    exact ⟨_, rfl, HO.out, HB.out⟩

set_option maxRecDepth 100000 in
set_option maxHeartbeats 2000000 in
theorem concatH_any (A : Option Addr) (n c : Nat) (ls : List (List Hld)) (w : World) (h : Sl (Lay.slice lay_Hold) w (· < w.heap.size) A n c ls) (hsum : ls.flatten.length ≤ 1048576) :
    Calls Try.prog 83 #[.slice A n c] w fun e w' => ∃ v', e = .returned v' ∧ OwnL lay_Hold w' w.heap.size (some w.heap.size) 41 v' ls.flatten ∧ Below w.heap.size w w' := by
  have HL := hid h.len
  have hcap := h.cap
  unfold maxLen at hcap
  have HF := hid (fun j => flat_take_len ls j)
  go_enter Try.func83, Try.ntmps83
  go_wp2
  go_loop [3, 11] (fun s i => ∃ j : Nat, j ≤ n ∧ i = .int .i64 j ∧ s = .int .i64 (lenF ls j : Nat)) (fun _ i => n - (intOf i).toNat)
  case atStart => exact ⟨0, Nat.zero_le _, rfl, rfl⟩
  case round =>
    obtain ⟨j, hj, rfl, rfl⟩ := hrel
    have hs := HF.out j
    by_cases hlt : j < n
    · obtain ⟨b, off, A', n', c', hx, rfl, hb, hc, hsl⟩ := row_at h hlt
      have HT := hid (flat_take hx)
      have hs1 := HF.out (j + 1)
      have hs2 : lenF ls (j + 1) = lenF ls j + n' := by unfold lenF; rw [HT.out, List.length_append, hsl.len]
      have HN := hid (show ((lenF ls (j + 1) : Nat) : Int) = (lenF ls j : Nat) + n' from by omega)
      rw [hs2] at hs1
      clear hs2
      generalize lenF ls j = m at *
      clear hsl
      have wm : IntKind.i64.wrap ((m : Int) + (n' : Int)) = (m : Int) + (n' : Int) := IntWalk.i64_in _ (by omega)
      have d1 : decide ((m : Int) + (n' : Int) < 0) = false := by simp; omega
      go_wp2
      go_round
      case rel => exact ⟨j + 1, by omega, by go_num, by rw [HN.out]⟩
      case measure => simp [intOf]; omega
    · have hjn : j = n := by omega
      have HE := hid (show ls.take j = ls from List.take_of_length_le (by rw [HL.out]; omega))
      have hm : lenF ls j ≤ 1048576 := Nat.le_trans hs hsum
      clear hs
      generalize lenF ls j = m at *
      go_wp2_with fail
      with_reducible refine (growH_any m hm (some w.heap.size) w).mono ?_
      rintro e w1 ⟨v1, rfl, ho1, hb1⟩
      have HSL := hid (fun (W : World) (h' : Below w.heap.size w W) => Sl.call h h')
      go_wp2
      go_loopw [6, 27] (fun u i wr => ∃ k : Nat, k ≤ n ∧ i = .int .i64 k ∧ OwnL lay_Hold wr w.heap.size (some w.heap.size) 41 u (ls.take k).flatten ∧ Below w.heap.size w wr) (fun _ i _ => n - (intOf i).toNat)
      case atStart => exact ⟨0, Nat.zero_le _, rfl, ho1, hb1⟩
      case round =>
        obtain ⟨k, hk, rfl, hown, hbel⟩ := hrel
        by_cases hlk : k < n
        · obtain ⟨b, off, A', n', c', hx, rfl, hb, hc, hsl⟩ := row_at h hlk
          have q1 := (hbel.cell (p := ⟨b, off + k, none⟩) hb).trans hc
          have HT := hid (flat_take hx)
          have hs1 := HF.out (k + 1)
          have hs3 : (ls.take k).flatten.length + n' ≤ 1048576 := by
            unfold lenF at hs1
            rw [HT.out, List.length_append, hsl.len] at hs1
            omega
          clear hs1
          have HS2 := hid ((hsl.keep (w' := wr) fun p hp => hbel.cell hp))
          clear hsl hc
          have hsz := hbel.size
          have HO := hid hown
          clear hown
          go_wp2_with (at_builtin; go_must (refine wpList_catL rfl _ _ 24 rfl w.heap.size none 41 _ 16 Try.underlying24 Try.infoHld rfl (by decide) _ (ls.take k).flatten ls[k] (· < w.heap.size) A' n' c' rfl rfl HO.out.loose HS2.out (fun b hb => ⟨trivial, Nat.lt_of_lt_of_le hb hsz, fun he => by have := HO.out.ge he.symm; omega⟩) hsz (by omega) (by unfold maxLen; omega) ?_; intro v3 w3 hown3 hext3))
          go_roundw
          case rel => exact ⟨k + 1, by omega, by go_num, by rw [HT.out]; exact hown3.flat flat_Hld _, hbel.trans (HO.out.below hext3 hsz)⟩
          case measure => simp [intOf]; omega
        · have HE2 := hid (show ls.take k = ls from List.take_of_length_le (by rw [HL.out]; omega))
          rw [HE2.out] at hown
          go_wp2
          go_ret
          exact ⟨_, rfl, hown, hbel⟩

def TghOk (l : List Hld) : Prop := l.length ≤ 64 ∧ (∀ h ∈ l, h.N ≠ 0) ∧ HUp l ∧ allLe mMax (numsH l) = true ∧ sumM (numsH l) ≤ mMax
noncomputable instance (l : List Hld) : Decidable (TghOk l) := Classical.propDecidable _
noncomputable def tghE (l : List Hld) : Int := if TghOk l then 0 else 1
noncomputable def tghV (l : List Hld) : Int := if TghOk l then sumM (numsH l) else 0
/-- So far they may be. -/
def TghPre (l : List Hld) (j : Nat) : Prop := (∀ i (hi : i < l.length), i < j → l[i].N ≠ 0 ∧ (∀ h0 : 0 < i, (l[i - 1]'(by omega)).Id < l[i].Id)) ∧ allLe mMax (numsH (l.take j)) = true ∧ sumM (numsH (l.take j)) ≤ mMax
theorem tgh_split (l : List Hld) (j : Nat) : numsH l = numsH (l.take j) ++ numsH (l.drop j) := by
  unfold numsH
  rw [← List.map_append, List.take_append_drop]
theorem tgh_add {l : List Hld} (h : TghOk l) (hw : HldsWf l) {j : Nat} (hj : j < l.length) : addE [sumM (numsH (l.take j)), l[j].N] = 0 := by
  obtain ⟨a1, a2, a3, a4, a5⟩ := h
  have h1 := tgh_split l (j + 1)
  have h2 : 0 ≤ sumM (numsH (l.drop (j + 1))) := sumM_nonneg (nums_nonneg fun x hx => hw x (List.mem_of_mem_drop hx))
  have h3 : 0 ≤ sumM (numsH (l.take j)) := sumM_nonneg (nums_nonneg fun x hx => hw x (List.mem_of_mem_take hx))
  rw [nums_take hj] at h1
  have h4 := congrArg sumM h1
  rw [sumM_append, sumM_append] at h4
  simp only [sumM] at h4
  have h5 := (bounds_u64 (hw _ (List.getElem_mem hj)).num).1
  refine (add_ok ?_ ?_).1
  · rw [allLe_iff]
    intro x hx
    simp at hx
    rcases hx with rfl | rfl <;> omega
  · simp only [sumM]; omega
theorem tgh_next {l : List Hld} {j : Nat} (hj : j < l.length) (h : TghPre l j) (hN : l[j].N ≠ 0) (hI : ∀ h0 : 0 < j, (l[j - 1]'(by omega)).Id < l[j].Id) (hA : addE [sumM (numsH (l.take j)), l[j].N] = 0) :
    TghPre l (j + 1) ∧ addN [sumM (numsH (l.take j)), l[j].N] = sumM (numsH (l.take (j + 1))) := by
  obtain ⟨b1, b2, b3⟩ := add_nums hA
  rw [allLe_iff] at b1
  have e : sumM (numsH (l.take (j + 1))) = sumM (numsH (l.take j)) + l[j].N := by rw [nums_take hj, sumM_append]; simp [sumM]
  have e2 : sumM [sumM (numsH (l.take j)), l[j].N] = sumM (numsH (l.take j)) + l[j].N := by simp [sumM]
  refine ⟨⟨fun i hi hij => ?_, ?_, ?_⟩, ?_⟩
  · by_cases hlt : i < j
    · exact h.1 i hi hlt
    · have e : i = j := by omega
      subst e
      exact ⟨hN, hI⟩
  · have h1 := h.2.1
    rw [allLe_iff] at h1 ⊢
    rw [nums_take hj]
    intro x hx
    rcases List.mem_append.1 hx with q | q
    · exact h1 x q
    · exact b1 x (by simp at q; simp [q])
  · rw [e, ← e2]; exact b2
  · rw [b3, e2, e]
theorem tgh_all {l : List Hld} (hl : l.length ≤ 64) (h : TghPre l l.length) : TghOk l := by
  obtain ⟨h1, h2, h3⟩ := h
  rw [List.take_length] at h2 h3
  refine ⟨hl, fun x hx => ?_, up_of fun i hi h0 => (h1 i hi hi).2 h0, h2, h3⟩
  obtain ⟨i, hi, rfl⟩ := List.getElem_of_mem hx
  exact (h1 i hi hi).1

theorem mAdd2B_any (a b : Int) (g : Nat) (w : World) (hg : g = w.heap.size) (ha : (Lit.int .u64 a).wf = true) (hb : (Lit.int .u64 b).wf = true) :
    Calls Try.prog 76 #[.slice (some ⟨g, 0, none⟩) 2 2] (w.alloc (.cells #[.int .u64 a, .int .u64 b] 23)) fun e w' => e = .returned (.tuple #[.int .u64 (addN [a, b]), .int .i64 (addE [a, b])]) ∧ Below w.heap.size w w' := by
  subst hg
  exact mAdd2_any a b w ha hb

set_option maxRecDepth 100000 in
set_option maxHeartbeats 4000000 in
theorem together_any (A : Option Addr) (n k : Nat) (l : List Hld) (w : World) (h : Sl lay_Hold w (· < w.heap.size) A n k l) :
    Calls Try.prog 89 #[.slice A n k] w fun e w' => e = .returned (.tuple #[.int .u64 (tghV l), .int .i64 (tghE l)]) ∧ Below w.heap.size w w' := by
  have HL := hid h.len
  have hcap := h.cap
  unfold maxLen at hcap
  have HWF := hid (show HldsWf l from sl_hlds h)
  have HNO := hid (fun (q : ¬ TghOk l) => (And.intro (if_neg q) (if_neg q) : tghE l = 1 ∧ tghV l = 0))
  by_cases h64 : 64 < n
  · have d1 : decide ((64 : Int) < (n : Int)) = true := by simp; omega
    have HE := hid (HNO.out fun q => by have := q.1; rw [HL.out] at this; omega)
    go_enter Try.func89, Try.ntmps89
    go_wp2
    go_ret2
    exact ⟨by rw [HE.out.1, HE.out.2]; rfl, Below.refl _ _⟩
  have d1 : decide ((64 : Int) < (n : Int)) = false := by simp; omega
  have HS := hid (fun (W : World) (hb : Below w.heap.size w W) => Sl.call h hb)
  go_enter Try.func89, Try.ntmps89
  go_wp2
  go_loopw [4, 14] (fun u i wr => ∃ j : Nat, j ≤ n ∧ i = .int .i64 j ∧ u = .int .u64 (sumM (numsH (l.take j))) ∧ Hid (TghPre l j) ∧ Below w.heap.size w wr) (fun _ i _ => n - (intOf i).toNat)
  case atStart => exact ⟨0, Nat.zero_le _, rfl, rfl, hid ⟨fun i hi h => absurd h (by omega), rfl, by rw [List.take_zero]; decide⟩, Below.refl _ _⟩
  case round =>
  obtain ⟨j, hj, rfl, rfl, HP, hbel⟩ := hrel
  by_cases hlt : j < n
  · obtain ⟨b1, o1, hx1, rfl, hb1, t1, t2, hwh⟩ := hld_at (HS.out _ hbel) hlt
    have hba := bel_alloc hbel (Obj.cells #[.int .u64 l[j].Id, .int .u64 l[j].N] 41)
    have y0 : (wr.alloc (Obj.cells #[.int .u64 l[j].Id, .int .u64 l[j].N] 41)).cell? ⟨wr.heap.size, 0, none⟩ = some (.int .u64 l[j].Id) := by rw [World.cell?_alloc_at _ _ _ _ rfl]; rfl
    have y1 : (wr.alloc (Obj.cells #[.int .u64 l[j].Id, .int .u64 l[j].N] 41)).cell? ⟨wr.heap.size, 1, none⟩ = some (.int .u64 l[j].N) := by rw [World.cell?_alloc_at _ _ _ _ rfl]; rfl
    have HSA := HS.out _ hba
    go_upto_region 7 with (fail)
    generalize wr.alloc (Obj.cells #[.int .u64 l[j].Id, .int .u64 l[j].N] 41) = W5 at *
    clear t1 t2
    by_cases g1 : l[j].N = 0
    · have d1 : (l[j].N == 0) = true := by simpa using g1
      have HE := hid (HNO.out fun q => q.2.1 _ (List.getElem_mem hx1) g1)
      clear g1
      go_quiet (fail)
      go_wp2
      go_ret2
      exact ⟨by rw [HE.out.1, HE.out.2]; rfl, bel_drewN hba _⟩
    have d1 : (l[j].N == 0) = false := by simpa using g1
    have bnd0 : 0 ≤ sumM (numsH (l.take j)) := sumM_nonneg (nums_nonneg fun x hx => HWF.out x (List.mem_of_mem_take hx))
    have bnd1 : sumM (numsH (l.take j)) ≤ 4611686018427387904 := HP.out.2.2
    have wfs : (Lit.int .u64 (sumM (numsH (l.take j)))).wf = true := wf_u64 (by omega)
    have HNA := hid (fun (q : ¬ addE [sumM (numsH (l.take j)), l[j].N] = 0) => HNO.out fun r => q (tgh_add r HWF.out hx1))
    by_cases g2 : j = 0
    · have d2 : decide ((0 : Int) < (j : Int)) = false := by simp; omega
      have d2' : decide (0 < j) = false := decide_eq_false (by omega)
      have HNX := hid (fun q => tgh_next hx1 HP.out g1 (fun h0 => absurd h0 (by omega)) q)
      have HG2 := hid g2
      clear g1 g2
      obtain ⟨ae, hae⟩ : ∃ z, addE [sumM (numsH (l.take j)), l[j].N] = z := ⟨_, rfl⟩
      obtain ⟨an, han⟩ : ∃ z, addN [sumM (numsH (l.take j)), l[j].N] = z := ⟨_, rfl⟩
      have HAD := hid (fun (W : World) (g : Nat) (hg : g = W.heap.size) => mAdd2B_any (sumM (numsH (l.take j))) l[j].N g W hg wfs hwh.num)
      rw [hae, han] at HAD
      rw [hae] at HNA HNX
      rw [han] at HNX
      clear hae han hwh
      generalize sumM (numsH (l.take j)) = sj at *
      go_quiet (fail)
      go_wp2_with fail
      with_reducible refine (HAD.out _ _ ?hg).mono ?_
      case hg => rfl
      rintro e w5 ⟨rfl, hb5⟩
      have HB5 := bel_call (bel_drewN hba _) hb5
      by_cases hz : ae = 0
      · obtain ⟨HN1, HN2⟩ := HNX.out hz
        have N1 := hid HN1
        have N2 := hid HN2
        clear HN1 HN2
        subst hz
        go_wp2
        go_roundw
        case rel => exact ⟨j + 1, by omega, by go_num, by rw [N2.out], N1, HB5⟩
        case measure => simp [intOf]; omega
      · have HE := hid (HNA.out hz)
        have dz : (ae != 0) = true := by simpa using hz
        clear hz
        go_wp2
        go_ret2
        exact ⟨by rw [HE.out.1, HE.out.2]; rfl, HB5⟩
    have d2 : decide ((0 : Int) < (j : Int)) = true := by simp; omega
    have d2' : decide (0 < j) = true := decide_eq_true (by omega)
    obtain ⟨q, hq⟩ : ∃ q : Nat, q + 1 = j := ⟨j - 1, by omega⟩
    have hkn : (j : Int) - 1 = (q : Int) := by omega
    have hwk : IntKind.i64.wrap (q : Int) = (q : Int) := IntWalk.i64_in _ (by omega)
    obtain ⟨b2, o2, hx2, hA2, -, u1, -, -⟩ := hld_at HSA (show q < n by omega)
    injection hA2 with hA2
    injection hA2 with e1 e2
    subst e1 e2
    have ik : (0 : Int) ≤ (q : Int) ∧ (q : Int) < (n : Int) := by omega
    have ik2 : q < n := by omega
    by_cases g3 : l[q].Id < l[j].Id
    · have d3 : decide (l[j].Id ≤ l[q].Id) = false := by simp; omega
      have HNX := hid (fun e => tgh_next hx1 HP.out g1 (fun _ => by
          have e : j - 1 = q := by omega
          simp only [e]
          exact g3) e)
      have HQ := hid hq
      clear g3 hq
      generalize l[q].Id = qi at *
      obtain ⟨ae, hae⟩ : ∃ z, addE [sumM (numsH (l.take j)), l[j].N] = z := ⟨_, rfl⟩
      obtain ⟨an, han⟩ : ∃ z, addN [sumM (numsH (l.take j)), l[j].N] = z := ⟨_, rfl⟩
      have HAD := hid (fun (W : World) (g : Nat) (hg : g = W.heap.size) => mAdd2B_any (sumM (numsH (l.take j))) l[j].N g W hg wfs hwh.num)
      rw [hae, han] at HAD
      rw [hae] at HNA HNX
      rw [han] at HNX
      clear hae han hwh
      generalize sumM (numsH (l.take j)) = sj at *
      go_quiet (fail)
      go_wp2_with fail
      with_reducible refine (HAD.out _ _ ?hg).mono ?_
      case hg => rfl
      rintro e w5 ⟨rfl, hb5⟩
      have HB5 := bel_call (bel_drewN hba _) hb5
      by_cases hz : ae = 0
      · obtain ⟨HN1, HN2⟩ := HNX.out hz
        have N1 := hid HN1
        have N2 := hid HN2
        clear HN1 HN2
        subst hz
        go_wp2
        go_roundw
        case rel => exact ⟨j + 1, by omega, by go_num, by rw [N2.out], N1, HB5⟩
        case measure => simp [intOf]; omega
      · have HE := hid (HNA.out hz)
        have dz : (ae != 0) = true := by simpa using hz
        clear hz
        go_wp2
        go_ret2
        exact ⟨by rw [HE.out.1, HE.out.2]; rfl, HB5⟩
    · have d3 : decide (l[j].Id ≤ l[q].Id) = true := by simp; omega
      have HE := hid (HNO.out fun h => g3 (List.pairwise_iff_getElem.1 h.2.2.1 q j hx2 hx1 (by omega)))
      have HQ := hid hq
      clear g1 g2 g3 hq
      generalize l[q].Id = qi at *
      go_quiet (fail)
      go_wp2
      go_ret2
      exact ⟨by rw [HE.out.1, HE.out.2]; rfl, bel_drewN hba _⟩
  · have hjn : j = n := by omega
    have hok : TghOk l := tgh_all (by rw [HL.out]; omega) (by rw [HL.out, ← hjn]; exact HP.out)
    have HE := hid (show tghE l = 0 ∧ tghV l = sumM (numsH (l.take j)) from ⟨if_pos hok, by rw [List.take_of_length_le (by rw [HL.out]; omega)]; exact if_pos hok⟩)
    clear hok hjn
    generalize sumM (numsH (l.take j)) = sj at *
    go_wp2
    go_ret2
    exact ⟨by rw [HE.out.1, HE.out.2]; rfl, hbel⟩

end Go.Proofs.Ytanlpcndbfmkiaa
namespace Go.Proofs.Ytanlpcndbfmkiaa
open Go.RowKit Go.WalkArith

theorem tgh_of {c : Chn} (h : ChOk c) : TghOk c.Holds := ⟨h.2.2.1, h.2.2.2.2.1, h.2.2.2.2.2.1, h.2.2.2.2.2.2.1, Int.le_trans h.2.2.2.2.2.2.2.1 h.2.1⟩

set_option maxRecDepth 100000 in
set_option maxHeartbeats 4000000 in
theorem cHeld_any (s : Array Value) (c : Chn) (w : World) (r : lay_Channel.rep w (· < w.heap.size) c s.toList) :
    Calls Try.prog 65 #[.agg s] w fun e w' => e = .returned (.tuple #[.int .u64 (heV c), .int .i64 (chE c)]) ∧ Below w.heap.size w w' := by
  obtain ⟨A, n, k, rfl, hw, hs⟩ := agg_Channel r
  clear r
  have HL := hid hs.len
  have hcap := hs.cap
  unfold maxLen at hcap
  have hb0 : Below w.heap.size w (w.alloc (Obj.cells #[.int .u64 c.Id, .int .u64 c.Local, .int .u64 c.Remote, .int .u64 c.Reserve, .int .u64 c.Most, .slice A n k, .bool c.Open] 26)) := bel_alloc (Below.refl _ _) _
  have B0 := BoxC.new w c A n k
  go_enter Try.func65, Try.ntmps65
  go_wp2_with fail
  generalize w.alloc (Obj.cells #[.int .u64 c.Id, .int .u64 c.Local, .int .u64 c.Remote, .int .u64 c.Reserve, .int .u64 c.Most, .slice A n k, .bool c.Open] 26) = W0 at *
  refine (together_any _ _ _ c.Holds _ (Sl.call hs hb0)).mono ?_
  rintro e w1 ⟨rfl, hb1⟩
  have HB := bel_call hb0 hb1
  have B1 := B0.call hb1
  clear B0 hb0 hb1
  have HN := hid (fun (q : ¬ ChOk c) => (And.intro (if_neg q) (if_neg q) : chE c = 1 ∧ heV c = 0))
  by_cases ht : TghOk c.Holds
  rotate_left
  · have HE := hid (HN.out fun q => ht (tgh_of q))
    rw [show tghE c.Holds = 1 from if_neg ht, show tghV c.Holds = 0 from if_neg ht]
    clear ht
    go_wp2
    go_ret2
    exact ⟨by rw [HE.out.1, HE.out.2]; rfl, HB⟩
  rw [show tghE c.Holds = 0 from if_pos ht, show tghV c.Holds = heldN c from if_pos ht]
  have HT := hid ht
  have h0 : 0 ≤ heldN c := held_nonneg (sl_hlds hs)
  have h1 : heldN c ≤ 4611686018427387904 := ht.2.2.2.2
  have hn64 : n ≤ 64 := by rw [← HL.out]; exact ht.1
  have wfh : (Lit.int .u64 (heldN c)).wf = true := wf_u64 (by omega)
  clear ht
  obtain ⟨hn, hhn⟩ : ∃ z, heldN c = z := ⟨_, rfl⟩
  have HH := hid hhn
  rw [hhn] at h0 h1 wfh ⊢
  clear hhn
  go_upto_region 2 with (fail)
  go_cut [33] from 15 to 33 (fun q wc => q = .bool (decide (c.Most < hn ∨ (c.Open = false ∧ 0 < n))) ∧ BoxC wc w.heap.size c A n k ∧ Below w.heap.size w wc)
  case first =>
    obtain ⟨p0, p1, p2, p3, p4, p5, p6⟩ := B1.all
    by_cases g1 : c.Most < hn
    · have HD := hid (show decide (c.Most < hn ∨ (c.Open = false ∧ 0 < n)) = true from decide_eq_true (.inl g1))
      have d1 : decide (c.Most < hn) = true := decide_eq_true g1
      clear g1
      go_wp2_with fail
      go_meet
      case rel => exact ⟨by rw [HD.out], B1, HB⟩
    have d1 : decide (c.Most < hn) = false := decide_eq_false g1
    obtain ⟨o, ho⟩ : ∃ z, c.Open = z := ⟨_, rfl⟩
    rw [ho] at p6
    have HO := hid ho
    clear ho
    cases o
    · by_cases g3 : 0 < n
      · have HD := hid (show decide (c.Most < hn ∨ (c.Open = false ∧ 0 < n)) = true from decide_eq_true (.inr ⟨HO.out, g3⟩))
        have d3 : decide ((0 : Int) < (n : Int)) = true := by simp; omega
        have d3' : decide (0 < n) = true := decide_eq_true g3
        clear g1
        go_wp2_with fail
        go_meet
        case rel => exact ⟨by rw [HD.out], B1, HB⟩
      · have HD := hid (show decide (c.Most < hn ∨ (c.Open = false ∧ 0 < n)) = false from decide_eq_false fun h => h.elim g1 fun q => g3 q.2)
        have d3 : decide ((0 : Int) < (n : Int)) = false := by simp; omega
        have d3' : decide (0 < n) = false := decide_eq_false g3
        clear g1
        go_wp2_with fail
        go_meet
        case rel => exact ⟨by rw [HD.out], B1, HB⟩
    · have HD := hid (show decide (c.Most < hn ∨ (c.Open = false ∧ 0 < n)) = false from decide_eq_false fun h => h.elim g1 fun q => by have := HO.out; rw [q.1] at this; cases this)
      clear g1
      go_wp2_with fail
      go_meet
      case rel => exact ⟨by rw [HD.out], B1, HB⟩
  case rest =>
  clear HB B1
  obtain ⟨rfl, BC, HB⟩ := hcut
  by_cases g0 : c.Most < hn ∨ (c.Open = false ∧ 0 < n)
  · rw [decide_eq_true g0]
    have HE := hid (HN.out fun h => by
      rcases g0 with q | q
      · have := h.2.2.2.2.2.2.2.1; rw [HH.out] at this; omega
      · have h1 := h.2.2.2.1 q.1; have h2 := HL.out; rw [h1] at h2; simp at h2; omega)
    clear g0
    go_wp2
    go_ret2
    exact ⟨by rw [HE.out.1, HE.out.2]; rfl, HB⟩
  rw [decide_eq_false g0]
  have a1 : hn ≤ c.Most := Int.not_lt.1 fun q => g0 (.inl q)
  have a3 : c.Open = false → c.Holds = [] := fun q => List.eq_nil_of_length_eq_zero (by rw [HL.out]; exact Nat.eq_zero_of_not_pos fun r => g0 (.inr ⟨q, r⟩))
  have QA := hid (And.intro a1 a3)
  clear g0 a1 a3
  obtain ⟨p0, p1, p2, p3, p4, p5, p6⟩ := BC.all
  have HC2 := hid (fun W => mCheck2_any c.Reserve c.Most W hw.res hw.most)
  rw [chkM_two] at HC2
  go_wp2_with fail
  with_reducible refine (HC2.out _).mono ?_
  rintro e w3 ⟨rfl, hb3⟩
  replace BC := BC.call hb3
  replace HB := bel_call HB hb3
  clear p0 p1 p2 p3 p4 p5 p6 hb3
  by_cases g1 : c.Reserve ≤ mMax ∧ c.Most ≤ mMax
  rotate_left
  · rw [if_neg g1]
    have HE := hid (HN.out fun h => g1 ⟨h.1, h.2.1⟩)
    clear g1
    go_wp2
    go_ret2
    exact ⟨by rw [HE.out.1, HE.out.2]; rfl, HB⟩
  rw [if_pos g1]
  obtain ⟨p0, p1, p2, p3, p4, p5, p6⟩ := BC.all
  have HR := hid (mAdd_any _ _ _ _ _ _ (rd_three w3 c.Local c.Remote hn hw.loc hw.rem wfh) (Nat.le_refl _))
  obtain ⟨be, hbe⟩ : ∃ z, addE [c.Local, c.Remote, hn] = z := ⟨_, rfl⟩
  obtain ⟨bn, hbn⟩ : ∃ z, addN [c.Local, c.Remote, hn] = z := ⟨_, rfl⟩
  rw [hbe, hbn] at HR
  have HOK := hid (show ChOk c ↔ be = 0 from by
    rw [← hbe]
    constructor
    · intro h
      rw [← HH.out]
      exact (ch_add h).2.2.1
    · intro h
      obtain ⟨t1, t2, -⟩ := add_nums h
      rw [allLe_iff] at t1
      have u1 := t1 c.Local (by simp)
      have u2 := t1 c.Remote (by simp)
      have u3 : c.Local + c.Remote + hn ≤ mMax := by simp [sumM] at t2; omega
      have ht := HT.out
      exact ⟨g1.1, g1.2, ht.1, QA.out.2, ht.2.1, ht.2.2.1, ht.2.2.2.1, by rw [HH.out]; exact QA.out.1, u1, u2, by rw [HH.out]; exact u3⟩)
  have HBY := hid (bel_alloc HB (Obj.cells #[.int .u64 c.Local, .int .u64 c.Remote, .int .u64 hn] 23))
  clear hbe hbn g1
  go_wp2_with fail
  refine HR.out.mono ?_
  rintro e w5 ⟨rfl, hb5⟩
  have HBZ := bel_call HBY.out hb5
  by_cases hz : be = 0
  · have hok := HOK.out.2 hz
    have HE := hid (show chE c = 0 ∧ heV c = hn from ⟨if_pos hok, by rw [← HH.out]; exact if_pos hok⟩)
    subst hz
    clear hok
    go_wp2
    go_ret2
    exact ⟨by rw [HE.out.1, HE.out.2]; rfl, HBZ⟩
  · have HE := hid (HN.out fun h => hz (HOK.out.1 h))
    have dz : (be != 0) = true := by simpa using hz
    clear hz
    go_wp2
    go_ret2
    exact ⟨by rw [HE.out.1, HE.out.2]; rfl, HBZ⟩

set_option maxRecDepth 100000 in
set_option maxHeartbeats 4000000 in
theorem cCheck_any (s : Array Value) (c : Chn) (w : World) (r : lay_Channel.rep w (· < w.heap.size) c s.toList) :
    Calls Try.prog 36 #[.agg s] w fun e w' => e = .returned (.int .i64 (chE c)) ∧ Below w.heap.size w w' := by
  obtain ⟨A, n, k, rfl, hw, hs⟩ := agg_Channel r
  clear r
  have HL := hid hs.len
  have hcap := hs.cap
  unfold maxLen at hcap
  have hb0 : Below w.heap.size w (w.alloc (Obj.cells #[.int .u64 c.Id, .int .u64 c.Local, .int .u64 c.Remote, .int .u64 c.Reserve, .int .u64 c.Most, .slice A n k, .bool c.Open] 26)) := bel_alloc (Below.refl _ _) _
  have B0 := BoxC.new w c A n k
  go_enter Try.func36, Try.ntmps36
  go_wp2_with fail
  generalize w.alloc (Obj.cells #[.int .u64 c.Id, .int .u64 c.Local, .int .u64 c.Remote, .int .u64 c.Reserve, .int .u64 c.Most, .slice A n k, .bool c.Open] 26) = W0 at *
  refine (cHeld_any _ c _ (chan_in hw hs hb0)).mono ?_
  rintro e w1 ⟨rfl, hb1⟩
  have HB := bel_call hb0 hb1
  have B1 := B0.call hb1
  clear B0 hb0 hb1
  go_wp2
  go_ret
  exact ⟨rfl, HB⟩

set_option maxRecDepth 100000 in
set_option maxHeartbeats 2000000 in
theorem cAll_any (s : Array Value) (c : Chn) (w : World) (r : lay_Channel.rep w (· < w.heap.size) c s.toList) :
    Calls Try.prog 42 #[.agg s] w fun e w' => e = .returned (.tuple #[.int .u64 (aaV c), .int .i64 (chE c)]) ∧ Below w.heap.size w w' := by
  obtain ⟨A, n, k, rfl, hw, hs⟩ := agg_Channel r
  clear r
  have HL := hid hs.len
  have hcap := hs.cap
  unfold maxLen at hcap
  have hb0 : Below w.heap.size w (w.alloc (Obj.cells #[.int .u64 c.Id, .int .u64 c.Local, .int .u64 c.Remote, .int .u64 c.Reserve, .int .u64 c.Most, .slice A n k, .bool c.Open] 26)) := bel_alloc (Below.refl _ _) _
  have B0 := BoxC.new w c A n k
  go_enter Try.func42, Try.ntmps42
  go_wp2_with fail
  generalize w.alloc (Obj.cells #[.int .u64 c.Id, .int .u64 c.Local, .int .u64 c.Remote, .int .u64 c.Reserve, .int .u64 c.Most, .slice A n k, .bool c.Open] 26) = W0 at *
  refine (cHeld_any _ c _ (chan_in hw hs hb0)).mono ?_
  rintro e w1 ⟨rfl, hb1⟩
  have HB := bel_call hb0 hb1
  have B1 := B0.call hb1
  clear B0 hb0 hb1
  rcases ch_is (c := c) with ⟨ok, hE⟩ | ⟨ok, hE⟩
  rotate_left
  · have HE := hid hE
    have HV := hid (show aaV c = 0 from if_neg ok)
    rw [hE]
    clear hE ok
    go_wp2
    go_ret2
    exact ⟨by rw [HV.out, HE.out]; rfl, HB⟩
  rw [hE, show heV c = heldN c from if_pos ok]
  have HE := hid hE
  have HV := hid (show aaV c = c.Local + c.Remote + heldN c from if_pos ok)
  obtain ⟨-, -, a1, a2⟩ := ch_add ok
  have h0 := held_nonneg (c := c) (sl_hlds hs)
  have h1 : heldN c ≤ mMax := Int.le_trans ok.2.2.2.2.2.2.2.1 ok.2.1
  have hm : mMax = 4611686018427387904 := rfl
  have wan : (Lit.int .u64 (heldN c)).wf = true := wf_u64 (by omega)
  have HR := hid (mAdd_any _ _ _ _ _ _ (rd_three w1 c.Local c.Remote (heldN c) hw.loc hw.rem wan) (Nat.le_refl _))
  rw [a1, a2] at HR
  have HBY := hid (bel_alloc HB (Obj.cells #[.int .u64 c.Local, .int .u64 c.Remote, .int .u64 (heldN c)] 23))
  clear hE ok a1 a2 h0 h1 hm
  obtain ⟨p0, p1, p2, p3, p4, p5, p6⟩ := B1.all
  go_wp2_with fail
  refine HR.out.mono ?_
  rintro e w4 ⟨rfl, hb4⟩
  have HBZ := bel_call HBY.out hb4
  clear p0 p1 p2 p3 p4 p5 p6
  go_wp2
  go_ret2
  exact ⟨by rw [HV.out, HE.out]; rfl, HBZ⟩

set_option maxRecDepth 100000 in
set_option maxHeartbeats 4000000 in
theorem cSame_any (s t : Array Value) (x y : Chn) (w : World) (r1 : lay_Channel.rep w (· < w.heap.size) x s.toList) (r2 : lay_Channel.rep w (· < w.heap.size) y t.toList) :
    Calls Try.prog 34 #[.agg s, .agg t] w fun e w' => e = .returned (.bool (decide (x = y))) ∧ Below w.heap.size w w' := by
  obtain ⟨A1, n1, c1, rfl, -, hs1⟩ := agg_Channel r1
  obtain ⟨A2, n2, c2, rfl, -, hs2⟩ := agg_Channel r2
  clear r1 r2
  have k1 := hs1.cap
  have k2 := hs2.cap
  unfold maxLen at k1 k2
  have hb0 : Below w.heap.size w ((w.alloc (Obj.cells #[.int .u64 x.Id, .int .u64 x.Local, .int .u64 x.Remote, .int .u64 x.Reserve, .int .u64 x.Most, .slice A1 n1 c1, .bool x.Open] 26)).alloc (Obj.cells #[.int .u64 y.Id, .int .u64 y.Local, .int .u64 y.Remote, .int .u64 y.Reserve, .int .u64 y.Most, .slice A2 n2 c2, .bool y.Open] 26)) := bel_alloc (bel_alloc (Below.refl _ _) _) _
  have BX : BoxC ((w.alloc (Obj.cells #[.int .u64 x.Id, .int .u64 x.Local, .int .u64 x.Remote, .int .u64 x.Reserve, .int .u64 x.Most, .slice A1 n1 c1, .bool x.Open] 26)).alloc (Obj.cells #[.int .u64 y.Id, .int .u64 y.Local, .int .u64 y.Remote, .int .u64 y.Reserve, .int .u64 y.Most, .slice A2 n2 c2, .bool y.Open] 26)) w.heap.size x A1 n1 c1 := heap_alloc2_old _ _ _
  have BY : BoxC ((w.alloc (Obj.cells #[.int .u64 x.Id, .int .u64 x.Local, .int .u64 x.Remote, .int .u64 x.Reserve, .int .u64 x.Most, .slice A1 n1 c1, .bool x.Open] 26)).alloc (Obj.cells #[.int .u64 y.Id, .int .u64 y.Local, .int .u64 y.Remote, .int .u64 y.Reserve, .int .u64 y.Most, .slice A2 n2 c2, .bool y.Open] 26)) (w.heap.size + 1) y A2 n2 c2 := alloc2_new _ _ _
  have HEQ := hid (equalH_any A1 A2 n1 c1 n2 c2 _ x.Holds y.Holds _ (Sl.call hs1 hb0) (Sl.call hs2 hb0))
  go_enter Try.func34, Try.ntmps34
  go_upto_region 1 with (fail)
  generalize ((w.alloc (Obj.cells #[.int .u64 x.Id, .int .u64 x.Local, .int .u64 x.Remote, .int .u64 x.Reserve, .int .u64 x.Most, .slice A1 n1 c1, .bool x.Open] 26)).alloc (Obj.cells #[.int .u64 y.Id, .int .u64 y.Local, .int .u64 y.Remote, .int .u64 y.Reserve, .int .u64 y.Most, .slice A2 n2 c2, .bool y.Open] 26)) = W0 at *
  obtain ⟨p0, p1, p2, p3, p4, p5, p6⟩ := BX.all
  obtain ⟨q0, q1, q2, q3, q4, q5, q6⟩ := BY.all
  clear BX BY
  by_cases eId : x.Id = y.Id
  rotate_left
  · have dId : (x.Id == y.Id) = false := by simpa using eId
    have HD := hid (show decide (x = y) = false from decide_eq_false fun e => eId (by rw [e]))
    clear eId
    go_wp2
    go_ret
    exact ⟨ret_bool HD.out.symm, hb0⟩
  have dId : (x.Id == y.Id) = true := by simpa using eId
  have EId := hid eId
  clear eId
  by_cases eLocal : x.Local = y.Local
  rotate_left
  · have dLocal : (x.Local == y.Local) = false := by simpa using eLocal
    have HD := hid (show decide (x = y) = false from decide_eq_false fun e => eLocal (by rw [e]))
    clear eLocal
    go_wp2
    go_ret
    exact ⟨ret_bool HD.out.symm, hb0⟩
  have dLocal : (x.Local == y.Local) = true := by simpa using eLocal
  have ELocal := hid eLocal
  clear eLocal
  by_cases eRemote : x.Remote = y.Remote
  rotate_left
  · have dRemote : (x.Remote == y.Remote) = false := by simpa using eRemote
    have HD := hid (show decide (x = y) = false from decide_eq_false fun e => eRemote (by rw [e]))
    clear eRemote
    go_wp2
    go_ret
    exact ⟨ret_bool HD.out.symm, hb0⟩
  have dRemote : (x.Remote == y.Remote) = true := by simpa using eRemote
  have ERemote := hid eRemote
  clear eRemote
  by_cases eReserve : x.Reserve = y.Reserve
  rotate_left
  · have dReserve : (x.Reserve == y.Reserve) = false := by simpa using eReserve
    have HD := hid (show decide (x = y) = false from decide_eq_false fun e => eReserve (by rw [e]))
    clear eReserve
    go_wp2
    go_ret
    exact ⟨ret_bool HD.out.symm, hb0⟩
  have dReserve : (x.Reserve == y.Reserve) = true := by simpa using eReserve
  have EReserve := hid eReserve
  clear eReserve
  by_cases eMost : x.Most = y.Most
  rotate_left
  · have dMost : (x.Most == y.Most) = false := by simpa using eMost
    have HD := hid (show decide (x = y) = false from decide_eq_false fun e => eMost (by rw [e]))
    clear eMost
    go_wp2
    go_ret
    exact ⟨ret_bool HD.out.symm, hb0⟩
  have dMost : (x.Most == y.Most) = true := by simpa using eMost
  have EMost := hid eMost
  clear eMost
  by_cases eO : x.Open = y.Open
  rotate_left
  · have HD := hid (show decide (x = y) = false from decide_eq_false fun e => eO (by rw [e]))
    have dO : (x.Open == y.Open) = false := by simpa using eO
    clear eO
    generalize x.Open = ox at *
    generalize y.Open = oy at *
    go_wp2
    go_ret
    exact ⟨ret_bool HD.out.symm, hb0⟩
  have dO : (x.Open == y.Open) = true := by simpa using eO
  have HD := hid (show decide (x = y) = decide (x.Holds = y.Holds) from decide_eq_decide.2 ⟨fun e => by rw [e], fun e => Chn.ext' EId.out ELocal.out ERemote.out EReserve.out EMost.out e eO⟩)
  clear eO
  generalize x.Open = ox at *
  generalize y.Open = oy at *
  go_wp2_with fail
  with_reducible refine HEQ.out.mono ?_
  rintro e w2 ⟨rfl, m, rfl⟩
  rw [← HD.out]
  go_wp2
  go_ret
  exact ⟨rfl, bel_drewN hb0 _⟩
end Go.Proofs.Ytanlpcndbfmkiaa
namespace Go.Proofs.Ytanlpcndbfmkiaa
open Go.RowKit Go.WalkArith

abbrev addRowH (W : World) (A : Option Addr) (n k j g : Nat) (id m : Int) : World := (W.alloc (Obj.cells #[.int .u64 id, .int .u64 m] 41)).alloc (Obj.cells #[.slice A j k, .slice (some ⟨g, 0, none⟩) 1 1, .slice (cutS lay_Hold.size A k j) (n - j) (k - j)] 24)
theorem addCatH_any (A : Option Addr) (n k j g g1 : Nat) (l : List Hld) (id m : Int) (W : World) (hg : g = W.heap.size) (hg1 : g1 = W.heap.size + 1) (h : Sl lay_Hold W (· < W.heap.size) A n k l) (hj : j ≤ n) (hn : n ≤ 64) (hi : (Lit.int .u64 id).wf = true) (hm : (Lit.int .u64 m).wf = true) :
    Calls Try.prog 83 #[.slice (some ⟨g1, 0, none⟩) 3 3] (addRowH W A n k j g id m) fun e w' => ∃ v', e = .returned v' ∧ OwnL lay_Hold w' W.heap.size (some W.heap.size) 41 v' (l.take j ++ [⟨id, m⟩] ++ l.drop j) ∧ Below W.heap.size W w' := by
  subst hg hg1
  have hb1 : Below W.heap.size W (W.alloc (Obj.cells #[.int .u64 id, .int .u64 m] 41)) := bel_alloc (Below.refl _ _) _
  have hb0 : Below W.heap.size W (addRowH W A n k j W.heap.size id m) := bel_alloc hb1 _
  have hz : (addRowH W A n k j W.heap.size id m).heap.size = W.heap.size + 2 := by simp [addRowH]
  have hg1 : (addRowH W A n k j W.heap.size id m).heap[W.heap.size]? = some (Obj.cells #[.int .u64 id, .int .u64 m] 41) := heap_alloc2_old _ _ _
  have hg2 : (addRowH W A n k j W.heap.size id m).heap[W.heap.size + 1]? = some (Obj.cells #[.slice A j k, .slice (some ⟨W.heap.size, 0, none⟩) 1 1, .slice (cutS lay_Hold.size A k j) (n - j) (k - j)] 24) := heap_alloc2_new _ _ _
  have s1 := (Sl.call h hb0).upto (i := j) hj
  have s3 := (Sl.call h hb0).cut (i := j) hj
  have B2 : BoxH (addRowH W A n k j W.heap.size id m) W.heap.size ⟨id, m⟩ := hg1
  have s2 : Sl lay_Hold (addRowH W A n k j W.heap.size id m) (· < (addRowH W A n k j W.heap.size id m).heap.size) (some ⟨W.heap.size, 0, none⟩) 1 1 [⟨id, m⟩] :=
    Sl.lit1 (cs := [.int .u64 id, .int .u64 m]) (by rw [hz]; omega) (rep_Hold.2 ⟨rfl, ⟨hi, hm⟩⟩) fun i v hv => by
      match i, hv with
      | 0, hv => simp at hv; subst hv; exact B2.c0
      | 1, hv => simp at hv; subst hv; exact B2.c1
  have s : Sl (Lay.slice lay_Hold) (addRowH W A n k j W.heap.size id m) (· < (addRowH W A n k j W.heap.size id m).heap.size) (some ⟨W.heap.size + 1, 0, none⟩) 3 3 [l.take j, [⟨id, m⟩], l.drop j] := by
    refine ⟨rfl, Nat.le_refl _, by unfold maxLen; omega, by simp, fun _ => ⟨W.heap.size + 1, 0, _, rfl, by rw [hz]; omega, ⟨[.slice A j k], [.slice (some ⟨W.heap.size, 0, none⟩) 1 1, .slice (cutS lay_Hold.size A k j) (n - j) (k - j)], rfl, ⟨_, _, _, rfl, s1⟩, ⟨[_], [_], rfl, ⟨_, _, _, rfl, s2⟩, ⟨[_], [], rfl, ⟨_, _, _, rfl, s3⟩, rfl⟩⟩⟩, fun i v hv => ?_⟩⟩
    match i, hv with
    | 0, hv => simp at hv; subst hv; exact Var3.c0 hg2
    | 1, hv => simp at hv; subst hv; exact Var3.c1 hg2
    | 2, hv => simp at hv; subst hv; exact Var3.c2 hg2
  have hl := h.len
  refine (concatH_any _ _ _ _ _ s (by simp; omega)).mono ?_
  rintro e w' ⟨v', rfl, ho, hb⟩
  refine ⟨v', rfl, ?_, bel_call hb0 hb⟩
  have := ho.lows (base' := W.heap.size) (lo' := W.heap.size) hb0.size hb0.size
  simpa using this

set_option maxRecDepth 100000 in
set_option maxHeartbeats 8000000 in
theorem cHold_any (s : Array Value) (c : Chn) (id m : Int) (w : World) (r : lay_Channel.rep w (· < w.heap.size) c s.toList) (hi : (Lit.int .u64 id).wf = true) (hm : (Lit.int .u64 m).wf = true) :
    Calls Try.prog 54 #[.agg s, .int .u64 id, .int .u64 m] w fun e w' => ∃ v, e = .returned (.tuple #[v, .int .i64 (hoE c id m)]) ∧ OwnC w' w.heap.size v (hoC c id m) ∧ Below w.heap.size w w' := by
  obtain ⟨A, n, k, rfl, hw, hs⟩ := agg_Channel r
  clear r
  have HL := hid hs.len
  have hcap := hs.cap
  unfold maxLen at hcap
  have hb0 : Below w.heap.size w ((w.alloc (Obj.cells #[.int .u64 c.Id, .int .u64 c.Local, .int .u64 c.Remote, .int .u64 c.Reserve, .int .u64 c.Most, .slice A n k, .bool c.Open] 26)).alloc (Obj.cells #[.int .u64 0, .int .u64 0, .int .u64 0, .int .u64 0, .int .u64 0, .slice none 0 0, .bool false] 26)) := bel_alloc (bel_alloc (Below.refl _ _) _) _
  have BC : BoxC ((w.alloc (Obj.cells #[.int .u64 c.Id, .int .u64 c.Local, .int .u64 c.Remote, .int .u64 c.Reserve, .int .u64 c.Most, .slice A n k, .bool c.Open] 26)).alloc (Obj.cells #[.int .u64 0, .int .u64 0, .int .u64 0, .int .u64 0, .int .u64 0, .slice none 0 0, .bool false] 26)) w.heap.size c A n k := heap_alloc2_old _ _ _
  have BR : BoxC ((w.alloc (Obj.cells #[.int .u64 c.Id, .int .u64 c.Local, .int .u64 c.Remote, .int .u64 c.Reserve, .int .u64 c.Most, .slice A n k, .bool c.Open] 26)).alloc (Obj.cells #[.int .u64 0, .int .u64 0, .int .u64 0, .int .u64 0, .int .u64 0, .slice none 0 0, .bool false] 26)) (w.heap.size + 1) zeroCh none 0 0 := alloc2_new _ _ _
  have HZ := hid (show ((w.alloc (Obj.cells #[.int .u64 c.Id, .int .u64 c.Local, .int .u64 c.Remote, .int .u64 c.Reserve, .int .u64 c.Most, .slice A n k, .bool c.Open] 26)).alloc (Obj.cells #[.int .u64 0, .int .u64 0, .int .u64 0, .int .u64 0, .int .u64 0, .slice none 0 0, .bool false] 26)).heap.size = w.heap.size + 2 from by simp)
  have S0 := Sl.call hs hb0
  go_enter Try.func54, Try.ntmps54
  go_upto_region 1 with (fail)
  generalize ((w.alloc (Obj.cells #[.int .u64 c.Id, .int .u64 c.Local, .int .u64 c.Remote, .int .u64 c.Reserve, .int .u64 c.Most, .slice A n k, .bool c.Open] 26)).alloc (Obj.cells #[.int .u64 0, .int .u64 0, .int .u64 0, .int .u64 0, .int .u64 0, .slice none 0 0, .bool false] 26)) = W0 at *
  have bm := bounds_u64 hm
  obtain ⟨p0, p1, p2, p3, p4, p5, p6⟩ := BC.all
  go_wp2_with fail
  refine (cHeld_any _ c _ (chan_in hw S0 (Below.refl _ _))).mono ?_
  rintro e w1 ⟨rfl, hb1⟩
  replace BC := BC.call hb1
  replace BR := BR.call hb1
  have HB := bel_call hb0 hb1
  have HX := hb1
  clear p0 p1 p2 p3 p4 p5 p6 hb1
  rcases ch_is (c := c) with ⟨ok, hE⟩ | ⟨ok, hE⟩
  rotate_left
  · rw [hE]
    have HE := hid (show hoE c id m = 1 ∧ hoC c id m = zeroCh from by
      have e : hoE c id m = 1 := if_neg fun h => ok h.1
      exact ⟨e, ho_no (by rw [e]; decide)⟩)
    clear hE ok
    have B9 := hid (BR.set zeroCh none 0 0)
    have HB9 := hid (Below.setBox HB (g := w.heap.size + 1) (Nat.le_succ _) zeroCh none 0 0)
    obtain ⟨z0, z1, z2, z3, z4, z5, z6⟩ := BR.all
    have f0 := BR.f 0
    have f1 := BR.f 1
    have f2 := BR.f 2
    have f3 := BR.f 3
    have f4 := BR.f 4
    have f5 := BR.f 5
    have f6 := BR.f 6
    go_wp2
    refine bodyPost_ret_by (results_ct rfl _ _ (w.heap.size + 1) 0 rfl [.int .u64 0, .int .u64 0, .int .u64 0, .int .u64 0, .int .u64 0, .slice none 0 0, .bool false] _ (range7 B9.out) Try.underlying26 rfl (by kernel_rfl)) rfl ?_
    exact ⟨_, by rw [HE.out.1]; rfl, by rw [HE.out.2]; exact ⟨_, rfl, OwnL.nil _ _ _ _ _⟩, HB9.out⟩
  rw [hE, show heV c = heldN c from if_pos ok]
  clear hE
  by_cases g0 : m = 0
  · have d0 : (m == 0) = true := by simpa using g0
    have HE := hid (show hoE c id m = 1 ∧ hoC c id m = zeroCh from by
      have e : hoE c id m = 1 := if_neg fun h => h.2.1 g0
      exact ⟨e, ho_no (by rw [e]; decide)⟩)
    clear g0 ok
    have B9 := hid (BR.set zeroCh none 0 0)
    have HB9 := hid (Below.setBox HB (g := w.heap.size + 1) (Nat.le_succ _) zeroCh none 0 0)
    obtain ⟨z0, z1, z2, z3, z4, z5, z6⟩ := BR.all
    have f0 := BR.f 0
    have f1 := BR.f 1
    have f2 := BR.f 2
    have f3 := BR.f 3
    have f4 := BR.f 4
    have f5 := BR.f 5
    have f6 := BR.f 6
    go_wp2
    refine bodyPost_ret_by (results_ct rfl _ _ (w.heap.size + 1) 0 rfl [.int .u64 0, .int .u64 0, .int .u64 0, .int .u64 0, .int .u64 0, .slice none 0 0, .bool false] _ (range7 B9.out) Try.underlying26 rfl (by kernel_rfl)) rfl ?_
    exact ⟨_, by rw [HE.out.1]; rfl, by rw [HE.out.2]; exact ⟨_, rfl, OwnL.nil _ _ _ _ _⟩, HB9.out⟩
  have d0 : (m == 0) = false := by simpa using g0
  have HC1 := hid (fun (W : World) => mCheck1_any m W hm)
  rw [chkM_one] at HC1
  go_wp2_with fail
  with_reducible refine (HC1.out _).mono ?_
  rintro e w2 ⟨rfl, hb2⟩
  replace BC := BC.call hb2
  replace BR := BR.call hb2
  replace HB := bel_call HB hb2
  replace HX := bel_call HX hb2
  clear hb2
  by_cases g1 : m ≤ mMax
  rotate_left
  · rw [if_neg g1]
    have HE := hid (show hoE c id m = 1 ∧ hoC c id m = zeroCh from by
      have e : hoE c id m = 1 := if_neg fun h => g1 h.2.2
      exact ⟨e, ho_no (by rw [e]; decide)⟩)
    clear g1
    have B9 := hid (BR.set zeroCh none 0 0)
    have HB9 := hid (Below.setBox HB (g := w.heap.size + 1) (Nat.le_succ _) zeroCh none 0 0)
    obtain ⟨z0, z1, z2, z3, z4, z5, z6⟩ := BR.all
    have f0 := BR.f 0
    have f1 := BR.f 1
    have f2 := BR.f 2
    have f3 := BR.f 3
    have f4 := BR.f 4
    have f5 := BR.f 5
    have f6 := BR.f 6
    go_wp2
    refine bodyPost_ret_by (results_ct rfl _ _ (w.heap.size + 1) 0 rfl [.int .u64 0, .int .u64 0, .int .u64 0, .int .u64 0, .int .u64 0, .slice none 0 0, .bool false] _ (range7 B9.out) Try.underlying26 rfl (by kernel_rfl)) rfl ?_
    exact ⟨_, by rw [HE.out.1]; rfl, by rw [HE.out.2]; exact ⟨_, rfl, OwnL.nil _ _ _ _ _⟩, HB9.out⟩
  rw [if_pos g1]
  have hn64 : n ≤ 64 := by rw [← HL.out]; exact ok.2.2.1
  have hup : UpF Hld.Id c.Holds := ok.2.2.2.2.2.1
  obtain ⟨p0, p1, p2, p3, p4, p5, p6⟩ := BC.all
  go_upto_region 4 with (fail)
  go_wp2_with fail
  with_reducible refine (placeH_any A n k c.Holds id _ (Sl.call S0 HX) hn64 hup).mono ?_
  rintro e w3 ⟨j, rfl, hj, hb3⟩
  replace BC := BC.call hb3
  replace BR := BR.call hb3
  replace HB := bel_call HB hb3
  replace HX := bel_call HX hb3
  clear p0 p1 p2 p3 p4 p5 p6 hb3
  have hjn : j ≤ n := by rw [← HL.out]; exact hj.1
  have HJ := hid hj
  clear hj
  obtain ⟨p0, p1, p2, p3, p4, p5, p6⟩ := BC.all
  obtain ⟨o, ho⟩ : ∃ z, c.Open = z := ⟨_, rfl⟩
  rw [ho] at p6
  have HO := hid ho
  clear ho
  cases o
  · skip
    have HE := hid (show hoE c id m = 14 ∧ hoC c id m = zeroCh from by
      have e : hoE c id m = 14 := by unfold hoE; rw [if_pos ⟨ok, g0, g1⟩, if_pos HO.out]
      exact ⟨e, ho_no (by rw [e]; decide)⟩)
    clear g1
    have B9 := hid (BR.set zeroCh none 0 0)
    have HB9 := hid (Below.setBox HB (g := w.heap.size + 1) (Nat.le_succ _) zeroCh none 0 0)
    obtain ⟨z0, z1, z2, z3, z4, z5, z6⟩ := BR.all
    have f0 := BR.f 0
    have f1 := BR.f 1
    have f2 := BR.f 2
    have f3 := BR.f 3
    have f4 := BR.f 4
    have f5 := BR.f 5
    have f6 := BR.f 6
    go_wp2
    refine bodyPost_ret_by (results_ct rfl _ _ (w.heap.size + 1) 0 rfl [.int .u64 0, .int .u64 0, .int .u64 0, .int .u64 0, .int .u64 0, .slice none 0 0, .bool false] _ (range7 B9.out) Try.underlying26 rfl (by kernel_rfl)) rfl ?_
    exact ⟨_, by rw [HE.out.1]; rfl, by rw [HE.out.2]; exact ⟨_, rfl, OwnL.nil _ _ _ _ _⟩, HB9.out⟩
  have hno : ¬ c.Open = false := by rw [HO.out]; decide
  obtain ⟨hit, hhit⟩ : ∃ z, hitF Hld.Id c.Holds id j = z := ⟨_, rfl⟩
  rw [hhit]
  cases hit
  rotate_left
  · have hF := (HJ.out.find hhit).2.2
    have HE := hid (show hoE c id m = 6 ∧ hoC c id m = zeroCh from by
      have e : hoE c id m = 6 := by
        unfold hoE
        rw [if_pos ⟨ok, g0, g1⟩, if_neg hno, if_pos (by unfold holdF; rw [hF]; rfl)]
      exact ⟨e, ho_no (by rw [e]; decide)⟩)
    clear g1 hF ok hno hhit
    have B9 := hid (BR.set zeroCh none 0 0)
    have HB9 := hid (Below.setBox HB (g := w.heap.size + 1) (Nat.le_succ _) zeroCh none 0 0)
    obtain ⟨z0, z1, z2, z3, z4, z5, z6⟩ := BR.all
    have f0 := BR.f 0
    have f1 := BR.f 1
    have f2 := BR.f 2
    have f3 := BR.f 3
    have f4 := BR.f 4
    have f5 := BR.f 5
    have f6 := BR.f 6
    go_wp2
    refine bodyPost_ret_by (results_ct rfl _ _ (w.heap.size + 1) 0 rfl [.int .u64 0, .int .u64 0, .int .u64 0, .int .u64 0, .int .u64 0, .slice none 0 0, .bool false] _ (range7 B9.out) Try.underlying26 rfl (by kernel_rfl)) rfl ?_
    exact ⟨_, by rw [HE.out.1]; rfl, by rw [HE.out.2]; exact ⟨_, rfl, OwnL.nil _ _ _ _ _⟩, HB9.out⟩
  have hF : holdF c.Holds id = none := HJ.out.none hup hhit
  have HW := hid (show withH c.Holds ⟨id, m⟩ = c.Holds.take j ++ [⟨id, m⟩] ++ c.Holds.drop j from HJ.out.with_new hup hhit ⟨id, m⟩)
  have hns : ¬ (holdF c.Holds id).isSome = true := by rw [hF]; decide
  clear hhit
  by_cases g2 : n = 64
  · have d2 : ((n : Int) == 64) = true := by simp; omega
    have HE := hid (show hoE c id m = 7 ∧ hoC c id m = zeroCh from by
      have e : hoE c id m = 7 := by unfold hoE; rw [if_pos ⟨ok, g0, g1⟩, if_neg hno, if_neg hns, if_pos (by rw [HL.out]; exact g2)]
      exact ⟨e, ho_no (by rw [e]; decide)⟩)
    have HG2 := hid g2
    clear g1 g2 hF ok hno hns
    have B9 := hid (BR.set zeroCh none 0 0)
    have HB9 := hid (Below.setBox HB (g := w.heap.size + 1) (Nat.le_succ _) zeroCh none 0 0)
    obtain ⟨z0, z1, z2, z3, z4, z5, z6⟩ := BR.all
    have f0 := BR.f 0
    have f1 := BR.f 1
    have f2 := BR.f 2
    have f3 := BR.f 3
    have f4 := BR.f 4
    have f5 := BR.f 5
    have f6 := BR.f 6
    go_wp2
    refine bodyPost_ret_by (results_ct rfl _ _ (w.heap.size + 1) 0 rfl [.int .u64 0, .int .u64 0, .int .u64 0, .int .u64 0, .int .u64 0, .slice none 0 0, .bool false] _ (range7 B9.out) Try.underlying26 rfl (by kernel_rfl)) rfl ?_
    exact ⟨_, by rw [HE.out.1]; rfl, by rw [HE.out.2]; exact ⟨_, rfl, OwnL.nil _ _ _ _ _⟩, HB9.out⟩
  have d2 : ((n : Int) == 64) = false := by simp; omega
  have g2p : ¬ c.Holds.length = 64 := by rw [HL.out]; exact g2
  have c1 := bounds_u64 hw.loc
  have c2 := bounds_u64 hw.res
  have c3 := bounds_u64 hw.most
  have hh0 := held_nonneg (c := c) (sl_hlds hs)
  have hh1 : heldN c ≤ c.Most := ok.2.2.2.2.2.2.2.1
  by_cases g3 : c.Local < c.Reserve
  · have d3 : decide (c.Local < c.Reserve) = true := decide_eq_true g3
    have HE := hid (show hoE c id m = 9 ∧ hoC c id m = zeroCh from by
      have e : hoE c id m = 9 := by unfold hoE; rw [if_pos ⟨ok, g0, g1⟩, if_neg hno, if_neg hns, if_neg g2p, if_pos (.inl g3)]
      exact ⟨e, ho_no (by rw [e]; decide)⟩)
    clear g1 g2 g3 hF ok hno hns g2p
    have B9 := hid (BR.set zeroCh none 0 0)
    have HB9 := hid (Below.setBox HB (g := w.heap.size + 1) (Nat.le_succ _) zeroCh none 0 0)
    obtain ⟨z0, z1, z2, z3, z4, z5, z6⟩ := BR.all
    have f0 := BR.f 0
    have f1 := BR.f 1
    have f2 := BR.f 2
    have f3 := BR.f 3
    have f4 := BR.f 4
    have f5 := BR.f 5
    have f6 := BR.f 6
    go_wp2
    refine bodyPost_ret_by (results_ct rfl _ _ (w.heap.size + 1) 0 rfl [.int .u64 0, .int .u64 0, .int .u64 0, .int .u64 0, .int .u64 0, .slice none 0 0, .bool false] _ (range7 B9.out) Try.underlying26 rfl (by kernel_rfl)) rfl ?_
    exact ⟨_, by rw [HE.out.1]; rfl, by rw [HE.out.2]; exact ⟨_, rfl, OwnL.nil _ _ _ _ _⟩, HB9.out⟩
  have d3 : decide (c.Local < c.Reserve) = false := decide_eq_false g3
  have w1e : IntKind.u64.wrap (c.Local - c.Reserve) = c.Local - c.Reserve := IntWalk.u64_in _ (by omega)
  by_cases g4 : c.Local - c.Reserve < m
  · have d4 : decide (c.Local - c.Reserve < m) = true := decide_eq_true g4
    have HE := hid (show hoE c id m = 9 ∧ hoC c id m = zeroCh from by
      have e : hoE c id m = 9 := by unfold hoE; rw [if_pos ⟨ok, g0, g1⟩, if_neg hno, if_neg hns, if_neg g2p, if_pos (.inr g4)]
      exact ⟨e, ho_no (by rw [e]; decide)⟩)
    clear g1 g2 g3 g4 hF ok hno hns g2p
    have B9 := hid (BR.set zeroCh none 0 0)
    have HB9 := hid (Below.setBox HB (g := w.heap.size + 1) (Nat.le_succ _) zeroCh none 0 0)
    obtain ⟨z0, z1, z2, z3, z4, z5, z6⟩ := BR.all
    have f0 := BR.f 0
    have f1 := BR.f 1
    have f2 := BR.f 2
    have f3 := BR.f 3
    have f4 := BR.f 4
    have f5 := BR.f 5
    have f6 := BR.f 6
    go_wp2
    refine bodyPost_ret_by (results_ct rfl _ _ (w.heap.size + 1) 0 rfl [.int .u64 0, .int .u64 0, .int .u64 0, .int .u64 0, .int .u64 0, .slice none 0 0, .bool false] _ (range7 B9.out) Try.underlying26 rfl (by kernel_rfl)) rfl ?_
    exact ⟨_, by rw [HE.out.1]; rfl, by rw [HE.out.2]; exact ⟨_, rfl, OwnL.nil _ _ _ _ _⟩, HB9.out⟩
  have d4 : decide (c.Local - c.Reserve < m) = false := decide_eq_false g4
  have w2e : IntKind.u64.wrap (c.Most - heldN c) = c.Most - heldN c := IntWalk.u64_in _ (by omega)
  by_cases g5 : c.Most - heldN c < m
  · have d5 : decide (c.Most - heldN c < m) = true := decide_eq_true g5
    have HE := hid (show hoE c id m = 8 ∧ hoC c id m = zeroCh from by
      have e : hoE c id m = 8 := by unfold hoE; rw [if_pos ⟨ok, g0, g1⟩, if_neg hno, if_neg hns, if_neg g2p, if_neg (fun q => q.elim g3 g4), if_pos g5]
      exact ⟨e, ho_no (by rw [e]; decide)⟩)
    clear g1 g2 g3 g4 g5 hF ok hno hns g2p
    have B9 := hid (BR.set zeroCh none 0 0)
    have HB9 := hid (Below.setBox HB (g := w.heap.size + 1) (Nat.le_succ _) zeroCh none 0 0)
    obtain ⟨z0, z1, z2, z3, z4, z5, z6⟩ := BR.all
    have f0 := BR.f 0
    have f1 := BR.f 1
    have f2 := BR.f 2
    have f3 := BR.f 3
    have f4 := BR.f 4
    have f5 := BR.f 5
    have f6 := BR.f 6
    go_wp2
    refine bodyPost_ret_by (results_ct rfl _ _ (w.heap.size + 1) 0 rfl [.int .u64 0, .int .u64 0, .int .u64 0, .int .u64 0, .int .u64 0, .slice none 0 0, .bool false] _ (range7 B9.out) Try.underlying26 rfl (by kernel_rfl)) rfl ?_
    exact ⟨_, by rw [HE.out.1]; rfl, by rw [HE.out.2]; exact ⟨_, rfl, OwnL.nil _ _ _ _ _⟩, HB9.out⟩
  have d5 : decide (c.Most - heldN c < m) = false := decide_eq_false g5
  have e0 : hoE c id m = 0 := by unfold hoE; rw [if_pos ⟨ok, g0, g1⟩, if_neg hno, if_neg hns, if_neg g2p, if_neg (fun q => q.elim g3 g4), if_neg g5]
  have QT := hid (And.intro e0 (ho_is e0).2.2.2.2.2.2.2.2.2)
  have w3e : IntKind.u64.wrap (c.Local - m) = c.Local - m := IntWalk.u64_in _ (by omega)
  clear e0 g1 g2 g3 g4 g5 hF ok hno hns g2p c1 c2 c3 hh0 hh1
  have f1 := BC.f 1
  go_upto_region 16 with (fail)
  clear p0 p1 p2 p3 p4 p5 p6 f1
  have BC5 := BC.setLoc (c.Local - m)
  have BR5 := BR.setOther (b := w.heap.size) (by omega) 1 (.int .u64 (c.Local - m))
  have HB5 := HB.setCell (p := ⟨w.heap.size, 1, none⟩) (Nat.le_refl _) (.int .u64 (c.Local - m))
  have hz5 : (w3.setCell ⟨w.heap.size, 1, none⟩ (.int .u64 (c.Local - m))).heap.size = w3.heap.size := by simp
  have hs5 : Sl lay_Hold (w3.setCell ⟨w.heap.size, 1, none⟩ (.int .u64 (c.Local - m))) (· < (w3.setCell ⟨w.heap.size, 1, none⟩ (.int .u64 (c.Local - m))).heap.size) A n k c.Holds := (hs.keep fun p hp => HB5.cell hp).wide fun b hb => Nat.lt_of_lt_of_le hb HB5.size
  have hX5 : W0.heap.size ≤ w3.heap.size := HX.size
  clear BC BR HB HX
  generalize w3.setCell ⟨w.heap.size, 1, none⟩ (.int .u64 (c.Local - m)) = W5 at *
  rw [← hz5] at hX5
  have hlt : w.heap.size < W5.heap.size := by have := HZ.out; omega
  have Y5 := hid BC5.all.2.2.2.2.2.1
  have hsu := run_uptoL (P := Try.prog) 24 41 .i64 Try.underlying24 Try.elemHld Try.infoHld A n k j (by omega)
  have hsf := run_fromL (P := Try.prog) 24 41 .i64 Try.underlying24 Try.elemHld Try.infoHld A n k j (by omega)
  have HCC := hid (addCatH_any A n k j W5.heap.size (W5.heap.size + 1) c.Holds id m (W5.drewN 1) rfl rfl (hs5.keep fun _ _ => rfl) hjn hn64 hi hm)
  clear hz5
  refine wp_region_phase 15 (fun w' : World => w'.cell? ⟨w.heap.size, 5, none⟩ = some (.slice A n k)) (by kernel_rfl) (by kernel_rfl) ?_
  simp only [List.take_succ_cons, List.take_zero, List.drop_succ_cons, List.drop_zero]
  have hS0 : (fun w' : World => w'.cell? ⟨w.heap.size, 5, none⟩ = some (.slice A n k)) (W5.drewN 1) := Y5.out
  rw [show Array.replicate 15 false = #[false, false, false, false, false, false, false, false, false, false, false, false, false, false, false] from rfl]
  refine wpAnyH_at 0 (some 80) (.pointer (some ⟨w.heap.size, 5, none⟩)) rfl rfl (by kernel_rfl) (by kernel_rfl) (by kernel_rfl) (fun _ _ _ h => h) rfl (fun w' hS => by go_simp) hS0 ?_
  simp only [Act.put, List.setIfInBounds_toArray, List.set_cons_zero, List.set_cons_succ]
  refine wpAnyH_at 1 (some 81) (.slice A n k) rfl rfl (by kernel_rfl) (by kernel_rfl) (by kernel_rfl) (fun _ _ _ h => h) rfl (fun w' hS => by have s0 : w'.cell? ⟨w.heap.size, 5, none⟩ = some (.slice A n k) := hS; go_simp) hS0 ?_
  simp only [Act.put, List.setIfInBounds_toArray, List.set_cons_zero, List.set_cons_succ]
  refine wpAnyH_at 2 (some 82) (.int .i64 j) rfl rfl (by kernel_rfl) (by kernel_rfl) (by kernel_rfl) (fun _ _ _ h => h) rfl (fun w' hS => by go_simp) hS0 ?_
  simp only [Act.put, List.setIfInBounds_toArray, List.set_cons_zero, List.set_cons_succ]
  refine wpAnyH_at 3 (some 83) (.slice A j k) rfl rfl (by kernel_rfl) (by kernel_rfl) (by kernel_rfl) (fun _ _ _ h => h) rfl (fun w' hS => by go_simp) hS0 ?_
  simp only [Act.put, List.setIfInBounds_toArray, List.set_cons_zero, List.set_cons_succ]
  refine wpAnyH_at 4 (some 84) (.int .u64 id) rfl rfl (by kernel_rfl) (by kernel_rfl) (by kernel_rfl) (fun _ _ _ h => h) rfl (fun w' hS => by go_simp) hS0 ?_
  simp only [Act.put, List.setIfInBounds_toArray, List.set_cons_zero, List.set_cons_succ]
  refine wpAnyH_at 5 (some 85) (.int .u64 m) rfl rfl (by kernel_rfl) (by kernel_rfl) (by kernel_rfl) (fun _ _ _ h => h) rfl (fun w' hS => by go_simp) hS0 ?_
  simp only [Act.put, List.setIfInBounds_toArray, List.set_cons_zero, List.set_cons_succ]
  refine wpAnyH_at 6 (some 86) (.agg #[.int .u64 id, .int .u64 m]) rfl rfl (by kernel_rfl) (by kernel_rfl) (by kernel_rfl) (fun _ _ _ h => h) rfl (fun w' hS => by go_simp) hS0 ?_
  simp only [Act.put, List.setIfInBounds_toArray, List.set_cons_zero, List.set_cons_succ]
  refine wpAnyH_at 8 (some 88) (.pointer (some ⟨w.heap.size, 5, none⟩)) rfl rfl (by kernel_rfl) (by kernel_rfl) (by kernel_rfl) (fun _ _ _ h => h) rfl (fun w' hS => by go_simp) hS0 ?_
  simp only [Act.put, List.setIfInBounds_toArray, List.set_cons_zero, List.set_cons_succ]
  refine wpAnyH_at 9 (some 89) (.slice A n k) rfl rfl (by kernel_rfl) (by kernel_rfl) (by kernel_rfl) (fun _ _ _ h => h) rfl (fun w' hS => by have s0 : w'.cell? ⟨w.heap.size, 5, none⟩ = some (.slice A n k) := hS; go_simp) hS0 ?_
  simp only [Act.put, List.setIfInBounds_toArray, List.set_cons_zero, List.set_cons_succ]
  refine wpAnyH_at 10 (some 90) (.int .i64 j) rfl rfl (by kernel_rfl) (by kernel_rfl) (by kernel_rfl) (fun _ _ _ h => h) rfl (fun w' hS => by go_simp) hS0 ?_
  simp only [Act.put, List.setIfInBounds_toArray, List.set_cons_zero, List.set_cons_succ]
  refine wpAnyH_at 11 (some 91) (.slice (cutS lay_Hold.size A k j) (n - j) (k - j)) rfl rfl (by kernel_rfl) (by kernel_rfl) (by kernel_rfl) (fun _ _ _ h => h) rfl (fun w' hS => by go_simp) hS0 ?_
  simp only [Act.put, List.setIfInBounds_toArray, List.set_cons_zero, List.set_cons_succ]
  refine wpAnyH_one 7 _ (by kernel_rfl) rfl rfl ?_
  have Z1 := hid (show ((W5.drewN 1).alloc (Obj.cells #[.int .u64 id, .int .u64 m] 41)).cell? ⟨w.heap.size, 5, none⟩ = some (.slice A n k) from (World.cell?_alloc_past _ _ _ hlt).trans Y5.out)
  go_simp
  refine ⟨Z1.out, ?_⟩
  try simp only [Act.put, List.setIfInBounds_toArray, List.set_cons_zero, List.set_cons_succ]
  refine wpAnyH_one 12 _ (by kernel_rfl) rfl rfl ?_
  have Z2 := hid (show (((W5.drewN 1).alloc (Obj.cells #[.int .u64 id, .int .u64 m] 41)).alloc (Obj.cells #[.slice A j k, .slice (some ⟨W5.heap.size, 0, none⟩) 1 1, .slice (cutS lay_Hold.size A k j) (n - j) (k - j)] 24)).cell? ⟨w.heap.size, 5, none⟩ = some (.slice A n k) from (World.cell?_alloc_past _ _ _ (by simp; omega)).trans Z1.out)
  go_simp
  first | refine ⟨Z2.out, ?_⟩ | refine ⟨Z1.out, ?_⟩
  try simp only [Act.put, List.setIfInBounds_toArray, List.set_cons_zero, List.set_cons_succ]
  refine wpAnyH_one 13 _ (by kernel_rfl) rfl rfl ?_
  go_simp
  refine HCC.out.mono ?_
  rintro e w6 ⟨v6, rfl, ho6, hb6⟩
  have Z3 := hid ((hb6.cell (p := ⟨w.heap.size, 5, none⟩) hlt).trans Y5.out)
  refine ⟨Z3.out, ?_⟩
  try simp only [Act.put, List.setIfInBounds_toArray, List.set_cons_zero, List.set_cons_succ]
  refine wpAnyH_at 14 (some 94) (.pointer (some ⟨w.heap.size, 5, none⟩)) rfl rfl (by kernel_rfl) (by kernel_rfl) (by kernel_rfl) (fun _ _ _ h => h) rfl (fun w' hS => by go_simp) Z3.out ?_
  simp only [Act.put, List.setIfInBounds_toArray, List.set_cons_zero, List.set_cons_succ]
  refine wpAnyH_done (by kernel_rfl) ?_ _
  change wpList _ _ _ _ _ _
  obtain ⟨A7, n7, c7, rfl, hs7⟩ := ho6.read
  obtain ⟨d, hd⟩ : ∃ z : Chn, z = ⟨c.Id, c.Local - m, c.Remote, c.Reserve, c.Most, withH c.Holds ⟨id, m⟩, c.Open⟩ := ⟨_, rfl⟩
  have HDT := hid (show hoC c id m = d from by rw [hd]; exact QT.out.2)
  have hb6' : Below W5.heap.size W5 w6 := (Below.refl W5.heap.size W5).drew.trans hb6
  have BC6 := BC5.call hb6'
  have BR6 := BR5.call hb6'
  have HB6 := bel_call HB5 hb6'
  have y5 := BC6.all.2.2.2.2.2.1
  have g5 := BC6.f 5
  have HO6 : OwnL lay_Hold w6 W0.heap.size (some W0.heap.size) 41 (.slice A7 n7 c7) d.Holds := by rw [hd]; show OwnL _ _ _ _ _ _ (withH c.Holds ⟨id, m⟩); rw [HW.out]; exact ho6.lows hX5 hX5
  have BC8 : BoxC (w6.setCell ⟨w.heap.size, 5, none⟩ (.slice A7 n7 c7)) w.heap.size d A7 n7 c7 := by rw [hd]; exact BC6.setHol A7 n7 c7
  have BR8 := BR6.setOther (b := w.heap.size) (by omega) 5 (.slice A7 n7 c7)
  have HB8 := HB6.setCell (p := ⟨w.heap.size, 5, none⟩) (Nat.le_refl _) (.slice A7 n7 c7)
  have HO8 := HO6.setLow (b := w.heap.size) (by rw [HZ.out]; omega) (by rw [HZ.out]; omega) 5 (.slice A7 n7 c7)
  clear BC5 BR5 HB5 hs5 HCC ho6 hb6 hb6' hs7 hsu hsf hd HB6 BR6 BC6 HO6 hS0
  go_upto_region 17 with (fail)
  clear y5 g5
  generalize w6.setCell ⟨w.heap.size, 5, none⟩ (.slice A7 n7 c7) = W8 at *
  have B9 := hid (BR8.set d A7 n7 c7)
  have HB9 := hid (Below.setBox HB8 (g := w.heap.size + 1) (Nat.le_succ _) d A7 n7 c7)
  have HO9 := hid ((OwnL.setBox HO8 (g := w.heap.size + 1) (by rw [HZ.out]; omega) d A7 n7 c7).lows (base' := w.heap.size) (lo' := w.heap.size) (by rw [HZ.out]; omega) (by rw [HZ.out]; omega))
  obtain ⟨p0, p1, p2, p3, p4, p5, p6⟩ := BC8.all
  obtain ⟨z0, z1, z2, z3, z4, z5, z6⟩ := BR8.all
  have f0 := BR8.f 0
  have f1 := BR8.f 1
  have f2 := BR8.f 2
  have f3 := BR8.f 3
  have f4 := BR8.f 4
  have f5 := BR8.f 5
  have f6 := BR8.f 6
  clear BC8 BR8 HB8 HO8
  go_wp2
  refine bodyPost_ret_by (results_ct rfl _ _ (w.heap.size + 1) 0 rfl [.int .u64 d.Id, .int .u64 d.Local, .int .u64 d.Remote, .int .u64 d.Reserve, .int .u64 d.Most, .slice A7 n7 c7, .bool d.Open] _ (range7 B9.out) Try.underlying26 rfl (by kernel_rfl)) rfl ?_
  exact ⟨_, by rw [QT.out.1]; rfl, by rw [HDT.out]; exact ⟨_, rfl, HO9.out⟩, HB9.out⟩

end Go.Proofs.Ytanlpcndbfmkiaa
namespace Go.Proofs.Ytanlpcndbfmkiaa
open Go.RowKit Go.WalkArith

set_option maxRecDepth 100000 in
set_option maxHeartbeats 8000000 in
theorem cPush_any (s : Array Value) (c : Chn) (m : Int) (w : World) (r : lay_Channel.rep w (· < w.heap.size) c s.toList) (hm : (Lit.int .u64 m).wf = true) :
    Calls Try.prog 51 #[.agg s, .int .u64 m] w fun e w' => ∃ v, e = .returned (.tuple #[v, .int .i64 (puE c m)]) ∧ OwnC w' w.heap.size v (puC c m) ∧ Below w.heap.size w w' := by
  obtain ⟨A, n, k, rfl, hw, hs⟩ := agg_Channel r
  clear r
  have HL := hid hs.len
  have hcap := hs.cap
  unfold maxLen at hcap
  have hb0 : Below w.heap.size w ((w.alloc (Obj.cells #[.int .u64 c.Id, .int .u64 c.Local, .int .u64 c.Remote, .int .u64 c.Reserve, .int .u64 c.Most, .slice A n k, .bool c.Open] 26)).alloc (Obj.cells #[.int .u64 0, .int .u64 0, .int .u64 0, .int .u64 0, .int .u64 0, .slice none 0 0, .bool false] 26)) := bel_alloc (bel_alloc (Below.refl _ _) _) _
  have BC : BoxC ((w.alloc (Obj.cells #[.int .u64 c.Id, .int .u64 c.Local, .int .u64 c.Remote, .int .u64 c.Reserve, .int .u64 c.Most, .slice A n k, .bool c.Open] 26)).alloc (Obj.cells #[.int .u64 0, .int .u64 0, .int .u64 0, .int .u64 0, .int .u64 0, .slice none 0 0, .bool false] 26)) w.heap.size c A n k := heap_alloc2_old _ _ _
  have BR : BoxC ((w.alloc (Obj.cells #[.int .u64 c.Id, .int .u64 c.Local, .int .u64 c.Remote, .int .u64 c.Reserve, .int .u64 c.Most, .slice A n k, .bool c.Open] 26)).alloc (Obj.cells #[.int .u64 0, .int .u64 0, .int .u64 0, .int .u64 0, .int .u64 0, .slice none 0 0, .bool false] 26)) (w.heap.size + 1) zeroCh none 0 0 := alloc2_new _ _ _
  have HZ := hid (show ((w.alloc (Obj.cells #[.int .u64 c.Id, .int .u64 c.Local, .int .u64 c.Remote, .int .u64 c.Reserve, .int .u64 c.Most, .slice A n k, .bool c.Open] 26)).alloc (Obj.cells #[.int .u64 0, .int .u64 0, .int .u64 0, .int .u64 0, .int .u64 0, .slice none 0 0, .bool false] 26)).heap.size = w.heap.size + 2 from by simp)
  have S0 := Sl.call hs hb0
  go_enter Try.func51, Try.ntmps51
  go_upto_region 1 with (fail)
  generalize ((w.alloc (Obj.cells #[.int .u64 c.Id, .int .u64 c.Local, .int .u64 c.Remote, .int .u64 c.Reserve, .int .u64 c.Most, .slice A n k, .bool c.Open] 26)).alloc (Obj.cells #[.int .u64 0, .int .u64 0, .int .u64 0, .int .u64 0, .int .u64 0, .slice none 0 0, .bool false] 26)) = W0 at *
  have bm := bounds_u64 hm
  obtain ⟨p0, p1, p2, p3, p4, p5, p6⟩ := BC.all
  go_wp2_with fail
  refine (cCheck_any _ c _ (chan_in hw S0 (Below.refl _ _))).mono ?_
  rintro e w1 ⟨rfl, hb1⟩
  replace BC := BC.call hb1
  replace BR := BR.call hb1
  have HB := bel_call hb0 hb1
  have HX := hb1
  clear p0 p1 p2 p3 p4 p5 p6 hb1
  rcases ch_is (c := c) with ⟨ok, hE⟩ | ⟨ok, hE⟩
  rotate_left
  · rw [hE]
    have HE := hid (show puE c m = 1 ∧ puC c m = zeroCh from by
      have e : puE c m = 1 := if_neg fun h => ok h.1
      exact ⟨e, pu_no (by rw [e]; decide)⟩)
    clear hE ok
    have B9 := hid (BR.set zeroCh none 0 0)
    have HB9 := hid (Below.setBox HB (g := w.heap.size + 1) (Nat.le_succ _) zeroCh none 0 0)
    obtain ⟨z0, z1, z2, z3, z4, z5, z6⟩ := BR.all
    have f0 := BR.f 0
    have f1 := BR.f 1
    have f2 := BR.f 2
    have f3 := BR.f 3
    have f4 := BR.f 4
    have f5 := BR.f 5
    have f6 := BR.f 6
    go_wp2
    refine bodyPost_ret_by (results_ct rfl _ _ (w.heap.size + 1) 0 rfl [.int .u64 0, .int .u64 0, .int .u64 0, .int .u64 0, .int .u64 0, .slice none 0 0, .bool false] _ (range7 B9.out) Try.underlying26 rfl (by kernel_rfl)) rfl ?_
    exact ⟨_, by rw [HE.out.1]; rfl, by rw [HE.out.2]; exact ⟨_, rfl, OwnL.nil _ _ _ _ _⟩, HB9.out⟩
  rw [hE]
  clear hE
  have HC1 := hid (fun (W : World) => mCheck1_any m W hm)
  rw [chkM_one] at HC1
  go_wp2_with fail
  with_reducible refine (HC1.out _).mono ?_
  rintro e w2 ⟨rfl, hb2⟩
  replace BC := BC.call hb2
  replace BR := BR.call hb2
  replace HB := bel_call HB hb2
  replace HX := bel_call HX hb2
  clear hb2
  by_cases g1 : m ≤ mMax
  rotate_left
  · rw [if_neg g1]
    have HE := hid (show puE c m = 1 ∧ puC c m = zeroCh from by
      have e : puE c m = 1 := if_neg fun h => g1 h.2
      exact ⟨e, pu_no (by rw [e]; decide)⟩)
    clear g1
    have B9 := hid (BR.set zeroCh none 0 0)
    have HB9 := hid (Below.setBox HB (g := w.heap.size + 1) (Nat.le_succ _) zeroCh none 0 0)
    obtain ⟨z0, z1, z2, z3, z4, z5, z6⟩ := BR.all
    have f0 := BR.f 0
    have f1 := BR.f 1
    have f2 := BR.f 2
    have f3 := BR.f 3
    have f4 := BR.f 4
    have f5 := BR.f 5
    have f6 := BR.f 6
    go_wp2
    refine bodyPost_ret_by (results_ct rfl _ _ (w.heap.size + 1) 0 rfl [.int .u64 0, .int .u64 0, .int .u64 0, .int .u64 0, .int .u64 0, .slice none 0 0, .bool false] _ (range7 B9.out) Try.underlying26 rfl (by kernel_rfl)) rfl ?_
    exact ⟨_, by rw [HE.out.1]; rfl, by rw [HE.out.2]; exact ⟨_, rfl, OwnL.nil _ _ _ _ _⟩, HB9.out⟩
  rw [if_pos g1]
  obtain ⟨p0, p1, p2, p3, p4, p5, p6⟩ := BC.all
  obtain ⟨o, ho⟩ : ∃ z, c.Open = z := ⟨_, rfl⟩
  rw [ho] at p6
  have HO := hid ho
  clear ho
  cases o
  · skip
    have HE := hid (show puE c m = 14 ∧ puC c m = zeroCh from by
      have e : puE c m = 14 := by unfold puE; rw [if_pos ⟨ok, g1⟩, if_pos HO.out]
      exact ⟨e, pu_no (by rw [e]; decide)⟩)
    clear g1
    have B9 := hid (BR.set zeroCh none 0 0)
    have HB9 := hid (Below.setBox HB (g := w.heap.size + 1) (Nat.le_succ _) zeroCh none 0 0)
    obtain ⟨z0, z1, z2, z3, z4, z5, z6⟩ := BR.all
    have f0 := BR.f 0
    have f1 := BR.f 1
    have f2 := BR.f 2
    have f3 := BR.f 3
    have f4 := BR.f 4
    have f5 := BR.f 5
    have f6 := BR.f 6
    go_wp2
    refine bodyPost_ret_by (results_ct rfl _ _ (w.heap.size + 1) 0 rfl [.int .u64 0, .int .u64 0, .int .u64 0, .int .u64 0, .int .u64 0, .slice none 0 0, .bool false] _ (range7 B9.out) Try.underlying26 rfl (by kernel_rfl)) rfl ?_
    exact ⟨_, by rw [HE.out.1]; rfl, by rw [HE.out.2]; exact ⟨_, rfl, OwnL.nil _ _ _ _ _⟩, HB9.out⟩
  have hno : ¬ c.Open = false := by rw [HO.out]; decide
  by_cases g2 : c.Remote < m
  · have d2 : decide (c.Remote < m) = true := decide_eq_true g2
    have HE := hid (show puE c m = 9 ∧ puC c m = zeroCh from by
      have e : puE c m = 9 := by unfold puE; rw [if_pos ⟨ok, g1⟩, if_neg hno, if_pos g2]
      exact ⟨e, pu_no (by rw [e]; decide)⟩)
    clear g1 g2 ok hno
    have B9 := hid (BR.set zeroCh none 0 0)
    have HB9 := hid (Below.setBox HB (g := w.heap.size + 1) (Nat.le_succ _) zeroCh none 0 0)
    obtain ⟨z0, z1, z2, z3, z4, z5, z6⟩ := BR.all
    have f0 := BR.f 0
    have f1 := BR.f 1
    have f2 := BR.f 2
    have f3 := BR.f 3
    have f4 := BR.f 4
    have f5 := BR.f 5
    have f6 := BR.f 6
    go_wp2
    refine bodyPost_ret_by (results_ct rfl _ _ (w.heap.size + 1) 0 rfl [.int .u64 0, .int .u64 0, .int .u64 0, .int .u64 0, .int .u64 0, .slice none 0 0, .bool false] _ (range7 B9.out) Try.underlying26 rfl (by kernel_rfl)) rfl ?_
    exact ⟨_, by rw [HE.out.1]; rfl, by rw [HE.out.2]; exact ⟨_, rfl, OwnL.nil _ _ _ _ _⟩, HB9.out⟩
  have d2 : decide (c.Remote < m) = false := decide_eq_false g2
  have e0 : puE c m = 0 := by unfold puE; rw [if_pos ⟨ok, g1⟩, if_neg hno, if_neg g2]
  have QT := hid (And.intro e0 (pu_is hw (sl_hlds hs) bm.1 e0).2.2.2.1)
  have c1 := bounds_u64 hw.loc
  have c2 := bounds_u64 hw.rem
  have hn64 : n ≤ 64 := by rw [← HL.out]; exact ok.2.2.1
  have l1 : c.Local ≤ 4611686018427387904 := ok.2.2.2.2.2.2.2.2.1
  have l2 : m ≤ 4611686018427387904 := g1
  have w1e : IntKind.u64.wrap (c.Remote - m) = c.Remote - m := IntWalk.u64_in _ (by omega)
  have w2e : IntKind.u64.wrap (c.Local + m) = c.Local + m := IntWalk.u64_in _ (by omega)
  clear e0 g1 g2 ok hno c1 c2 l1 l2
  have f2 := BC.f 2
  go_upto_region 8 with (fail)
  clear p0 p1 p2 p3 p4 p5 p6 f2
  replace BC := BC.setRem (c.Remote - m)
  replace BR := BR.setOther (b := w.heap.size) (by omega) 2 (.int .u64 (c.Remote - m))
  replace HB := HB.setCell (p := ⟨w.heap.size, 2, none⟩) (Nat.le_refl _) (.int .u64 (c.Remote - m))
  have HZ1 := Nat.le_trans HX.size (Nat.le_of_eq (World.size_setCell w2 ⟨w.heap.size, 2, none⟩ (.int .u64 (c.Remote - m))).symm)
  generalize w2.setCell ⟨w.heap.size, 2, none⟩ (.int .u64 (c.Remote - m)) = W3 at *
  obtain ⟨p0, p1, p2, p3, p4, p5, p6⟩ := BC.all
  have f1 := BC.f 1
  go_upto_region 9 with (fail)
  clear p0 p1 p2 p3 p4 p5 p6 f1
  replace BC := BC.setLoc (c.Local + m)
  replace BR := BR.setOther (b := w.heap.size) (by omega) 1 (.int .u64 (c.Local + m))
  replace HB := HB.setCell (p := ⟨w.heap.size, 1, none⟩) (Nat.le_refl _) (.int .u64 (c.Local + m))
  replace HZ1 := Nat.le_trans HZ1 (Nat.le_of_eq (World.size_setCell W3 ⟨w.heap.size, 1, none⟩ (.int .u64 (c.Local + m))).symm)
  generalize W3.setCell ⟨w.heap.size, 1, none⟩ (.int .u64 (c.Local + m)) = W5 at *
  obtain ⟨p0, p1, p2, p3, p4, p5, p6⟩ := BC.all
  go_wp2_with fail
  with_reducible refine (cloneH_any A n k c.Holds W5 ((hs.keep fun p hp => HB.cell hp).wide fun b hb => Nat.lt_of_lt_of_le hb HB.size) (by omega)).mono ?_
  rintro e w6 ⟨v6, rfl, ho6', hb6⟩
  have ho6 := ho6'.hld W5.heap.size
  obtain ⟨A7, n7, c7, rfl, hs7⟩ := ho6.read
  obtain ⟨d, hd⟩ : ∃ z : Chn, z = ⟨c.Id, c.Local + m, c.Remote - m, c.Reserve, c.Most, c.Holds, c.Open⟩ := ⟨_, rfl⟩
  have HDT := hid (show puC c m = d from by rw [hd]; exact QT.out.2)
  have BC6 := BC.call hb6
  have BR6 := BR.call hb6
  have HB6 := bel_call HB hb6
  have HO6 : OwnL lay_Hold w6 W0.heap.size (some W0.heap.size) 41 (.slice A7 n7 c7) d.Holds := by rw [hd]; exact ho6.lows HZ1 HZ1
  have BC8 : BoxC (w6.setCell ⟨w.heap.size, 5, none⟩ (.slice A7 n7 c7)) w.heap.size d A7 n7 c7 := by rw [hd]; exact BC6.setHol A7 n7 c7
  have BR8 := BR6.setOther (b := w.heap.size) (by omega) 5 (.slice A7 n7 c7)
  have HB8 := HB6.setCell (p := ⟨w.heap.size, 5, none⟩) (Nat.le_refl _) (.slice A7 n7 c7)
  have HO8 := HO6.setLow (b := w.heap.size) (by rw [HZ.out]; omega) (by rw [HZ.out]; omega) 5 (.slice A7 n7 c7)
  clear p0 p1 p2 p3 p4 p5 p6
  have y5 := BC6.all.2.2.2.2.2.1
  have g5 := BC6.f 5
  clear BC BR HB ho6 ho6' hb6 hs7 hd HB6 BR6 BC6 HO6
  go_upto_region 10 with (fail)
  clear y5 g5
  generalize w6.setCell ⟨w.heap.size, 5, none⟩ (.slice A7 n7 c7) = W8 at *
  have B9 := hid (BR8.set d A7 n7 c7)
  have HB9 := hid (Below.setBox HB8 (g := w.heap.size + 1) (Nat.le_succ _) d A7 n7 c7)
  have HO9 := hid ((OwnL.setBox HO8 (g := w.heap.size + 1) (by rw [HZ.out]; omega) d A7 n7 c7).lows (base' := w.heap.size) (lo' := w.heap.size) (by rw [HZ.out]; omega) (by rw [HZ.out]; omega))
  obtain ⟨p0, p1, p2, p3, p4, p5, p6⟩ := BC8.all
  obtain ⟨z0, z1, z2, z3, z4, z5, z6⟩ := BR8.all
  have f0 := BR8.f 0
  have f1 := BR8.f 1
  have f2 := BR8.f 2
  have f3 := BR8.f 3
  have f4 := BR8.f 4
  have f5 := BR8.f 5
  have f6 := BR8.f 6
  clear BC8 BR8 HB8 HO8
  go_wp2
  refine bodyPost_ret_by (results_ct rfl _ _ (w.heap.size + 1) 0 rfl [.int .u64 d.Id, .int .u64 d.Local, .int .u64 d.Remote, .int .u64 d.Reserve, .int .u64 d.Most, .slice A7 n7 c7, .bool d.Open] _ (range7 B9.out) Try.underlying26 rfl (by kernel_rfl)) rfl ?_
  exact ⟨_, by rw [QT.out.1]; rfl, by rw [HDT.out]; exact ⟨_, rfl, HO9.out⟩, HB9.out⟩
set_option maxRecDepth 100000 in
set_option maxHeartbeats 8000000 in
theorem cClose_any (s : Array Value) (c : Chn)  (w : World) (r : lay_Channel.rep w (· < w.heap.size) c s.toList)  :
    Calls Try.prog 48 #[.agg s] w fun e w' => ∃ t, e = .returned (.tuple #[.agg t, .int .i64 (clE c)]) ∧ lay_Channel.rep w' (· < w'.heap.size) (clC c) t.toList ∧ Below w.heap.size w w' := by
  obtain ⟨A, n, k, rfl, hw, hs⟩ := agg_Channel r
  clear r
  have HL := hid hs.len
  have hcap := hs.cap
  unfold maxLen at hcap
  have hb0 : Below w.heap.size w ((w.alloc (Obj.cells #[.int .u64 c.Id, .int .u64 c.Local, .int .u64 c.Remote, .int .u64 c.Reserve, .int .u64 c.Most, .slice A n k, .bool c.Open] 26)).alloc (Obj.cells #[.int .u64 0, .int .u64 0, .int .u64 0, .int .u64 0, .int .u64 0, .slice none 0 0, .bool false] 26)) := bel_alloc (bel_alloc (Below.refl _ _) _) _
  have BC : BoxC ((w.alloc (Obj.cells #[.int .u64 c.Id, .int .u64 c.Local, .int .u64 c.Remote, .int .u64 c.Reserve, .int .u64 c.Most, .slice A n k, .bool c.Open] 26)).alloc (Obj.cells #[.int .u64 0, .int .u64 0, .int .u64 0, .int .u64 0, .int .u64 0, .slice none 0 0, .bool false] 26)) w.heap.size c A n k := heap_alloc2_old _ _ _
  have BR : BoxC ((w.alloc (Obj.cells #[.int .u64 c.Id, .int .u64 c.Local, .int .u64 c.Remote, .int .u64 c.Reserve, .int .u64 c.Most, .slice A n k, .bool c.Open] 26)).alloc (Obj.cells #[.int .u64 0, .int .u64 0, .int .u64 0, .int .u64 0, .int .u64 0, .slice none 0 0, .bool false] 26)) (w.heap.size + 1) zeroCh none 0 0 := alloc2_new _ _ _
  have HZ := hid (show ((w.alloc (Obj.cells #[.int .u64 c.Id, .int .u64 c.Local, .int .u64 c.Remote, .int .u64 c.Reserve, .int .u64 c.Most, .slice A n k, .bool c.Open] 26)).alloc (Obj.cells #[.int .u64 0, .int .u64 0, .int .u64 0, .int .u64 0, .int .u64 0, .slice none 0 0, .bool false] 26)).heap.size = w.heap.size + 2 from by simp)
  have S0 := Sl.call hs hb0
  go_enter Try.func48, Try.ntmps48
  go_upto_region 1 with (fail)
  generalize ((w.alloc (Obj.cells #[.int .u64 c.Id, .int .u64 c.Local, .int .u64 c.Remote, .int .u64 c.Reserve, .int .u64 c.Most, .slice A n k, .bool c.Open] 26)).alloc (Obj.cells #[.int .u64 0, .int .u64 0, .int .u64 0, .int .u64 0, .int .u64 0, .slice none 0 0, .bool false] 26)) = W0 at *
  obtain ⟨p0, p1, p2, p3, p4, p5, p6⟩ := BC.all
  go_wp2_with fail
  refine (cCheck_any _ c _ (chan_in hw S0 (Below.refl _ _))).mono ?_
  rintro e w1 ⟨rfl, hb1⟩
  replace BC := BC.call hb1
  replace BR := BR.call hb1
  have HB := bel_call hb0 hb1
  have HX := hb1
  clear p0 p1 p2 p3 p4 p5 p6 hb1
  rcases ch_is (c := c) with ⟨ok, hE⟩ | ⟨ok, hE⟩
  rotate_left
  · rw [hE]
    have HE := hid (show clE c = 1 ∧ clC c = zeroCh from by
      have e : clE c = 1 := if_neg ok
      exact ⟨e, cl_no (by rw [e]; decide)⟩)
    clear hE ok
    have B9 := hid (BR.set zeroCh none 0 0)
    have HB9 := hid (Below.setBox HB (g := w.heap.size + 1) (Nat.le_succ _) zeroCh none 0 0)
    obtain ⟨z0, z1, z2, z3, z4, z5, z6⟩ := BR.all
    have f0 := BR.f 0
    have f1 := BR.f 1
    have f2 := BR.f 2
    have f3 := BR.f 3
    have f4 := BR.f 4
    have f5 := BR.f 5
    have f6 := BR.f 6
    go_wp2
    refine bodyPost_ret_by (results_ct rfl _ _ (w.heap.size + 1) 0 rfl [.int .u64 0, .int .u64 0, .int .u64 0, .int .u64 0, .int .u64 0, .slice none 0 0, .bool false] _ (range7 B9.out) Try.underlying26 rfl (by kernel_rfl)) rfl ?_
    exact ⟨_, by rw [HE.out.1]; rfl, by rw [HE.out.2]; exact rep_Channel.2 ⟨none, 0, 0, rfl, ⟨by decide, by decide, by decide, by decide, by decide⟩, Sl.nil _ _ _⟩, HB9.out⟩
  rw [hE]
  clear hE
  obtain ⟨p0, p1, p2, p3, p4, p5, p6⟩ := BC.all
  obtain ⟨o, ho⟩ : ∃ z, c.Open = z := ⟨_, rfl⟩
  rw [ho] at p6
  have HO := hid ho
  clear ho
  cases o
  · skip
    have HE := hid (show clE c = 14 ∧ clC c = zeroCh from by
      have e : clE c = 14 := by unfold clE; rw [if_pos ok, if_pos HO.out]
      exact ⟨e, cl_no (by rw [e]; decide)⟩)
    have B9 := hid (BR.set zeroCh none 0 0)
    have HB9 := hid (Below.setBox HB (g := w.heap.size + 1) (Nat.le_succ _) zeroCh none 0 0)
    obtain ⟨z0, z1, z2, z3, z4, z5, z6⟩ := BR.all
    have f0 := BR.f 0
    have f1 := BR.f 1
    have f2 := BR.f 2
    have f3 := BR.f 3
    have f4 := BR.f 4
    have f5 := BR.f 5
    have f6 := BR.f 6
    go_wp2
    refine bodyPost_ret_by (results_ct rfl _ _ (w.heap.size + 1) 0 rfl [.int .u64 0, .int .u64 0, .int .u64 0, .int .u64 0, .int .u64 0, .slice none 0 0, .bool false] _ (range7 B9.out) Try.underlying26 rfl (by kernel_rfl)) rfl ?_
    exact ⟨_, by rw [HE.out.1]; rfl, by rw [HE.out.2]; exact rep_Channel.2 ⟨none, 0, 0, rfl, ⟨by decide, by decide, by decide, by decide, by decide⟩, Sl.nil _ _ _⟩, HB9.out⟩
  have hno : ¬ c.Open = false := by rw [HO.out]; decide
  by_cases g2 : 0 < n
  · have d2 : decide ((0 : Int) < (n : Int)) = true := by simp; omega
    have d2' : decide (0 < n) = true := decide_eq_true g2
    have HE := hid (show clE c = 10 ∧ clC c = zeroCh from by
      have e : clE c = 10 := by unfold clE; rw [if_pos ok, if_neg hno, if_pos (by rw [HL.out]; exact g2)]
      exact ⟨e, cl_no (by rw [e]; decide)⟩)
    have B9 := hid (BR.set zeroCh none 0 0)
    have HB9 := hid (Below.setBox HB (g := w.heap.size + 1) (Nat.le_succ _) zeroCh none 0 0)
    obtain ⟨z0, z1, z2, z3, z4, z5, z6⟩ := BR.all
    have f0 := BR.f 0
    have f1 := BR.f 1
    have f2 := BR.f 2
    have f3 := BR.f 3
    have f4 := BR.f 4
    have f5 := BR.f 5
    have f6 := BR.f 6
    go_wp2
    refine bodyPost_ret_by (results_ct rfl _ _ (w.heap.size + 1) 0 rfl [.int .u64 0, .int .u64 0, .int .u64 0, .int .u64 0, .int .u64 0, .slice none 0 0, .bool false] _ (range7 B9.out) Try.underlying26 rfl (by kernel_rfl)) rfl ?_
    exact ⟨_, by rw [HE.out.1]; rfl, by rw [HE.out.2]; exact rep_Channel.2 ⟨none, 0, 0, rfl, ⟨by decide, by decide, by decide, by decide, by decide⟩, Sl.nil _ _ _⟩, HB9.out⟩
  have d2 : decide ((0 : Int) < (n : Int)) = false := by simp; omega
  have d2' : decide (0 < n) = false := decide_eq_false g2
  have e0 : clE c = 0 := by unfold clE; rw [if_pos ok, if_neg hno, if_neg (by rw [HL.out]; exact g2)]
  have hnil : c.Holds = [] := (cl_is e0).2.2.1
  have QT := hid (And.intro e0 (cl_is e0).2.2.2.1)
  clear e0 g2 hno
  have f6 := BC.f 6
  go_upto_region 8 with (fail)
  clear p0 p1 p2 p3 p4 p5 p6 f6
  replace BC := BC.setOpen false
  replace BR := BR.setOther (b := w.heap.size) (by omega) 6 (.bool false)
  replace HB := HB.setCell (p := ⟨w.heap.size, 6, none⟩) (Nat.le_refl _) (.bool false)
  generalize w1.setCell ⟨w.heap.size, 6, none⟩ (.bool false) = W3 at *
  obtain ⟨p0, p1, p2, p3, p4, p5, p6⟩ := BC.all
  have f5 := BC.f 5
  go_upto_region 9 with (fail)
  clear p0 p1 p2 p3 p4 p5 p6 f5
  obtain ⟨d, hd⟩ : ∃ z : Chn, z = ⟨c.Id, c.Local, c.Remote, c.Reserve, c.Most, c.Holds, false⟩ := ⟨_, rfl⟩
  have HDT := hid (show clC c = d from by rw [hd]; exact QT.out.2)
  have BC8 : BoxC (W3.setCell ⟨w.heap.size, 5, none⟩ (.slice none 0 0)) w.heap.size d none 0 0 := by rw [hd]; exact BC.setHol none 0 0
  have BR8 := BR.setOther (b := w.heap.size) (by omega) 5 (.slice none 0 0)
  have HB8 := HB.setCell (p := ⟨w.heap.size, 5, none⟩) (Nat.le_refl _) (.slice none 0 0)
  have HDW := hid (show ChnWf d ∧ d.Holds = [] from by rw [hd]; exact ⟨⟨hw.id, hw.loc, hw.rem, hw.res, hw.most⟩, hnil⟩)
  clear BC BR HB hd hnil
  generalize W3.setCell ⟨w.heap.size, 5, none⟩ (.slice none 0 0) = W8 at *
  have B9 := hid (BR8.set d none 0 0)
  have HB9 := hid (Below.setBox HB8 (g := w.heap.size + 1) (Nat.le_succ _) d none 0 0)
  obtain ⟨p0, p1, p2, p3, p4, p5, p6⟩ := BC8.all
  obtain ⟨z0, z1, z2, z3, z4, z5, z6⟩ := BR8.all
  have f0 := BR8.f 0
  have f1 := BR8.f 1
  have f2 := BR8.f 2
  have f3 := BR8.f 3
  have f4 := BR8.f 4
  have f5 := BR8.f 5
  have f6 := BR8.f 6
  clear BC8 BR8 HB8
  go_wp2
  refine bodyPost_ret_by (results_ct rfl _ _ (w.heap.size + 1) 0 rfl [.int .u64 d.Id, .int .u64 d.Local, .int .u64 d.Remote, .int .u64 d.Reserve, .int .u64 d.Most, .slice none 0 0, .bool d.Open] _ (range7 B9.out) Try.underlying26 rfl (by kernel_rfl)) rfl ?_
  exact ⟨_, by rw [QT.out.1]; rfl, by rw [HDT.out]; exact rep_Channel.2 ⟨none, 0, 0, rfl, HDW.out.1, by rw [HDW.out.2]; exact Sl.nil _ _ _⟩, HB9.out⟩
end Go.Proofs.Ytanlpcndbfmkiaa
namespace Go.Proofs.Ytanlpcndbfmkiaa
open Go.RowKit Go.WalkArith

theorem two_rows {w : World} {g : Nat} {x y : Value} {t : TypeId} (h : w.heap[g]? = some (.cells #[x, y] t)) : w.cell? ⟨g, 0, none⟩ = some x ∧ w.cell? ⟨g, 1, none⟩ = some y := by
  constructor <;> simp [World.cell?, h]
theorem cutCatH_any (A : Option Addr) (n k j q g : Nat) (l : List Hld) (W : World) (hg : g = W.heap.size) (h : Sl lay_Hold W (· < W.heap.size) A n k l) (hj : j < n) (hq : q = j + 1) (hn : n ≤ 64) :
    Calls Try.prog 83 #[.slice (some ⟨g, 0, none⟩) 2 2] (W.alloc (Obj.cells #[.slice A j k, .slice (cutS lay_Hold.size A k q) (n - q) (k - q)] 24)) fun e w' => ∃ v', e = .returned v' ∧ OwnL lay_Hold w' W.heap.size (some W.heap.size) 41 v' (l.take j ++ l.drop q) ∧ Below W.heap.size W w' := by
  subst hg
  have hb0 : Below W.heap.size W (W.alloc (Obj.cells #[.slice A j k, .slice (cutS lay_Hold.size A k q) (n - q) (k - q)] 24)) := bel_alloc (Below.refl _ _) _
  have hz : (W.alloc (Obj.cells #[.slice A j k, .slice (cutS lay_Hold.size A k q) (n - q) (k - q)] 24)).heap.size = W.heap.size + 1 := by simp
  obtain ⟨c0, c1⟩ := two_rows (heap_alloc_new W (Obj.cells #[.slice A j k, .slice (cutS lay_Hold.size A k q) (n - q) (k - q)] 24))
  have s1 := (Sl.call h hb0).upto (i := j) (by omega)
  have s3 := (Sl.call h hb0).cut (i := q) (by omega)
  have s : Sl (Lay.slice lay_Hold) (W.alloc (Obj.cells #[.slice A j k, .slice (cutS lay_Hold.size A k q) (n - q) (k - q)] 24)) (· < (W.alloc (Obj.cells #[.slice A j k, .slice (cutS lay_Hold.size A k q) (n - q) (k - q)] 24)).heap.size) (some ⟨W.heap.size, 0, none⟩) 2 2 [l.take j, l.drop q] := by
    refine ⟨rfl, Nat.le_refl _, by unfold maxLen; omega, by simp, fun _ => ⟨W.heap.size, 0, _, rfl, by rw [hz]; omega, ⟨[.slice A j k], [.slice (cutS lay_Hold.size A k q) (n - q) (k - q)], rfl, ⟨_, _, _, rfl, s1⟩, ⟨[_], [], rfl, ⟨_, _, _, rfl, s3⟩, rfl⟩⟩, fun i v hv => ?_⟩⟩
    match i, hv with
    | 0, hv => simp at hv; subst hv; exact c0
    | 1, hv => simp at hv; subst hv; exact c1
  have hl := h.len
  refine (concatH_any _ _ _ _ _ s (by simp; omega)).mono ?_
  rintro e w' ⟨v', rfl, ho, hb⟩
  refine ⟨v', rfl, ?_, bel_call hb0 hb⟩
  have := ho.lows (base' := W.heap.size) (lo' := W.heap.size) hb0.size hb0.size
  simpa using this
theorem less_at {l : List Hld} (hu : HUp l) {id : Int} {j : Nat} (hj : j < l.length) (he : l[j].Id = id) : lessH l id = l.take j ++ l.drop (j + 1) := by
  unfold lessH
  conv => lhs; rw [← List.take_append_drop j l, List.drop_eq_getElem_cons hj]
  rw [List.filter_append, List.filter_cons, if_neg (by simp [he]), List.filter_eq_self.2, List.filter_eq_self.2]
  · intro x hx
    obtain ⟨i, hi, rfl⟩ := List.getElem_of_mem hx
    rw [List.getElem_drop]
    rw [List.length_drop] at hi
    have := List.pairwise_iff_getElem.1 hu j (j + 1 + i) hj (by omega) (by omega)
    have h2 : l[j + 1 + i].Id ≠ id := by omega
    simpa using h2
  · intro x hx
    obtain ⟨i, hi, rfl⟩ := List.getElem_of_mem hx
    rw [List.getElem_take]
    rw [List.length_take] at hi
    have := List.pairwise_iff_getElem.1 hu i j (by omega) hj (by omega)
    have h2 : l[i].Id ≠ id := by omega
    simpa using h2

set_option maxRecDepth 100000 in
set_option maxHeartbeats 4000000 in
theorem giveSettle_any (c : Chn) (A : Option Addr) (n k : Nat) (r : Int) (w : World) (hwr : IntKind.u64.wrap (c.Remote + r) = c.Remote + r) :
    Calls Try.prog 87 #[.agg #[.int .u64 c.Id, .int .u64 c.Local, .int .u64 c.Remote, .int .u64 c.Reserve, .int .u64 c.Most, .slice A n k, .bool c.Open], .int .u64 r] w fun e w' => e = .returned (.agg #[.int .u64 c.Id, .int .u64 c.Local, .int .u64 (c.Remote + r), .int .u64 c.Reserve, .int .u64 c.Most, .slice A n k, .bool c.Open]) ∧ Below w.heap.size w w' := by
  have hb0 : Below w.heap.size w ((w.alloc (Obj.cells #[.int .u64 c.Id, .int .u64 c.Local, .int .u64 c.Remote, .int .u64 c.Reserve, .int .u64 c.Most, .slice A n k, .bool c.Open] 26)).alloc (Obj.cells #[.int .u64 0, .int .u64 0, .int .u64 0, .int .u64 0, .int .u64 0, .slice none 0 0, .bool false] 26)) := bel_alloc (bel_alloc (Below.refl _ _) _) _
  have BC : BoxC ((w.alloc (Obj.cells #[.int .u64 c.Id, .int .u64 c.Local, .int .u64 c.Remote, .int .u64 c.Reserve, .int .u64 c.Most, .slice A n k, .bool c.Open] 26)).alloc (Obj.cells #[.int .u64 0, .int .u64 0, .int .u64 0, .int .u64 0, .int .u64 0, .slice none 0 0, .bool false] 26)) w.heap.size c A n k := heap_alloc2_old _ _ _
  have BR : BoxC ((w.alloc (Obj.cells #[.int .u64 c.Id, .int .u64 c.Local, .int .u64 c.Remote, .int .u64 c.Reserve, .int .u64 c.Most, .slice A n k, .bool c.Open] 26)).alloc (Obj.cells #[.int .u64 0, .int .u64 0, .int .u64 0, .int .u64 0, .int .u64 0, .slice none 0 0, .bool false] 26)) (w.heap.size + 1) zeroCh none 0 0 := alloc2_new _ _ _
  have HZ := hid (show ((w.alloc (Obj.cells #[.int .u64 c.Id, .int .u64 c.Local, .int .u64 c.Remote, .int .u64 c.Reserve, .int .u64 c.Most, .slice A n k, .bool c.Open] 26)).alloc (Obj.cells #[.int .u64 0, .int .u64 0, .int .u64 0, .int .u64 0, .int .u64 0, .slice none 0 0, .bool false] 26)).heap.size = w.heap.size + 2 from by simp)
  go_enter Try.func87, Try.ntmps87
  go_upto_region 1 with (fail)
  generalize ((w.alloc (Obj.cells #[.int .u64 c.Id, .int .u64 c.Local, .int .u64 c.Remote, .int .u64 c.Reserve, .int .u64 c.Most, .slice A n k, .bool c.Open] 26)).alloc (Obj.cells #[.int .u64 0, .int .u64 0, .int .u64 0, .int .u64 0, .int .u64 0, .slice none 0 0, .bool false] 26)) = W0 at *
  obtain ⟨d, hd⟩ : ∃ z : Chn, z = ⟨c.Id, c.Local, c.Remote + r, c.Reserve, c.Most, c.Holds, c.Open⟩ := ⟨_, rfl⟩
  have HDD := hid (show (#[.int .u64 c.Id, .int .u64 c.Local, .int .u64 (c.Remote + r), .int .u64 c.Reserve, .int .u64 c.Most, .slice A n k, .bool c.Open] : Array Value) = #[.int .u64 d.Id, .int .u64 d.Local, .int .u64 d.Remote, .int .u64 d.Reserve, .int .u64 d.Most, .slice A n k, .bool d.Open] from by rw [hd])
  have BC8 : BoxC (W0.setCell ⟨w.heap.size, 2, none⟩ (.int .u64 (c.Remote + r))) w.heap.size d A n k := by rw [hd]; exact BC.setRem (c.Remote + r)
  have BR8 := BR.setOther (b := w.heap.size) (by omega) 2 (.int .u64 (c.Remote + r))
  have HB8 := hb0.setCell (p := ⟨w.heap.size, 2, none⟩) (Nat.le_refl _) (.int .u64 (c.Remote + r))
  obtain ⟨p0, p1, p2, p3, p4, p5, p6⟩ := BC.all
  have g := BC.f 2
  clear hd BC BR
  go_upto_region 2 with (fail)
  clear p0 p1 p2 p3 p4 p5 p6 g
  generalize W0.setCell ⟨w.heap.size, 2, none⟩ (.int .u64 (c.Remote + r)) = W8 at *
  have B9 := hid (BR8.set d A n k)
  have HB9 := hid (Below.setBox HB8 (g := w.heap.size + 1) (Nat.le_succ _) d A n k)
  obtain ⟨p0, p1, p2, p3, p4, p5, p6⟩ := BC8.all
  obtain ⟨z0, z1, z2, z3, z4, z5, z6⟩ := BR8.all
  have f0 := BR8.f 0
  have f1 := BR8.f 1
  have f2 := BR8.f 2
  have f3 := BR8.f 3
  have f4 := BR8.f 4
  have f5 := BR8.f 5
  have f6 := BR8.f 6
  clear BC8 BR8 HB8
  go_wp2
  refine bodyPost_ret_by (results_c rfl _ _ (w.heap.size + 1) 0 rfl [.int .u64 d.Id, .int .u64 d.Local, .int .u64 d.Remote, .int .u64 d.Reserve, .int .u64 d.Most, .slice A n k, .bool d.Open] _ (range7 B9.out) Try.underlying26 rfl (by kernel_rfl)) rfl ?_
  exact ⟨by rw [HDD.out], HB9.out⟩

set_option maxRecDepth 100000 in
set_option maxHeartbeats 8000000 in
theorem endSettle_any (s : Array Value) (c : Chn) (id : Int) (w : World) (r : lay_Channel.rep w (· < w.heap.size) c s.toList) :
    Calls Try.prog 85 #[.agg s, .int .u64 id, .func (.func 87) #[] #[]] w fun e w' => ∃ v, e = .returned (.tuple #[v, .int .u64 (wtN c id), .int .i64 (wtE c id)]) ∧ OwnC w' w.heap.size v (seC c id) ∧ Below w.heap.size w w' := by
  obtain ⟨A, n, k, rfl, hw, hs⟩ := agg_Channel r
  clear r
  have HL := hid hs.len
  have hcap := hs.cap
  unfold maxLen at hcap
  have hb0 : Below w.heap.size w ((w.alloc (Obj.cells #[.int .u64 c.Id, .int .u64 c.Local, .int .u64 c.Remote, .int .u64 c.Reserve, .int .u64 c.Most, .slice A n k, .bool c.Open] 26)).alloc (Obj.cells #[.int .u64 0, .int .u64 0, .int .u64 0, .int .u64 0, .int .u64 0, .slice none 0 0, .bool false] 26)) := bel_alloc (bel_alloc (Below.refl _ _) _) _
  have BC : BoxC ((w.alloc (Obj.cells #[.int .u64 c.Id, .int .u64 c.Local, .int .u64 c.Remote, .int .u64 c.Reserve, .int .u64 c.Most, .slice A n k, .bool c.Open] 26)).alloc (Obj.cells #[.int .u64 0, .int .u64 0, .int .u64 0, .int .u64 0, .int .u64 0, .slice none 0 0, .bool false] 26)) w.heap.size c A n k := heap_alloc2_old _ _ _
  have BR : BoxC ((w.alloc (Obj.cells #[.int .u64 c.Id, .int .u64 c.Local, .int .u64 c.Remote, .int .u64 c.Reserve, .int .u64 c.Most, .slice A n k, .bool c.Open] 26)).alloc (Obj.cells #[.int .u64 0, .int .u64 0, .int .u64 0, .int .u64 0, .int .u64 0, .slice none 0 0, .bool false] 26)) (w.heap.size + 1) zeroCh none 0 0 := alloc2_new _ _ _
  have HZ := hid (show ((w.alloc (Obj.cells #[.int .u64 c.Id, .int .u64 c.Local, .int .u64 c.Remote, .int .u64 c.Reserve, .int .u64 c.Most, .slice A n k, .bool c.Open] 26)).alloc (Obj.cells #[.int .u64 0, .int .u64 0, .int .u64 0, .int .u64 0, .int .u64 0, .slice none 0 0, .bool false] 26)).heap.size = w.heap.size + 2 from by simp)
  have S0 := Sl.call hs hb0
  go_enter Try.func85, Try.ntmps85
  go_upto_region 1 with (fail)
  generalize ((w.alloc (Obj.cells #[.int .u64 c.Id, .int .u64 c.Local, .int .u64 c.Remote, .int .u64 c.Reserve, .int .u64 c.Most, .slice A n k, .bool c.Open] 26)).alloc (Obj.cells #[.int .u64 0, .int .u64 0, .int .u64 0, .int .u64 0, .int .u64 0, .slice none 0 0, .bool false] 26)) = W0 at *
  obtain ⟨p0, p1, p2, p3, p4, p5, p6⟩ := BC.all
  go_wp2_with fail
  refine (cCheck_any _ c _ (chan_in hw S0 (Below.refl _ _))).mono ?_
  rintro e w1 ⟨rfl, hb1⟩
  replace BC := BC.call hb1
  replace BR := BR.call hb1
  have HB := bel_call hb0 hb1
  have HX := hb1
  clear p0 p1 p2 p3 p4 p5 p6 hb1
  rcases ch_is (c := c) with ⟨ok, hE⟩ | ⟨ok, hE⟩
  rotate_left
  · rw [hE]
    have HE := hid (show wtE c id = 1 ∧ wtN c id = 0 ∧ seC c id = zeroCh from by
      have e : wtE c id = 1 := if_neg ok
      have q := wt_no (c := c) (id := id) (by rw [e]; decide)
      exact ⟨e, q.1, q.2.1⟩)
    clear hE ok
    have B9 := hid (BR.set zeroCh none 0 0)
    have HB9 := hid (Below.setBox HB (g := w.heap.size + 1) (Nat.le_succ _) zeroCh none 0 0)
    obtain ⟨z0, z1, z2, z3, z4, z5, z6⟩ := BR.all
    have f0 := BR.f 0
    have f1 := BR.f 1
    have f2 := BR.f 2
    have f3 := BR.f 3
    have f4 := BR.f 4
    have f5 := BR.f 5
    have f6 := BR.f 6
    go_wp2
    refine bodyPost_ret_by (results_ctt rfl _ _ (w.heap.size + 1) 0 rfl [.int .u64 0, .int .u64 0, .int .u64 0, .int .u64 0, .int .u64 0, .slice none 0 0, .bool false] _ (range7 B9.out) Try.underlying26 rfl (by kernel_rfl)) rfl ?_
    exact ⟨_, by rw [HE.out.1, HE.out.2.1]; rfl, by rw [HE.out.2.2]; exact ⟨_, rfl, OwnL.nil _ _ _ _ _⟩, HB9.out⟩
  rw [hE]
  clear hE
  have hn64 : n ≤ 64 := by rw [← HL.out]; exact ok.2.2.1
  have hup : UpF Hld.Id c.Holds := ok.2.2.2.2.2.1
  obtain ⟨p0, p1, p2, p3, p4, p5, p6⟩ := BC.all
  go_upto_region 4 with (fail)
  go_wp2_with fail
  with_reducible refine (placeH_any A n k c.Holds id _ (Sl.call S0 HX) hn64 hup).mono ?_
  rintro e w3 ⟨j, rfl, hj, hb3⟩
  replace BC := BC.call hb3
  replace BR := BR.call hb3
  replace HB := bel_call HB hb3
  replace HX := bel_call HX hb3
  clear p0 p1 p2 p3 p4 p5 p6 hb3
  have HJ := hid hj
  clear hj
  obtain ⟨hit, hhit⟩ : ∃ z, hitF Hld.Id c.Holds id j = z := ⟨_, rfl⟩
  rw [hhit]
  cases hit
  · have hF : holdF c.Holds id = none := HJ.out.none hup hhit
    have HE := hid (show wtE c id = 5 ∧ wtN c id = 0 ∧ seC c id = zeroCh from by
      have e : wtE c id = 5 := (wt_none ok hF).1
      have q := wt_no (c := c) (id := id) (by rw [e]; decide)
      exact ⟨e, q.1, q.2.1⟩)
    clear hF ok hhit
    have B9 := hid (BR.set zeroCh none 0 0)
    have HB9 := hid (Below.setBox HB (g := w.heap.size + 1) (Nat.le_succ _) zeroCh none 0 0)
    obtain ⟨z0, z1, z2, z3, z4, z5, z6⟩ := BR.all
    have f0 := BR.f 0
    have f1 := BR.f 1
    have f2 := BR.f 2
    have f3 := BR.f 3
    have f4 := BR.f 4
    have f5 := BR.f 5
    have f6 := BR.f 6
    go_wp2
    refine bodyPost_ret_by (results_ctt rfl _ _ (w.heap.size + 1) 0 rfl [.int .u64 0, .int .u64 0, .int .u64 0, .int .u64 0, .int .u64 0, .slice none 0 0, .bool false] _ (range7 B9.out) Try.underlying26 rfl (by kernel_rfl)) rfl ?_
    exact ⟨_, by rw [HE.out.1, HE.out.2.1]; rfl, by rw [HE.out.2.2]; exact ⟨_, rfl, OwnL.nil _ _ _ _ _⟩, HB9.out⟩
  obtain ⟨hj1, hj2, hF⟩ := HJ.out.find hhit
  obtain ⟨q1, q2⟩ := wt_of ok (show holdF c.Holds id = some c.Holds[j] from hF)
  have HW := hid (show lessH c.Holds id = c.Holds.take j ++ c.Holds.drop (j + 1) from less_at hup hj1 hj2)
  have hjn : j < n := by rw [← HL.out]; exact hj1
  have hsi := se_is hw (sl_hlds hs) q1
  have QT := hid (show wtE c id = 0 ∧ wtN c id = c.Holds[j].N ∧ seC c id = ⟨c.Id, c.Local, c.Remote + c.Holds[j].N, c.Reserve, c.Most, lessH c.Holds id, c.Open⟩ from ⟨q1, q2, by rw [hsi.1, q2]⟩)
  have hN := (bounds_u64 ((sl_hlds hs) _ (List.getElem_mem hj1)).num)
  have c1 := bounds_u64 hw.loc
  have c2 := bounds_u64 hw.rem
  have hwr : IntKind.u64.wrap (c.Remote + c.Holds[j].N) = c.Remote + c.Holds[j].N := by
    have e := hsi.2.2.2.rem
    rw [hsi.1, q2] at e
    exact IntWalk.u64_in _ (bounds_u64 e)
  clear q1 q2 hsi hN c1 c2 hhit hF hj2 ok
  obtain ⟨b1, o1, hx1, hA1, hb1, t1, t2, hwh⟩ := hld_at (Sl.call S0 HX) hjn
  subst hA1
  obtain ⟨p0, p1, p2, p3, p4, p5, p6⟩ := BC.all
  go_upto_region 8 with (fail)
  clear p0 p1 p2 p3 p4 p5 p6 t1 t2 hwh
  obtain ⟨r, hr⟩ : ∃ z, c.Holds[j].N = z := ⟨_, rfl⟩
  rw [hr] at QT hwr ⊢
  have HRR := hid hr
  clear hr
  have HS5 := hid (Sl.call S0 HX)
  have hX5 : W0.heap.size ≤ w3.heap.size := HX.size
  have BC5 := BC
  have BR5 := BR
  have HB5 := HB
  clear BC BR HB HX
  generalize w3 = W5 at *
  have hlt : w.heap.size < W5.heap.size := by have := HZ.out; omega
  have Y5 := hid BC5.all.2.2.2.2.2.1
  obtain ⟨q, hq⟩ : ∃ q : Nat, q = j + 1 := ⟨_, rfl⟩
  have hqn : q ≤ n := by omega
  have hqn2 : (0 : Int) ≤ (q : Int) ∧ (q : Int) ≤ (n : Int) := by omega
  have hsu := run_uptoL (P := Try.prog) 24 41 .i64 Try.underlying24 Try.elemHld Try.infoHld (some ⟨b1, o1, none⟩) n k j (by omega)
  have hsf := run_fromL (P := Try.prog) 24 41 .i64 Try.underlying24 Try.elemHld Try.infoHld (some ⟨b1, o1, none⟩) n k q (by omega)
  have hw1 : IntKind.i64.wrap ((j : Int) + 1) = (q : Int) := by rw [hq]; exact IntWalk.i64_in _ (by omega)
  have HCC := hid (cutCatH_any (some ⟨b1, o1, none⟩) n k j q W5.heap.size c.Holds (W5.drewN 1) rfl (HS5.out.keep fun _ _ => rfl) hjn hq hn64)
  rw [← hq] at HW
  have HQ := hid hq
  clear hq
  refine wp_region_phase 12 (fun w' : World => w'.cell? ⟨w.heap.size, 5, none⟩ = some (.slice (some ⟨b1, o1, none⟩) n k)) (by kernel_rfl) (by kernel_rfl) ?_
  simp only [List.take_succ_cons, List.take_zero, List.drop_succ_cons, List.drop_zero]
  have hS0 : (fun w' : World => w'.cell? ⟨w.heap.size, 5, none⟩ = some (.slice (some ⟨b1, o1, none⟩) n k)) (W5.drewN 1) := Y5.out
  rw [show Array.replicate 12 false = #[false, false, false, false, false, false, false, false, false, false, false, false] from rfl]
  refine wpAnyH_at 0 (some 35) (.pointer (some ⟨w.heap.size, 5, none⟩)) rfl rfl (by kernel_rfl) (by kernel_rfl) (by kernel_rfl) (fun _ _ _ h => h) rfl (fun w' hS => by go_simp) hS0 ?_
  simp only [Act.put, List.setIfInBounds_toArray, List.set_cons_zero, List.set_cons_succ]
  refine wpAnyH_at 1 (some 36) (.slice (some ⟨b1, o1, none⟩) n k) rfl rfl (by kernel_rfl) (by kernel_rfl) (by kernel_rfl) (fun _ _ _ h => h) rfl (fun w' hS => by have s0 : w'.cell? ⟨w.heap.size, 5, none⟩ = some (.slice (some ⟨b1, o1, none⟩) n k) := hS; go_simp) hS0 ?_
  simp only [Act.put, List.setIfInBounds_toArray, List.set_cons_zero, List.set_cons_succ]
  refine wpAnyH_at 2 (some 37) (.int .i64 j) rfl rfl (by kernel_rfl) (by kernel_rfl) (by kernel_rfl) (fun _ _ _ h => h) rfl (fun w' hS => by go_simp) hS0 ?_
  simp only [Act.put, List.setIfInBounds_toArray, List.set_cons_zero, List.set_cons_succ]
  refine wpAnyH_at 3 (some 38) (.slice (some ⟨b1, o1, none⟩) j k) rfl rfl (by kernel_rfl) (by kernel_rfl) (by kernel_rfl) (fun _ _ _ h => h) rfl (fun w' hS => by go_simp) hS0 ?_
  simp only [Act.put, List.setIfInBounds_toArray, List.set_cons_zero, List.set_cons_succ]
  refine wpAnyH_at 4 (some 39) (.pointer (some ⟨w.heap.size, 5, none⟩)) rfl rfl (by kernel_rfl) (by kernel_rfl) (by kernel_rfl) (fun _ _ _ h => h) rfl (fun w' hS => by go_simp) hS0 ?_
  simp only [Act.put, List.setIfInBounds_toArray, List.set_cons_zero, List.set_cons_succ]
  refine wpAnyH_at 5 (some 40) (.slice (some ⟨b1, o1, none⟩) n k) rfl rfl (by kernel_rfl) (by kernel_rfl) (by kernel_rfl) (fun _ _ _ h => h) rfl (fun w' hS => by have s0 : w'.cell? ⟨w.heap.size, 5, none⟩ = some (.slice (some ⟨b1, o1, none⟩) n k) := hS; go_simp) hS0 ?_
  simp only [Act.put, List.setIfInBounds_toArray, List.set_cons_zero, List.set_cons_succ]
  refine wpAnyH_at 6 (some 41) (.int .i64 j) rfl rfl (by kernel_rfl) (by kernel_rfl) (by kernel_rfl) (fun _ _ _ h => h) rfl (fun w' hS => by go_simp) hS0 ?_
  simp only [Act.put, List.setIfInBounds_toArray, List.set_cons_zero, List.set_cons_succ]
  refine wpAnyH_at 7 (some 42) (.int .i64 (q : Int)) rfl rfl (by kernel_rfl) (by kernel_rfl) (by kernel_rfl) (fun _ _ _ h => h) rfl (fun w' hS => by go_simp) hS0 ?_
  simp only [Act.put, List.setIfInBounds_toArray, List.set_cons_zero, List.set_cons_succ]
  refine wpAnyH_at 8 (some 43) (.slice (cutS lay_Hold.size (some ⟨b1, o1, none⟩) k q) (n - q) (k - q)) rfl rfl (by kernel_rfl) (by kernel_rfl) (by kernel_rfl) (fun _ _ _ h => h) rfl (fun w' hS => by go_simp) hS0 ?_
  simp only [Act.put, List.setIfInBounds_toArray, List.set_cons_zero, List.set_cons_succ]
  refine wpAnyH_one 9 _ (by kernel_rfl) rfl rfl ?_
  have Z1 := hid (show ((W5.drewN 1).alloc (Obj.cells #[.slice (some ⟨b1, o1, none⟩) j k, .slice (cutS lay_Hold.size (some ⟨b1, o1, none⟩) k q) (n - q) (k - q)] 24)).cell? ⟨w.heap.size, 5, none⟩ = some (.slice (some ⟨b1, o1, none⟩) n k) from (World.cell?_alloc_past _ _ _ hlt).trans Y5.out)
  go_simp
  first | refine ⟨Z1.out, ?_⟩ | refine ⟨Y5.out, ?_⟩
  try simp only [Act.put, List.setIfInBounds_toArray, List.set_cons_zero, List.set_cons_succ]
  refine wpAnyH_one 10 _ (by kernel_rfl) rfl rfl ?_
  go_simp
  refine HCC.out.mono ?_
  rintro e w6 ⟨v6, rfl, ho6, hb6⟩
  have Z3 := hid ((hb6.cell (p := ⟨w.heap.size, 5, none⟩) hlt).trans Y5.out)
  refine ⟨Z3.out, ?_⟩
  try simp only [Act.put, List.setIfInBounds_toArray, List.set_cons_zero, List.set_cons_succ]
  refine wpAnyH_at 11 (some 46) (.pointer (some ⟨w.heap.size, 5, none⟩)) rfl rfl (by kernel_rfl) (by kernel_rfl) (by kernel_rfl) (fun _ _ _ h => h) rfl (fun w' hS => by go_simp) Z3.out ?_
  simp only [Act.put, List.setIfInBounds_toArray, List.set_cons_zero, List.set_cons_succ]
  refine wpAnyH_done (by kernel_rfl) ?_ _
  change wpList _ _ _ _ _ _
  obtain ⟨A7, n7, c7, rfl, hs7⟩ := ho6.read
  obtain ⟨d, hd⟩ : ∃ z : Chn, z = ⟨c.Id, c.Local, c.Remote, c.Reserve, c.Most, lessH c.Holds id, c.Open⟩ := ⟨_, rfl⟩
  have hb6' : Below W5.heap.size W5 w6 := (Below.refl W5.heap.size W5).drew.trans hb6
  have BC6 := BC5.call hb6'
  have BR6 := BR5.call hb6'
  have HB6 := bel_call HB5 hb6'
  have y5 := BC6.all.2.2.2.2.2.1
  have g5 := BC6.f 5
  have HO6 : OwnL lay_Hold w6 W0.heap.size (some W0.heap.size) 41 (.slice A7 n7 c7) d.Holds := by rw [hd]; show OwnL _ _ _ _ _ _ (lessH c.Holds id); rw [HW.out]; exact ho6.lows hX5 hX5
  have BC8 : BoxC (w6.setCell ⟨w.heap.size, 5, none⟩ (.slice A7 n7 c7)) w.heap.size d A7 n7 c7 := by rw [hd]; exact BC6.setHol A7 n7 c7
  have BR8 := BR6.setOther (b := w.heap.size) (by omega) 5 (.slice A7 n7 c7)
  have HB8 := HB6.setCell (p := ⟨w.heap.size, 5, none⟩) (Nat.le_refl _) (.slice A7 n7 c7)
  have HO8 := HO6.setLow (b := w.heap.size) (by rw [HZ.out]; omega) (by rw [HZ.out]; omega) 5 (.slice A7 n7 c7)
  have HD := hid (show d.Id = c.Id ∧ d.Local = c.Local ∧ d.Remote = c.Remote ∧ d.Reserve = c.Reserve ∧ d.Most = c.Most ∧ d.Holds = lessH c.Holds id ∧ d.Open = c.Open from by rw [hd]; exact ⟨rfl, rfl, rfl, rfl, rfl, rfl, rfl⟩)
  clear BC5 BR5 HB5 HCC ho6 hb6 hb6' hs7 hsu hsf hd HB6 BR6 BC6 HO6 hS0
  go_upto_region 9 with (fail)
  clear y5 g5
  have hz8 : (w6.setCell ⟨w.heap.size, 5, none⟩ (.slice A7 n7 c7)).heap.size = w6.heap.size := by simp
  have hwr2 : IntKind.u64.wrap (d.Remote + r) = d.Remote + r := by rw [HD.out.2.2.1]; exact hwr
  clear hz8 hwr
  generalize w6.setCell ⟨w.heap.size, 5, none⟩ (.slice A7 n7 c7) = W8 at *
  obtain ⟨p0, p1, p2, p3, p4, p5, p6⟩ := BC8.all
  have HG := hid (giveSettle_any d A7 n7 c7 r W8 hwr2)
  clear hwr2
  go_wp2_with fail
  refine HG.out.mono ?_
  rintro e w9 ⟨rfl, hb9⟩
  clear p0 p1 p2 p3 p4 p5 p6
  have BR9 := BR8.call hb9
  have HB9' := bel_call HB8 hb9
  have HO9' := HO8.keep hb9
  obtain ⟨u, hu⟩ : ∃ z : Chn, z = ⟨d.Id, d.Local, d.Remote + r, d.Reserve, d.Most, d.Holds, d.Open⟩ := ⟨_, rfl⟩
  have HU := hid (show seC c id = u from by
    obtain ⟨h0, h1, h2, h3, h4, h5, h6⟩ := HD.out
    rw [hu, h0, h1, h2, h3, h4, h5, h6]
    exact QT.out.2.2)
  have HO9'' : OwnL lay_Hold w9 W0.heap.size (some W0.heap.size) 41 (.slice A7 n7 c7) u.Holds := by rw [hu]; exact HO9'
  have B9 := hid (BR9.set u A7 n7 c7)
  have HB9 := hid (Below.setBox HB9' (g := w.heap.size + 1) (Nat.le_succ _) u A7 n7 c7)
  have HO9 := hid ((OwnL.setBox HO9'' (g := w.heap.size + 1) (by rw [HZ.out]; omega) u A7 n7 c7).lows (base' := w.heap.size) (lo' := w.heap.size) (by rw [HZ.out]; omega) (by rw [HZ.out]; omega))
  obtain ⟨z0, z1, z2, z3, z4, z5, z6⟩ := BR9.all
  have f0 := BR9.f 0
  have f1 := BR9.f 1
  have f2 := BR9.f 2
  have f3 := BR9.f 3
  have f4 := BR9.f 4
  have f5 := BR9.f 5
  have f6 := BR9.f 6
  have HU2 := hid (show (#[Value.int .u64 d.Id, Value.int .u64 d.Local, Value.int .u64 (d.Remote + r), Value.int .u64 d.Reserve, Value.int .u64 d.Most, .slice A7 n7 c7, .bool d.Open] : Array Value) = #[.int .u64 u.Id, .int .u64 u.Local, .int .u64 u.Remote, .int .u64 u.Reserve, .int .u64 u.Most, .slice A7 n7 c7, .bool u.Open] from by rw [hu])
  clear BC8 BR8 HB8 HO8 BR9 HB9' HO9' HO9'' hu
  rw [HU2.out]
  go_wp2
  refine bodyPost_ret_by (results_ctt rfl _ _ (w.heap.size + 1) 0 rfl [.int .u64 u.Id, .int .u64 u.Local, .int .u64 u.Remote, .int .u64 u.Reserve, .int .u64 u.Most, .slice A7 n7 c7, .bool u.Open] _ (range7 B9.out) Try.underlying26 rfl (by kernel_rfl)) rfl ?_
  exact ⟨_, by rw [QT.out.1, QT.out.2.1]; rfl, by rw [HU.out]; exact ⟨_, rfl, HO9.out⟩, HB9.out⟩

set_option maxRecDepth 100000 in
set_option maxHeartbeats 8000000 in
theorem cSettle_any (s : Array Value) (c : Chn) (id : Int) (w : World) (r : lay_Channel.rep w (· < w.heap.size) c s.toList)  :
    Calls Try.prog 58 #[.agg s, .int .u64 id] w fun e w' => ∃ v, e = .returned (.tuple #[v, .int .u64 (wtN c id), .int .i64 (wtE c id)]) ∧ OwnC w' w.heap.size v (seC c id) ∧ Below w.heap.size w w' := by
  obtain ⟨A, n, k, rfl, hw, hs⟩ := agg_Channel r
  clear r
  have HL := hid hs.len
  have hcap := hs.cap
  unfold maxLen at hcap
  have hb0 : Below w.heap.size w ((w.alloc (Obj.cells #[.int .u64 c.Id, .int .u64 c.Local, .int .u64 c.Remote, .int .u64 c.Reserve, .int .u64 c.Most, .slice A n k, .bool c.Open] 26)).alloc (Obj.cells #[.int .u64 0, .int .u64 0, .int .u64 0, .int .u64 0, .int .u64 0, .slice none 0 0, .bool false] 26)) := bel_alloc (bel_alloc (Below.refl _ _) _) _
  have BC : BoxC ((w.alloc (Obj.cells #[.int .u64 c.Id, .int .u64 c.Local, .int .u64 c.Remote, .int .u64 c.Reserve, .int .u64 c.Most, .slice A n k, .bool c.Open] 26)).alloc (Obj.cells #[.int .u64 0, .int .u64 0, .int .u64 0, .int .u64 0, .int .u64 0, .slice none 0 0, .bool false] 26)) w.heap.size c A n k := heap_alloc2_old _ _ _
  have BR : BoxC ((w.alloc (Obj.cells #[.int .u64 c.Id, .int .u64 c.Local, .int .u64 c.Remote, .int .u64 c.Reserve, .int .u64 c.Most, .slice A n k, .bool c.Open] 26)).alloc (Obj.cells #[.int .u64 0, .int .u64 0, .int .u64 0, .int .u64 0, .int .u64 0, .slice none 0 0, .bool false] 26)) (w.heap.size + 1) zeroCh none 0 0 := alloc2_new _ _ _
  have HZ := hid (show ((w.alloc (Obj.cells #[.int .u64 c.Id, .int .u64 c.Local, .int .u64 c.Remote, .int .u64 c.Reserve, .int .u64 c.Most, .slice A n k, .bool c.Open] 26)).alloc (Obj.cells #[.int .u64 0, .int .u64 0, .int .u64 0, .int .u64 0, .int .u64 0, .slice none 0 0, .bool false] 26)).heap.size = w.heap.size + 2 from by simp)
  have S0 := Sl.call hs hb0
  go_enter Try.func58, Try.ntmps58
  go_upto_region 1 with (fail)
  generalize ((w.alloc (Obj.cells #[.int .u64 c.Id, .int .u64 c.Local, .int .u64 c.Remote, .int .u64 c.Reserve, .int .u64 c.Most, .slice A n k, .bool c.Open] 26)).alloc (Obj.cells #[.int .u64 0, .int .u64 0, .int .u64 0, .int .u64 0, .int .u64 0, .slice none 0 0, .bool false] 26)) = W0 at *
  obtain ⟨p0, p1, p2, p3, p4, p5, p6⟩ := BC.all
  go_wp2_with fail
  refine (endSettle_any _ c id _ (chan_in hw S0 (Below.refl _ _))).mono ?_
  rintro e w1 ⟨v, rfl, ⟨u, rfl, ho1⟩, hb1⟩
  obtain ⟨A7, n7, c7, rfl, hs7⟩ := ho1.read
  have HDT : seC c id = seC c id := rfl
  have BR8 := BR.call hb1
  have HB8 := bel_call hb0 hb1
  have HO8 := ho1
  clear p0 p1 p2 p3 p4 p5 p6 hb1 BC BR hs7 ho1 HDT
  obtain ⟨d, hd⟩ : ∃ z : Chn, seC c id = z := ⟨_, rfl⟩
  rw [hd] at HO8 ⊢
  have HDT := hid hd
  clear hd
  have B9 := hid (BR8.set d A7 n7 c7)
  have HB9 := hid (Below.setBox HB8 (g := w.heap.size + 1) (Nat.le_succ _) d A7 n7 c7)
  have HO9 := hid ((OwnL.setBox HO8 (g := w.heap.size + 1) (by rw [HZ.out]; omega) d A7 n7 c7).lows (base' := w.heap.size) (lo' := w.heap.size) (by rw [HZ.out]; omega) (by rw [HZ.out]; omega))
  obtain ⟨z0, z1, z2, z3, z4, z5, z6⟩ := BR8.all
  have f0 := BR8.f 0
  have f1 := BR8.f 1
  have f2 := BR8.f 2
  have f3 := BR8.f 3
  have f4 := BR8.f 4
  have f5 := BR8.f 5
  have f6 := BR8.f 6
  clear BR8 HB8 HO8
  go_wp2
  refine bodyPost_ret_by (results_ctt rfl _ _ (w.heap.size + 1) 0 rfl [.int .u64 d.Id, .int .u64 d.Local, .int .u64 d.Remote, .int .u64 d.Reserve, .int .u64 d.Most, .slice A7 n7 c7, .bool d.Open] _ (range7 B9.out) Try.underlying26 rfl (by kernel_rfl)) rfl ?_
  exact ⟨_, rfl, by rw [HDT.out]; exact ⟨_, rfl, HO9.out⟩, HB9.out⟩

set_option maxRecDepth 100000 in
set_option maxHeartbeats 4000000 in
theorem giveFail_any (c : Chn) (A : Option Addr) (n k : Nat) (r : Int) (w : World) (hwr : IntKind.u64.wrap (c.Local + r) = c.Local + r) :
    Calls Try.prog 86 #[.agg #[.int .u64 c.Id, .int .u64 c.Local, .int .u64 c.Remote, .int .u64 c.Reserve, .int .u64 c.Most, .slice A n k, .bool c.Open], .int .u64 r] w fun e w' => e = .returned (.agg #[.int .u64 c.Id, .int .u64 (c.Local + r), .int .u64 c.Remote, .int .u64 c.Reserve, .int .u64 c.Most, .slice A n k, .bool c.Open]) ∧ Below w.heap.size w w' := by
  have hb0 : Below w.heap.size w ((w.alloc (Obj.cells #[.int .u64 c.Id, .int .u64 c.Local, .int .u64 c.Remote, .int .u64 c.Reserve, .int .u64 c.Most, .slice A n k, .bool c.Open] 26)).alloc (Obj.cells #[.int .u64 0, .int .u64 0, .int .u64 0, .int .u64 0, .int .u64 0, .slice none 0 0, .bool false] 26)) := bel_alloc (bel_alloc (Below.refl _ _) _) _
  have BC : BoxC ((w.alloc (Obj.cells #[.int .u64 c.Id, .int .u64 c.Local, .int .u64 c.Remote, .int .u64 c.Reserve, .int .u64 c.Most, .slice A n k, .bool c.Open] 26)).alloc (Obj.cells #[.int .u64 0, .int .u64 0, .int .u64 0, .int .u64 0, .int .u64 0, .slice none 0 0, .bool false] 26)) w.heap.size c A n k := heap_alloc2_old _ _ _
  have BR : BoxC ((w.alloc (Obj.cells #[.int .u64 c.Id, .int .u64 c.Local, .int .u64 c.Remote, .int .u64 c.Reserve, .int .u64 c.Most, .slice A n k, .bool c.Open] 26)).alloc (Obj.cells #[.int .u64 0, .int .u64 0, .int .u64 0, .int .u64 0, .int .u64 0, .slice none 0 0, .bool false] 26)) (w.heap.size + 1) zeroCh none 0 0 := alloc2_new _ _ _
  have HZ := hid (show ((w.alloc (Obj.cells #[.int .u64 c.Id, .int .u64 c.Local, .int .u64 c.Remote, .int .u64 c.Reserve, .int .u64 c.Most, .slice A n k, .bool c.Open] 26)).alloc (Obj.cells #[.int .u64 0, .int .u64 0, .int .u64 0, .int .u64 0, .int .u64 0, .slice none 0 0, .bool false] 26)).heap.size = w.heap.size + 2 from by simp)
  go_enter Try.func86, Try.ntmps86
  go_upto_region 1 with (fail)
  generalize ((w.alloc (Obj.cells #[.int .u64 c.Id, .int .u64 c.Local, .int .u64 c.Remote, .int .u64 c.Reserve, .int .u64 c.Most, .slice A n k, .bool c.Open] 26)).alloc (Obj.cells #[.int .u64 0, .int .u64 0, .int .u64 0, .int .u64 0, .int .u64 0, .slice none 0 0, .bool false] 26)) = W0 at *
  obtain ⟨d, hd⟩ : ∃ z : Chn, z = ⟨c.Id, c.Local + r, c.Remote, c.Reserve, c.Most, c.Holds, c.Open⟩ := ⟨_, rfl⟩
  have HDD := hid (show (#[.int .u64 c.Id, .int .u64 (c.Local + r), .int .u64 c.Remote, .int .u64 c.Reserve, .int .u64 c.Most, .slice A n k, .bool c.Open] : Array Value) = #[.int .u64 d.Id, .int .u64 d.Local, .int .u64 d.Remote, .int .u64 d.Reserve, .int .u64 d.Most, .slice A n k, .bool d.Open] from by rw [hd])
  have BC8 : BoxC (W0.setCell ⟨w.heap.size, 1, none⟩ (.int .u64 (c.Local + r))) w.heap.size d A n k := by rw [hd]; exact BC.setLoc (c.Local + r)
  have BR8 := BR.setOther (b := w.heap.size) (by omega) 1 (.int .u64 (c.Local + r))
  have HB8 := hb0.setCell (p := ⟨w.heap.size, 1, none⟩) (Nat.le_refl _) (.int .u64 (c.Local + r))
  obtain ⟨p0, p1, p2, p3, p4, p5, p6⟩ := BC.all
  have g := BC.f 1
  clear hd BC BR
  go_upto_region 2 with (fail)
  clear p0 p1 p2 p3 p4 p5 p6 g
  generalize W0.setCell ⟨w.heap.size, 1, none⟩ (.int .u64 (c.Local + r)) = W8 at *
  have B9 := hid (BR8.set d A n k)
  have HB9 := hid (Below.setBox HB8 (g := w.heap.size + 1) (Nat.le_succ _) d A n k)
  obtain ⟨p0, p1, p2, p3, p4, p5, p6⟩ := BC8.all
  obtain ⟨z0, z1, z2, z3, z4, z5, z6⟩ := BR8.all
  have f0 := BR8.f 0
  have f1 := BR8.f 1
  have f2 := BR8.f 2
  have f3 := BR8.f 3
  have f4 := BR8.f 4
  have f5 := BR8.f 5
  have f6 := BR8.f 6
  clear BC8 BR8 HB8
  go_wp2
  refine bodyPost_ret_by (results_c rfl _ _ (w.heap.size + 1) 0 rfl [.int .u64 d.Id, .int .u64 d.Local, .int .u64 d.Remote, .int .u64 d.Reserve, .int .u64 d.Most, .slice A n k, .bool d.Open] _ (range7 B9.out) Try.underlying26 rfl (by kernel_rfl)) rfl ?_
  exact ⟨by rw [HDD.out], HB9.out⟩

set_option maxRecDepth 100000 in
set_option maxHeartbeats 8000000 in
theorem endFail_any (s : Array Value) (c : Chn) (id : Int) (w : World) (r : lay_Channel.rep w (· < w.heap.size) c s.toList) :
    Calls Try.prog 85 #[.agg s, .int .u64 id, .func (.func 86) #[] #[]] w fun e w' => ∃ v, e = .returned (.tuple #[v, .int .u64 (wtN c id), .int .i64 (wtE c id)]) ∧ OwnC w' w.heap.size v (faC c id) ∧ Below w.heap.size w w' := by
  obtain ⟨A, n, k, rfl, hw, hs⟩ := agg_Channel r
  clear r
  have HL := hid hs.len
  have hcap := hs.cap
  unfold maxLen at hcap
  have hb0 : Below w.heap.size w ((w.alloc (Obj.cells #[.int .u64 c.Id, .int .u64 c.Local, .int .u64 c.Remote, .int .u64 c.Reserve, .int .u64 c.Most, .slice A n k, .bool c.Open] 26)).alloc (Obj.cells #[.int .u64 0, .int .u64 0, .int .u64 0, .int .u64 0, .int .u64 0, .slice none 0 0, .bool false] 26)) := bel_alloc (bel_alloc (Below.refl _ _) _) _
  have BC : BoxC ((w.alloc (Obj.cells #[.int .u64 c.Id, .int .u64 c.Local, .int .u64 c.Remote, .int .u64 c.Reserve, .int .u64 c.Most, .slice A n k, .bool c.Open] 26)).alloc (Obj.cells #[.int .u64 0, .int .u64 0, .int .u64 0, .int .u64 0, .int .u64 0, .slice none 0 0, .bool false] 26)) w.heap.size c A n k := heap_alloc2_old _ _ _
  have BR : BoxC ((w.alloc (Obj.cells #[.int .u64 c.Id, .int .u64 c.Local, .int .u64 c.Remote, .int .u64 c.Reserve, .int .u64 c.Most, .slice A n k, .bool c.Open] 26)).alloc (Obj.cells #[.int .u64 0, .int .u64 0, .int .u64 0, .int .u64 0, .int .u64 0, .slice none 0 0, .bool false] 26)) (w.heap.size + 1) zeroCh none 0 0 := alloc2_new _ _ _
  have HZ := hid (show ((w.alloc (Obj.cells #[.int .u64 c.Id, .int .u64 c.Local, .int .u64 c.Remote, .int .u64 c.Reserve, .int .u64 c.Most, .slice A n k, .bool c.Open] 26)).alloc (Obj.cells #[.int .u64 0, .int .u64 0, .int .u64 0, .int .u64 0, .int .u64 0, .slice none 0 0, .bool false] 26)).heap.size = w.heap.size + 2 from by simp)
  have S0 := Sl.call hs hb0
  go_enter Try.func85, Try.ntmps85
  go_upto_region 1 with (fail)
  generalize ((w.alloc (Obj.cells #[.int .u64 c.Id, .int .u64 c.Local, .int .u64 c.Remote, .int .u64 c.Reserve, .int .u64 c.Most, .slice A n k, .bool c.Open] 26)).alloc (Obj.cells #[.int .u64 0, .int .u64 0, .int .u64 0, .int .u64 0, .int .u64 0, .slice none 0 0, .bool false] 26)) = W0 at *
  obtain ⟨p0, p1, p2, p3, p4, p5, p6⟩ := BC.all
  go_wp2_with fail
  refine (cCheck_any _ c _ (chan_in hw S0 (Below.refl _ _))).mono ?_
  rintro e w1 ⟨rfl, hb1⟩
  replace BC := BC.call hb1
  replace BR := BR.call hb1
  have HB := bel_call hb0 hb1
  have HX := hb1
  clear p0 p1 p2 p3 p4 p5 p6 hb1
  rcases ch_is (c := c) with ⟨ok, hE⟩ | ⟨ok, hE⟩
  rotate_left
  · rw [hE]
    have HE := hid (show wtE c id = 1 ∧ wtN c id = 0 ∧ faC c id = zeroCh from by
      have e : wtE c id = 1 := if_neg ok
      have q := wt_no (c := c) (id := id) (by rw [e]; decide)
      exact ⟨e, q.1, q.2.2⟩)
    clear hE ok
    have B9 := hid (BR.set zeroCh none 0 0)
    have HB9 := hid (Below.setBox HB (g := w.heap.size + 1) (Nat.le_succ _) zeroCh none 0 0)
    obtain ⟨z0, z1, z2, z3, z4, z5, z6⟩ := BR.all
    have f0 := BR.f 0
    have f1 := BR.f 1
    have f2 := BR.f 2
    have f3 := BR.f 3
    have f4 := BR.f 4
    have f5 := BR.f 5
    have f6 := BR.f 6
    go_wp2
    refine bodyPost_ret_by (results_ctt rfl _ _ (w.heap.size + 1) 0 rfl [.int .u64 0, .int .u64 0, .int .u64 0, .int .u64 0, .int .u64 0, .slice none 0 0, .bool false] _ (range7 B9.out) Try.underlying26 rfl (by kernel_rfl)) rfl ?_
    exact ⟨_, by rw [HE.out.1, HE.out.2.1]; rfl, by rw [HE.out.2.2]; exact ⟨_, rfl, OwnL.nil _ _ _ _ _⟩, HB9.out⟩
  rw [hE]
  clear hE
  have hn64 : n ≤ 64 := by rw [← HL.out]; exact ok.2.2.1
  have hup : UpF Hld.Id c.Holds := ok.2.2.2.2.2.1
  obtain ⟨p0, p1, p2, p3, p4, p5, p6⟩ := BC.all
  go_upto_region 4 with (fail)
  go_wp2_with fail
  with_reducible refine (placeH_any A n k c.Holds id _ (Sl.call S0 HX) hn64 hup).mono ?_
  rintro e w3 ⟨j, rfl, hj, hb3⟩
  replace BC := BC.call hb3
  replace BR := BR.call hb3
  replace HB := bel_call HB hb3
  replace HX := bel_call HX hb3
  clear p0 p1 p2 p3 p4 p5 p6 hb3
  have HJ := hid hj
  clear hj
  obtain ⟨hit, hhit⟩ : ∃ z, hitF Hld.Id c.Holds id j = z := ⟨_, rfl⟩
  rw [hhit]
  cases hit
  · have hF : holdF c.Holds id = none := HJ.out.none hup hhit
    have HE := hid (show wtE c id = 5 ∧ wtN c id = 0 ∧ faC c id = zeroCh from by
      have e : wtE c id = 5 := (wt_none ok hF).1
      have q := wt_no (c := c) (id := id) (by rw [e]; decide)
      exact ⟨e, q.1, q.2.2⟩)
    clear hF ok hhit
    have B9 := hid (BR.set zeroCh none 0 0)
    have HB9 := hid (Below.setBox HB (g := w.heap.size + 1) (Nat.le_succ _) zeroCh none 0 0)
    obtain ⟨z0, z1, z2, z3, z4, z5, z6⟩ := BR.all
    have f0 := BR.f 0
    have f1 := BR.f 1
    have f2 := BR.f 2
    have f3 := BR.f 3
    have f4 := BR.f 4
    have f5 := BR.f 5
    have f6 := BR.f 6
    go_wp2
    refine bodyPost_ret_by (results_ctt rfl _ _ (w.heap.size + 1) 0 rfl [.int .u64 0, .int .u64 0, .int .u64 0, .int .u64 0, .int .u64 0, .slice none 0 0, .bool false] _ (range7 B9.out) Try.underlying26 rfl (by kernel_rfl)) rfl ?_
    exact ⟨_, by rw [HE.out.1, HE.out.2.1]; rfl, by rw [HE.out.2.2]; exact ⟨_, rfl, OwnL.nil _ _ _ _ _⟩, HB9.out⟩
  obtain ⟨hj1, hj2, hF⟩ := HJ.out.find hhit
  obtain ⟨q1, q2⟩ := wt_of ok (show holdF c.Holds id = some c.Holds[j] from hF)
  have HW := hid (show lessH c.Holds id = c.Holds.take j ++ c.Holds.drop (j + 1) from less_at hup hj1 hj2)
  have hjn : j < n := by rw [← HL.out]; exact hj1
  have hsi := fa_is hw (sl_hlds hs) q1
  have QT := hid (show wtE c id = 0 ∧ wtN c id = c.Holds[j].N ∧ faC c id = ⟨c.Id, c.Local + c.Holds[j].N, c.Remote, c.Reserve, c.Most, lessH c.Holds id, c.Open⟩ from ⟨q1, q2, by rw [hsi.1, q2]⟩)
  have hN := (bounds_u64 ((sl_hlds hs) _ (List.getElem_mem hj1)).num)
  have c1 := bounds_u64 hw.loc
  have c2 := bounds_u64 hw.rem
  have hwr : IntKind.u64.wrap (c.Local + c.Holds[j].N) = c.Local + c.Holds[j].N := by
    have e := hsi.2.2.2.loc
    rw [hsi.1, q2] at e
    exact IntWalk.u64_in _ (bounds_u64 e)
  clear q1 q2 hsi hN c1 c2 hhit hF hj2 ok
  obtain ⟨b1, o1, hx1, hA1, hb1, t1, t2, hwh⟩ := hld_at (Sl.call S0 HX) hjn
  subst hA1
  obtain ⟨p0, p1, p2, p3, p4, p5, p6⟩ := BC.all
  go_upto_region 8 with (fail)
  clear p0 p1 p2 p3 p4 p5 p6 t1 t2 hwh
  obtain ⟨r, hr⟩ : ∃ z, c.Holds[j].N = z := ⟨_, rfl⟩
  rw [hr] at QT hwr ⊢
  have HRR := hid hr
  clear hr
  have HS5 := hid (Sl.call S0 HX)
  have hX5 : W0.heap.size ≤ w3.heap.size := HX.size
  have BC5 := BC
  have BR5 := BR
  have HB5 := HB
  clear BC BR HB HX
  generalize w3 = W5 at *
  have hlt : w.heap.size < W5.heap.size := by have := HZ.out; omega
  have Y5 := hid BC5.all.2.2.2.2.2.1
  obtain ⟨q, hq⟩ : ∃ q : Nat, q = j + 1 := ⟨_, rfl⟩
  have hqn : q ≤ n := by omega
  have hqn2 : (0 : Int) ≤ (q : Int) ∧ (q : Int) ≤ (n : Int) := by omega
  have hsu := run_uptoL (P := Try.prog) 24 41 .i64 Try.underlying24 Try.elemHld Try.infoHld (some ⟨b1, o1, none⟩) n k j (by omega)
  have hsf := run_fromL (P := Try.prog) 24 41 .i64 Try.underlying24 Try.elemHld Try.infoHld (some ⟨b1, o1, none⟩) n k q (by omega)
  have hw1 : IntKind.i64.wrap ((j : Int) + 1) = (q : Int) := by rw [hq]; exact IntWalk.i64_in _ (by omega)
  have HCC := hid (cutCatH_any (some ⟨b1, o1, none⟩) n k j q W5.heap.size c.Holds (W5.drewN 1) rfl (HS5.out.keep fun _ _ => rfl) hjn hq hn64)
  rw [← hq] at HW
  have HQ := hid hq
  clear hq
  refine wp_region_phase 12 (fun w' : World => w'.cell? ⟨w.heap.size, 5, none⟩ = some (.slice (some ⟨b1, o1, none⟩) n k)) (by kernel_rfl) (by kernel_rfl) ?_
  simp only [List.take_succ_cons, List.take_zero, List.drop_succ_cons, List.drop_zero]
  have hS0 : (fun w' : World => w'.cell? ⟨w.heap.size, 5, none⟩ = some (.slice (some ⟨b1, o1, none⟩) n k)) (W5.drewN 1) := Y5.out
  rw [show Array.replicate 12 false = #[false, false, false, false, false, false, false, false, false, false, false, false] from rfl]
  refine wpAnyH_at 0 (some 35) (.pointer (some ⟨w.heap.size, 5, none⟩)) rfl rfl (by kernel_rfl) (by kernel_rfl) (by kernel_rfl) (fun _ _ _ h => h) rfl (fun w' hS => by go_simp) hS0 ?_
  simp only [Act.put, List.setIfInBounds_toArray, List.set_cons_zero, List.set_cons_succ]
  refine wpAnyH_at 1 (some 36) (.slice (some ⟨b1, o1, none⟩) n k) rfl rfl (by kernel_rfl) (by kernel_rfl) (by kernel_rfl) (fun _ _ _ h => h) rfl (fun w' hS => by have s0 : w'.cell? ⟨w.heap.size, 5, none⟩ = some (.slice (some ⟨b1, o1, none⟩) n k) := hS; go_simp) hS0 ?_
  simp only [Act.put, List.setIfInBounds_toArray, List.set_cons_zero, List.set_cons_succ]
  refine wpAnyH_at 2 (some 37) (.int .i64 j) rfl rfl (by kernel_rfl) (by kernel_rfl) (by kernel_rfl) (fun _ _ _ h => h) rfl (fun w' hS => by go_simp) hS0 ?_
  simp only [Act.put, List.setIfInBounds_toArray, List.set_cons_zero, List.set_cons_succ]
  refine wpAnyH_at 3 (some 38) (.slice (some ⟨b1, o1, none⟩) j k) rfl rfl (by kernel_rfl) (by kernel_rfl) (by kernel_rfl) (fun _ _ _ h => h) rfl (fun w' hS => by go_simp) hS0 ?_
  simp only [Act.put, List.setIfInBounds_toArray, List.set_cons_zero, List.set_cons_succ]
  refine wpAnyH_at 4 (some 39) (.pointer (some ⟨w.heap.size, 5, none⟩)) rfl rfl (by kernel_rfl) (by kernel_rfl) (by kernel_rfl) (fun _ _ _ h => h) rfl (fun w' hS => by go_simp) hS0 ?_
  simp only [Act.put, List.setIfInBounds_toArray, List.set_cons_zero, List.set_cons_succ]
  refine wpAnyH_at 5 (some 40) (.slice (some ⟨b1, o1, none⟩) n k) rfl rfl (by kernel_rfl) (by kernel_rfl) (by kernel_rfl) (fun _ _ _ h => h) rfl (fun w' hS => by have s0 : w'.cell? ⟨w.heap.size, 5, none⟩ = some (.slice (some ⟨b1, o1, none⟩) n k) := hS; go_simp) hS0 ?_
  simp only [Act.put, List.setIfInBounds_toArray, List.set_cons_zero, List.set_cons_succ]
  refine wpAnyH_at 6 (some 41) (.int .i64 j) rfl rfl (by kernel_rfl) (by kernel_rfl) (by kernel_rfl) (fun _ _ _ h => h) rfl (fun w' hS => by go_simp) hS0 ?_
  simp only [Act.put, List.setIfInBounds_toArray, List.set_cons_zero, List.set_cons_succ]
  refine wpAnyH_at 7 (some 42) (.int .i64 (q : Int)) rfl rfl (by kernel_rfl) (by kernel_rfl) (by kernel_rfl) (fun _ _ _ h => h) rfl (fun w' hS => by go_simp) hS0 ?_
  simp only [Act.put, List.setIfInBounds_toArray, List.set_cons_zero, List.set_cons_succ]
  refine wpAnyH_at 8 (some 43) (.slice (cutS lay_Hold.size (some ⟨b1, o1, none⟩) k q) (n - q) (k - q)) rfl rfl (by kernel_rfl) (by kernel_rfl) (by kernel_rfl) (fun _ _ _ h => h) rfl (fun w' hS => by go_simp) hS0 ?_
  simp only [Act.put, List.setIfInBounds_toArray, List.set_cons_zero, List.set_cons_succ]
  refine wpAnyH_one 9 _ (by kernel_rfl) rfl rfl ?_
  have Z1 := hid (show ((W5.drewN 1).alloc (Obj.cells #[.slice (some ⟨b1, o1, none⟩) j k, .slice (cutS lay_Hold.size (some ⟨b1, o1, none⟩) k q) (n - q) (k - q)] 24)).cell? ⟨w.heap.size, 5, none⟩ = some (.slice (some ⟨b1, o1, none⟩) n k) from (World.cell?_alloc_past _ _ _ hlt).trans Y5.out)
  go_simp
  first | refine ⟨Z1.out, ?_⟩ | refine ⟨Y5.out, ?_⟩
  try simp only [Act.put, List.setIfInBounds_toArray, List.set_cons_zero, List.set_cons_succ]
  refine wpAnyH_one 10 _ (by kernel_rfl) rfl rfl ?_
  go_simp
  refine HCC.out.mono ?_
  rintro e w6 ⟨v6, rfl, ho6, hb6⟩
  have Z3 := hid ((hb6.cell (p := ⟨w.heap.size, 5, none⟩) hlt).trans Y5.out)
  refine ⟨Z3.out, ?_⟩
  try simp only [Act.put, List.setIfInBounds_toArray, List.set_cons_zero, List.set_cons_succ]
  refine wpAnyH_at 11 (some 46) (.pointer (some ⟨w.heap.size, 5, none⟩)) rfl rfl (by kernel_rfl) (by kernel_rfl) (by kernel_rfl) (fun _ _ _ h => h) rfl (fun w' hS => by go_simp) Z3.out ?_
  simp only [Act.put, List.setIfInBounds_toArray, List.set_cons_zero, List.set_cons_succ]
  refine wpAnyH_done (by kernel_rfl) ?_ _
  change wpList _ _ _ _ _ _
  obtain ⟨A7, n7, c7, rfl, hs7⟩ := ho6.read
  obtain ⟨d, hd⟩ : ∃ z : Chn, z = ⟨c.Id, c.Local, c.Remote, c.Reserve, c.Most, lessH c.Holds id, c.Open⟩ := ⟨_, rfl⟩
  have hb6' : Below W5.heap.size W5 w6 := (Below.refl W5.heap.size W5).drew.trans hb6
  have BC6 := BC5.call hb6'
  have BR6 := BR5.call hb6'
  have HB6 := bel_call HB5 hb6'
  have y5 := BC6.all.2.2.2.2.2.1
  have g5 := BC6.f 5
  have HO6 : OwnL lay_Hold w6 W0.heap.size (some W0.heap.size) 41 (.slice A7 n7 c7) d.Holds := by rw [hd]; show OwnL _ _ _ _ _ _ (lessH c.Holds id); rw [HW.out]; exact ho6.lows hX5 hX5
  have BC8 : BoxC (w6.setCell ⟨w.heap.size, 5, none⟩ (.slice A7 n7 c7)) w.heap.size d A7 n7 c7 := by rw [hd]; exact BC6.setHol A7 n7 c7
  have BR8 := BR6.setOther (b := w.heap.size) (by omega) 5 (.slice A7 n7 c7)
  have HB8 := HB6.setCell (p := ⟨w.heap.size, 5, none⟩) (Nat.le_refl _) (.slice A7 n7 c7)
  have HO8 := HO6.setLow (b := w.heap.size) (by rw [HZ.out]; omega) (by rw [HZ.out]; omega) 5 (.slice A7 n7 c7)
  have HD := hid (show d.Id = c.Id ∧ d.Local = c.Local ∧ d.Remote = c.Remote ∧ d.Reserve = c.Reserve ∧ d.Most = c.Most ∧ d.Holds = lessH c.Holds id ∧ d.Open = c.Open from by rw [hd]; exact ⟨rfl, rfl, rfl, rfl, rfl, rfl, rfl⟩)
  clear BC5 BR5 HB5 HCC ho6 hb6 hb6' hs7 hsu hsf hd HB6 BR6 BC6 HO6 hS0
  go_upto_region 9 with (fail)
  clear y5 g5
  have hz8 : (w6.setCell ⟨w.heap.size, 5, none⟩ (.slice A7 n7 c7)).heap.size = w6.heap.size := by simp
  have hwr2 : IntKind.u64.wrap (d.Local + r) = d.Local + r := by rw [HD.out.2.1]; exact hwr
  clear hz8 hwr
  generalize w6.setCell ⟨w.heap.size, 5, none⟩ (.slice A7 n7 c7) = W8 at *
  obtain ⟨p0, p1, p2, p3, p4, p5, p6⟩ := BC8.all
  have HG := hid (giveFail_any d A7 n7 c7 r W8 hwr2)
  clear hwr2
  go_wp2_with fail
  refine HG.out.mono ?_
  rintro e w9 ⟨rfl, hb9⟩
  clear p0 p1 p2 p3 p4 p5 p6
  have BR9 := BR8.call hb9
  have HB9' := bel_call HB8 hb9
  have HO9' := HO8.keep hb9
  obtain ⟨u, hu⟩ : ∃ z : Chn, z = ⟨d.Id, d.Local + r, d.Remote, d.Reserve, d.Most, d.Holds, d.Open⟩ := ⟨_, rfl⟩
  have HU := hid (show faC c id = u from by
    obtain ⟨h0, h1, h2, h3, h4, h5, h6⟩ := HD.out
    rw [hu, h0, h1, h2, h3, h4, h5, h6]
    exact QT.out.2.2)
  have HO9'' : OwnL lay_Hold w9 W0.heap.size (some W0.heap.size) 41 (.slice A7 n7 c7) u.Holds := by rw [hu]; exact HO9'
  have B9 := hid (BR9.set u A7 n7 c7)
  have HB9 := hid (Below.setBox HB9' (g := w.heap.size + 1) (Nat.le_succ _) u A7 n7 c7)
  have HO9 := hid ((OwnL.setBox HO9'' (g := w.heap.size + 1) (by rw [HZ.out]; omega) u A7 n7 c7).lows (base' := w.heap.size) (lo' := w.heap.size) (by rw [HZ.out]; omega) (by rw [HZ.out]; omega))
  obtain ⟨z0, z1, z2, z3, z4, z5, z6⟩ := BR9.all
  have f0 := BR9.f 0
  have f1 := BR9.f 1
  have f2 := BR9.f 2
  have f3 := BR9.f 3
  have f4 := BR9.f 4
  have f5 := BR9.f 5
  have f6 := BR9.f 6
  have HU2 := hid (show (#[Value.int .u64 d.Id, Value.int .u64 (d.Local + r), Value.int .u64 d.Remote, Value.int .u64 d.Reserve, Value.int .u64 d.Most, .slice A7 n7 c7, .bool d.Open] : Array Value) = #[.int .u64 u.Id, .int .u64 u.Local, .int .u64 u.Remote, .int .u64 u.Reserve, .int .u64 u.Most, .slice A7 n7 c7, .bool u.Open] from by rw [hu])
  clear BC8 BR8 HB8 HO8 BR9 HB9' HO9' HO9'' hu
  rw [HU2.out]
  go_wp2
  refine bodyPost_ret_by (results_ctt rfl _ _ (w.heap.size + 1) 0 rfl [.int .u64 u.Id, .int .u64 u.Local, .int .u64 u.Remote, .int .u64 u.Reserve, .int .u64 u.Most, .slice A7 n7 c7, .bool u.Open] _ (range7 B9.out) Try.underlying26 rfl (by kernel_rfl)) rfl ?_
  exact ⟨_, by rw [QT.out.1, QT.out.2.1]; rfl, by rw [HU.out]; exact ⟨_, rfl, HO9.out⟩, HB9.out⟩

set_option maxRecDepth 100000 in
set_option maxHeartbeats 8000000 in
theorem cFail_any (s : Array Value) (c : Chn) (id : Int) (w : World) (r : lay_Channel.rep w (· < w.heap.size) c s.toList)  :
    Calls Try.prog 57 #[.agg s, .int .u64 id] w fun e w' => ∃ v, e = .returned (.tuple #[v, .int .u64 (wtN c id), .int .i64 (wtE c id)]) ∧ OwnC w' w.heap.size v (faC c id) ∧ Below w.heap.size w w' := by
  obtain ⟨A, n, k, rfl, hw, hs⟩ := agg_Channel r
  clear r
  have HL := hid hs.len
  have hcap := hs.cap
  unfold maxLen at hcap
  have hb0 : Below w.heap.size w ((w.alloc (Obj.cells #[.int .u64 c.Id, .int .u64 c.Local, .int .u64 c.Remote, .int .u64 c.Reserve, .int .u64 c.Most, .slice A n k, .bool c.Open] 26)).alloc (Obj.cells #[.int .u64 0, .int .u64 0, .int .u64 0, .int .u64 0, .int .u64 0, .slice none 0 0, .bool false] 26)) := bel_alloc (bel_alloc (Below.refl _ _) _) _
  have BC : BoxC ((w.alloc (Obj.cells #[.int .u64 c.Id, .int .u64 c.Local, .int .u64 c.Remote, .int .u64 c.Reserve, .int .u64 c.Most, .slice A n k, .bool c.Open] 26)).alloc (Obj.cells #[.int .u64 0, .int .u64 0, .int .u64 0, .int .u64 0, .int .u64 0, .slice none 0 0, .bool false] 26)) w.heap.size c A n k := heap_alloc2_old _ _ _
  have BR : BoxC ((w.alloc (Obj.cells #[.int .u64 c.Id, .int .u64 c.Local, .int .u64 c.Remote, .int .u64 c.Reserve, .int .u64 c.Most, .slice A n k, .bool c.Open] 26)).alloc (Obj.cells #[.int .u64 0, .int .u64 0, .int .u64 0, .int .u64 0, .int .u64 0, .slice none 0 0, .bool false] 26)) (w.heap.size + 1) zeroCh none 0 0 := alloc2_new _ _ _
  have HZ := hid (show ((w.alloc (Obj.cells #[.int .u64 c.Id, .int .u64 c.Local, .int .u64 c.Remote, .int .u64 c.Reserve, .int .u64 c.Most, .slice A n k, .bool c.Open] 26)).alloc (Obj.cells #[.int .u64 0, .int .u64 0, .int .u64 0, .int .u64 0, .int .u64 0, .slice none 0 0, .bool false] 26)).heap.size = w.heap.size + 2 from by simp)
  have S0 := Sl.call hs hb0
  go_enter Try.func57, Try.ntmps57
  go_upto_region 1 with (fail)
  generalize ((w.alloc (Obj.cells #[.int .u64 c.Id, .int .u64 c.Local, .int .u64 c.Remote, .int .u64 c.Reserve, .int .u64 c.Most, .slice A n k, .bool c.Open] 26)).alloc (Obj.cells #[.int .u64 0, .int .u64 0, .int .u64 0, .int .u64 0, .int .u64 0, .slice none 0 0, .bool false] 26)) = W0 at *
  obtain ⟨p0, p1, p2, p3, p4, p5, p6⟩ := BC.all
  go_wp2_with fail
  refine (endFail_any _ c id _ (chan_in hw S0 (Below.refl _ _))).mono ?_
  rintro e w1 ⟨v, rfl, ⟨u, rfl, ho1⟩, hb1⟩
  obtain ⟨A7, n7, c7, rfl, hs7⟩ := ho1.read
  have HDT : faC c id = faC c id := rfl
  have BR8 := BR.call hb1
  have HB8 := bel_call hb0 hb1
  have HO8 := ho1
  clear p0 p1 p2 p3 p4 p5 p6 hb1 BC BR hs7 ho1 HDT
  obtain ⟨d, hd⟩ : ∃ z : Chn, faC c id = z := ⟨_, rfl⟩
  rw [hd] at HO8 ⊢
  have HDT := hid hd
  clear hd
  have B9 := hid (BR8.set d A7 n7 c7)
  have HB9 := hid (Below.setBox HB8 (g := w.heap.size + 1) (Nat.le_succ _) d A7 n7 c7)
  have HO9 := hid ((OwnL.setBox HO8 (g := w.heap.size + 1) (by rw [HZ.out]; omega) d A7 n7 c7).lows (base' := w.heap.size) (lo' := w.heap.size) (by rw [HZ.out]; omega) (by rw [HZ.out]; omega))
  obtain ⟨z0, z1, z2, z3, z4, z5, z6⟩ := BR8.all
  have f0 := BR8.f 0
  have f1 := BR8.f 1
  have f2 := BR8.f 2
  have f3 := BR8.f 3
  have f4 := BR8.f 4
  have f5 := BR8.f 5
  have f6 := BR8.f 6
  clear BR8 HB8 HO8
  go_wp2
  refine bodyPost_ret_by (results_ctt rfl _ _ (w.heap.size + 1) 0 rfl [.int .u64 d.Id, .int .u64 d.Local, .int .u64 d.Remote, .int .u64 d.Reserve, .int .u64 d.Most, .slice A7 n7 c7, .bool d.Open] _ (range7 B9.out) Try.underlying26 rfl (by kernel_rfl)) rfl ?_
  exact ⟨_, rfl, by rw [HDT.out]; exact ⟨_, rfl, HO9.out⟩, HB9.out⟩
end Go.Proofs.Ytanlpcndbfmkiaa
