/-
  Package channel: the library over holds; where a hold stands; all holds together.
  Package channel: Held, Check, All, Room, Same.
  Package channel: Hold, Push, Close.
  Package channel: Push, Close.
  Package channel: Settle, Fail; all that the package answers.
-/
import Derived.Test.YtpkfejfdbjoehaaPackCR
import Derived.Test.YtpkfejfdbjoehaaSearch
import Derived.Test.YtpkfejfdbjoehaaOwnPut
import Derived.Test.YtpkfejfdbjoehaaGrow
import Derived.Test.YtpkfejfdbjoehaaGen
import Derived.DeepKeys4
import Derived.Deep.QuietTactic
import Derived.Deep.RegionHeld3
import Derived.Test.YtpkfejfdbjoehaaPhase
import Derived.Test.YtpkfejfdbjoehaaAnyH
namespace Go.Proofs.Ytpkfejfdbjoehaa
open Go.RowKit Go.WalkArith

theorem Try.elemHld : Try.prog.elem 26 = 83 := by kernel_rfl
theorem flat_Hld (w : World) (S S' : Nat → Prop) (a : Hld) (c : List Value) (h : lay_Hold.rep w S a c) : lay_Hold.rep w S' a c := rep_Hold.2 (rep_Hold.1 h)

theorem place1H_any (s : Array Value) (S : Nat → Prop) (r : Hld) (t : Int) (w : World) (hs : lay_Hold.rep w S r s.toList) :
    Calls Try.prog 81 #[.agg s, .int .u64 t] w fun e w' => e = .returned (.int .i64 (cmpI r.Id t)) ∧ Below w.heap.size w w' := by
  obtain ⟨rfl, hw⟩ := agg_Hold hs
  go_enter Try.func81, Try.ntmps81
  go_wp2_with (go_at_call 51; refine (compare_any _ _ _).mono ?_; rintro e w' ⟨rfl, rfl⟩)
  go_ret
  exact ⟨rfl, by (repeat (first | exact Below.refl _ _ | refine Below.drew ?_ | refine bel_drewN ?_ _ | refine bel_alloc ?_ _ | refine bel_call ?_ (by assumption)))⟩

set_option maxRecDepth 100000 in
set_option maxHeartbeats 2000000 in
theorem searchH_any (A : Option Addr) (n c : Nat) (l : List Hld) (t : Int) (w : World) (hr : Sl lay_Hold w (· < w.heap.size) A n c l) (hn : n ≤ 64) (hR : UpF Hld.Id l) :
    Calls Try.prog 80 #[.slice A n c, .int .u64 t, .func (.func 81) #[] #[]] w fun e w' => ∃ k : Nat, e = .returned (.tuple #[.int .i64 k, .bool (hitF Hld.Id l t k)]) ∧ AtF Hld.Id l t k ∧ Below w.heap.size w w' := by
  have HL := hid hr.len
  have hcap := hr.cap
  unfold maxLen at hcap
  have HR := hid (show UpF Hld.Id l from hR)
  clear hR
  go_enter Try.func80, Try.ntmps80
  go_wp2
  go_loopw [9, 10] (fun u v wr => ∃ i j : Nat, u = .int .i64 i ∧ v = .int .i64 j ∧ EndsF Hld.Id l t i j ∧ Below w.heap.size w wr) (fun u v _ => (intOf v).toNat - (intOf u).toNat)
  case atStart => exact ⟨0, n, rfl, rfl, ⟨Nat.zero_le _, by rw [HL.out]; exact Nat.le_refl _, fun _ _ h => absurd h (by omega), fun k h1 h2 => by rw [HL.out] at h1; omega⟩, Below.refl _ _⟩
  case round =>
    obtain ⟨i, j, rfl, rfl, he, hbel⟩ := hrel
    have hij := he.1
    have hjn : j ≤ n := by rw [← HL.out]; exact he.2.1
    have HE := hid he
    clear he
    by_cases hlt : i < j
    · have hmj : (i + j) / 2 < j := by omega
      have him : i ≤ (i + j) / 2 := by omega
      obtain ⟨b, off, hx, rfl, hb, h0, h1, hw⟩ := hld_at hr (j := (i + j) / 2) (by omega)
      have q0 := (hbel.cell (p := ⟨b, off + (i + j) / 2 * 2, none⟩) hb).trans h0
      have q1 := (hbel.cell (p := ⟨b, off + (i + j) / 2 * 2 + 1, none⟩) hb).trans h1
      have wm : IntKind.i64.wrap ((i : Int) + (j : Int)) = (i : Int) + (j : Int) := IntWalk.i64_in _ (by omega)
      clear h0 h1
      have PR := hid (show lay_Hold.rep wr (fun _ => True) l[(i + j) / 2] #[.int .u64 l[(i + j) / 2].Id, .int .u64 l[(i + j) / 2].N].toList from rep_Hold.2 ⟨rfl, hw⟩)
      have HUP := hid (fun hc => HE.out.up HR.out hmj him hx hc)
      have HDN := hid (fun hc => HE.out.down HR.out him hx hc)
      clear hw
      generalize hG : l[(i + j) / 2] = r at *
      clear hG
      go_wp2_with fail
      with_reducible refine (place1H_any _ _ r t _ PR.out).mono ?_
      rintro e w2 ⟨rfl, hb2⟩
      have HB := hbel.trans (hb2.mono hbel.size)
      by_cases hc : r.Id < t
      · have hcm : cmpI r.Id t = -1 := by unfold cmpI; rw [if_pos hc]
        have HN := hid (HUP.out hc)
        rw [hcm]
        clear hc hcm
        go_wp2
        go_roundw
        case rel => exact ⟨(i + j) / 2 + 1, j, by go_num, rfl, HN.out, HB⟩
        case measure => simp [intOf]; omega
      · have hcm : decide (cmpI r.Id t < 0) = false := by unfold cmpI; simp [hc]; split <;> omega
        have HN := hid (HDN.out (by omega))
        clear hc
        go_wp2
        go_roundw
        case rel => exact ⟨i, (i + j) / 2, rfl, by go_num, HN.out, HB⟩
        case measure => simp [intOf]; omega
    · obtain rfl : i = j := by omega
      have HA := hid (show AtF Hld.Id l t i from ⟨HE.out.2.1, HE.out.2.2.1, HE.out.2.2.2⟩)
      by_cases hin : i < n
      · obtain ⟨b, off, hx, rfl, hb, h0, h1, hw⟩ := hld_at hr (j := i) hin
        have q0 := (hbel.cell (p := ⟨b, off + i * 2, none⟩) hb).trans h0
        have q1 := (hbel.cell (p := ⟨b, off + i * 2 + 1, none⟩) hb).trans h1
        have PR := hid (show lay_Hold.rep wr (fun _ => True) l[i] #[.int .u64 l[i].Id, .int .u64 l[i].N].toList from rep_Hold.2 ⟨rfl, hw⟩)
        have HT := hid (show (cmpI l[i].Id t == 0) = hitF Hld.Id l t i from by
          rw [hitF_get hx]
          unfold cmpI
          by_cases h : l[i].Id = t
          · simp [h]
          · rw [show (l[i].Id == t) = false from by simpa using h]
            split
            · rfl
            · split
              · rfl
              · omega)
        clear h0 h1 hw
        go_wp2_with fail
        with_reducible refine (place1H_any _ _ l[i] t _ PR.out).mono ?_
        rintro e w2 ⟨rfl, hb2⟩
        have HB := hbel.trans (hb2.mono hbel.size)
        generalize cmpI l[i].Id t = cc at *
        go_wp2
        go_ret2
        exact ⟨i, by rw [← HT.out]; rfl, HA.out, HB⟩
      · have hin' : decide ((i : Int) < (n : Int)) = false := by simp; omega
        have HT := hid (show hitF Hld.Id l t i = false from hitF_out (by rw [HL.out]; omega))
        go_wp2
        go_ret2
        exact ⟨i, by rw [HT.out]; rfl, HA.out, hbel⟩
theorem placeH_any (A : Option Addr) (n c : Nat) (l : List Hld) (t : Int) (w : World) (hr : Sl lay_Hold w (· < w.heap.size) A n c l) (hn : n ≤ 64) (hR : UpF Hld.Id l) :
    Calls Try.prog 61 #[.slice A n c, .int .u64 t] w fun e w' => ∃ k : Nat, e = .returned (.tuple #[.int .i64 k, .bool (hitF Hld.Id l t k)]) ∧ AtF Hld.Id l t k ∧ Below w.heap.size w w' := by
  go_enter Try.func61, Try.ntmps61
  go_wp2_with fail
  with_reducible refine (searchH_any _ _ _ l t _ hr hn hR).mono ?_
  rintro e w2 ⟨k, rfl, hk, hb2⟩
  have HK := hid hk
  clear hk
  obtain ⟨dd, hdd⟩ : ∃ d, hitF Hld.Id l t k = d := ⟨_, rfl⟩
  rw [hdd]
  have HD := hid hdd
  clear hdd
  go_wp2
  go_ret2
  exact ⟨k, by rw [HD.out]; rfl, HK.out, hb2⟩

set_option maxHeartbeats 1000000 in
theorem cloneH_any (A : Option Addr) (n c : Nat) (l : List Hld) (w : World) (h : Sl lay_Hold w (· < w.heap.size) A n c l) (hn : n ≤ 1048576) :
    Calls Try.prog 59 #[.slice A n c] w fun e w' => ∃ v', e = .returned v' ∧ OwnL lay_Hold w' w.heap.size none 83 v' l ∧ Below w.heap.size w w' := by
  have hnil := fun W => run_is_nil (P := Try.prog) W 26 83 A n c Try.underlying26
  cases A with
  | none =>
    have hc := h.no rfl
    have hn0 : n = 0 := by have := h.cap; omega
    subst hc hn0
    have hx : l = [] := List.eq_nil_of_length_eq_zero h.len
    subst hx
    go_enter Try.func59, Try.ntmps59
    go_wp2
    go_ret
    exact ⟨_, rfl, OwnL.nil _ _ _ _ _, Below.refl _ _⟩
  | some a =>
    have hb0 : Below w.heap.size w (w.alloc (Obj.cells #[] 83)) := bel_alloc (Below.refl _ _) _
    have HS := hid (h.keep fun _ hp => hb0.cell hp)
    go_enter Try.func59, Try.ntmps59
    go_wp2_with (at_builtin; go_must (refine wpList_catL rfl _ _ 26 rfl w.heap.size none 83 _ 16 Try.underlying26 Try.infoHld rfl (by decide) (.slice (some ⟨w.heap.size, 0, none⟩) 0 0) [] l (· < w.heap.size) (some a) n c rfl rfl (OwnL.empty lay_Hold _ _ none) HS.out (fun b hb => ⟨trivial, Nat.lt_of_lt_of_le hb hb0.size, fun he => by simp [Value.ownBlock] at he; omega⟩) (by simp) (by simp; omega) (by unfold maxLen; simp; omega) ?_; intro v3 w3 hown3 hext3))
    go_ret
    simp only [List.nil_append] at hown3
    exact ⟨_, rfl, hown3, hb0.trans ((OwnL.empty lay_Hold w _ none).below hext3 (by simp))⟩

set_option maxRecDepth 100000 in
set_option maxHeartbeats 2000000 in
theorem growH_any (n : Nat) (hn : n ≤ 1048576) (lo : Option Nat) (w : World) :
    Calls Try.prog 82 #[.slice none 0 0, .int .i64 n] w fun e w' => ∃ v', e = .returned v' ∧ OwnL lay_Hold w' w.heap.size lo 83 v' [] ∧ Below w.heap.size w w' := by
  have w0 : IntKind.i64.wrap ((n : Int) - 0) = n := IntWalk.i64_in _ (by omega)
  have w1 : IntKind.i64.wrap (n : Int) = n := IntWalk.i64_in _ (by omega)
  have d0 : decide ((n : Int) < 0) = false := by simp
  by_cases h0 : n = 0
  · subst h0
    go_enter Try.func82, Try.ntmps82
    go_wp2
    go_ret
    exact ⟨_, rfl, OwnL.nil _ _ _ _ _, Below.refl _ _⟩
  · have d1 : decide ((0 : Int) < (n : Int)) = true := by simp; omega
    have d2 : decide (0 < n) = true := by simp; omega
    have hsl := fun A c => run_uptoL (P := Try.prog) 26 83 .i64 Try.underlying26 Try.elemHld Try.infoHld A n c 0 (Nat.zero_le _)
    have hsl0 := run_uptoL (P := Try.prog) 26 83 .i64 Try.underlying26 Try.elemHld Try.infoHld none 0 0 0 (Nat.zero_le _)
    obtain ⟨cap, W, hr, ho, hb⟩ := run_zeros0 (P := Try.prog) lay_Hold w 26 3 26 83 .i64 .i64 Try.underlying26 Try.underlying3 Try.infoHld rfl (by decide) lo n (by omega) hn (by decide)
    have HO := hid ho
    have HB := hid hb
    have HS := hid hsl
    clear ho hb h0 hsl
    go_enter Try.func82, Try.ntmps82
    have hs2 := HS.out (some ⟨w.heap.size, 0, none⟩) cap
    go_wp2_with (at_builtin; go_must (refine Lib.wpList_append_run _ rfl _ _ _ _ rfl _ _ rfl rfl _ _ hr ?_))
    go_ret
    exact ⟨_, rfl, HO.out, HB.out⟩

set_option maxRecDepth 100000 in
set_option maxHeartbeats 2000000 in
theorem concatH_any (A : Option Addr) (n c : Nat) (ls : List (List Hld)) (w : World) (h : Sl (Lay.slice lay_Hold) w (· < w.heap.size) A n c ls) (hsum : ls.flatten.length ≤ 1048576) :
    Calls Try.prog 62 #[.slice A n c] w fun e w' => ∃ v', e = .returned v' ∧ OwnL lay_Hold w' w.heap.size (some w.heap.size) 83 v' ls.flatten ∧ Below w.heap.size w w' := by
  have HL := hid h.len
  have hcap := h.cap
  unfold maxLen at hcap
  have HF := hid (fun j => flat_take_len ls j)
  go_enter Try.func62, Try.ntmps62
  go_wp2
  go_loop [3, 11] (fun s i => ∃ j : Nat, j ≤ n ∧ i = .int .i64 j ∧ s = .int .i64 (lenF ls j : Nat)) (fun _ i => n - (intOf i).toNat)
  case atStart => exact ⟨0, Nat.zero_le _, rfl, rfl⟩
  case round =>
    obtain ⟨j, hj, rfl, rfl⟩ := hrel
    have hs := HF.out j
    by_cases hlt : j < n
    · obtain ⟨b, off, A', n', c', hx, rfl, hb, hc, hsl⟩ := row_at h hlt
      have HT := hid (flat_take hx)
      have hs1 := HF.out (j + 1)
      have hs2 : lenF ls (j + 1) = lenF ls j + n' := by unfold lenF; rw [HT.out, List.length_append, hsl.len]
      have HN := hid (show ((lenF ls (j + 1) : Nat) : Int) = (lenF ls j : Nat) + n' from by omega)
      rw [hs2] at hs1
      clear hs2
      generalize lenF ls j = m at *
      clear hsl
      have wm : IntKind.i64.wrap ((m : Int) + (n' : Int)) = (m : Int) + (n' : Int) := IntWalk.i64_in _ (by omega)
      have d1 : decide ((m : Int) + (n' : Int) < 0) = false := by simp; omega
      go_wp2
      go_round
      case rel => exact ⟨j + 1, by omega, by go_num, by rw [HN.out]⟩
      case measure => simp [intOf]; omega
    · have hjn : j = n := by omega
      have HE := hid (show ls.take j = ls from List.take_of_length_le (by rw [HL.out]; omega))
      have hm : lenF ls j ≤ 1048576 := Nat.le_trans hs hsum
      clear hs
      generalize lenF ls j = m at *
      go_wp2_with fail
      with_reducible refine (growH_any m hm (some w.heap.size) w).mono ?_
      rintro e w1 ⟨v1, rfl, ho1, hb1⟩
      have HSL := hid (fun (W : World) (h' : Below w.heap.size w W) => Sl.call h h')
      go_wp2
      go_loopw [6, 27] (fun u i wr => ∃ k : Nat, k ≤ n ∧ i = .int .i64 k ∧ OwnL lay_Hold wr w.heap.size (some w.heap.size) 83 u (ls.take k).flatten ∧ Below w.heap.size w wr) (fun _ i _ => n - (intOf i).toNat)
      case atStart => exact ⟨0, Nat.zero_le _, rfl, ho1, hb1⟩
      case round =>
        obtain ⟨k, hk, rfl, hown, hbel⟩ := hrel
        by_cases hlk : k < n
        · obtain ⟨b, off, A', n', c', hx, rfl, hb, hc, hsl⟩ := row_at h hlk
          have q1 := (hbel.cell (p := ⟨b, off + k, none⟩) hb).trans hc
          have HT := hid (flat_take hx)
          have hs1 := HF.out (k + 1)
          have hs3 : (ls.take k).flatten.length + n' ≤ 1048576 := by
            unfold lenF at hs1
            rw [HT.out, List.length_append, hsl.len] at hs1
            omega
          clear hs1
          have HS2 := hid ((hsl.keep (w' := wr) fun p hp => hbel.cell hp))
          clear hsl hc
          have hsz := hbel.size
          have HO := hid hown
          clear hown
          go_wp2_with (at_builtin; go_must (refine wpList_catL rfl _ _ 26 rfl w.heap.size none 83 _ 16 Try.underlying26 Try.infoHld rfl (by decide) _ (ls.take k).flatten ls[k] (· < w.heap.size) A' n' c' rfl rfl HO.out.loose HS2.out (fun b hb => ⟨trivial, Nat.lt_of_lt_of_le hb hsz, fun he => by have := HO.out.ge he.symm; omega⟩) hsz (by omega) (by unfold maxLen; omega) ?_; intro v3 w3 hown3 hext3))
          go_roundw
          case rel => exact ⟨k + 1, by omega, by go_num, by rw [HT.out]; exact hown3.flat flat_Hld _, hbel.trans (HO.out.below hext3 hsz)⟩
          case measure => simp [intOf]; omega
        · have HE2 := hid (show ls.take k = ls from List.take_of_length_le (by rw [HL.out]; omega))
          rw [HE2.out] at hown
          go_wp2
          go_ret
          exact ⟨_, rfl, hown, hbel⟩

def TghOk (l : List Hld) : Prop := l.length ≤ 64 ∧ (∀ h ∈ l, h.N ≠ 0) ∧ HUp l ∧ allLe mMax (numsH l) = true ∧ sumM (numsH l) ≤ mMax
noncomputable instance (l : List Hld) : Decidable (TghOk l) := Classical.propDecidable _
noncomputable def tghE (l : List Hld) : Int := if TghOk l then 0 else 1
noncomputable def tghV (l : List Hld) : Int := if TghOk l then sumM (numsH l) else 0
/-- So far they may be. -/
def TghPre (l : List Hld) (j : Nat) : Prop := (∀ i (hi : i < l.length), i < j → l[i].N ≠ 0 ∧ (∀ h0 : 0 < i, (l[i - 1]'(by omega)).Id < l[i].Id)) ∧ allLe mMax (numsH (l.take j)) = true ∧ sumM (numsH (l.take j)) ≤ mMax
theorem tgh_split (l : List Hld) (j : Nat) : numsH l = numsH (l.take j) ++ numsH (l.drop j) := by
  unfold numsH
  rw [← List.map_append, List.take_append_drop]
theorem tgh_add {l : List Hld} (h : TghOk l) (hw : HldsWf l) {j : Nat} (hj : j < l.length) : addE [sumM (numsH (l.take j)), l[j].N] = 0 := by
  obtain ⟨a1, a2, a3, a4, a5⟩ := h
  have h1 := tgh_split l (j + 1)
  have h2 : 0 ≤ sumM (numsH (l.drop (j + 1))) := sumM_nonneg (nums_nonneg fun x hx => hw x (List.mem_of_mem_drop hx))
  have h3 : 0 ≤ sumM (numsH (l.take j)) := sumM_nonneg (nums_nonneg fun x hx => hw x (List.mem_of_mem_take hx))
  rw [nums_take hj] at h1
  have h4 := congrArg sumM h1
  rw [sumM_append, sumM_append] at h4
  simp only [sumM] at h4
  have h5 := (bounds_u64 (hw _ (List.getElem_mem hj)).num).1
  refine (add_ok ?_ ?_).1
  · rw [allLe_iff]
    intro x hx
    simp at hx
    rcases hx with rfl | rfl <;> omega
  · simp only [sumM]; omega
theorem tgh_next {l : List Hld} {j : Nat} (hj : j < l.length) (h : TghPre l j) (hN : l[j].N ≠ 0) (hI : ∀ h0 : 0 < j, (l[j - 1]'(by omega)).Id < l[j].Id) (hA : addE [sumM (numsH (l.take j)), l[j].N] = 0) :
    TghPre l (j + 1) ∧ addN [sumM (numsH (l.take j)), l[j].N] = sumM (numsH (l.take (j + 1))) := by
  obtain ⟨b1, b2, b3⟩ := add_nums hA
  rw [allLe_iff] at b1
  have e : sumM (numsH (l.take (j + 1))) = sumM (numsH (l.take j)) + l[j].N := by rw [nums_take hj, sumM_append]; simp [sumM]
  have e2 : sumM [sumM (numsH (l.take j)), l[j].N] = sumM (numsH (l.take j)) + l[j].N := by simp [sumM]
  refine ⟨⟨fun i hi hij => ?_, ?_, ?_⟩, ?_⟩
  · by_cases hlt : i < j
    · exact h.1 i hi hlt
    · have e : i = j := by omega
      subst e
      exact ⟨hN, hI⟩
  · have h1 := h.2.1
    rw [allLe_iff] at h1 ⊢
    rw [nums_take hj]
    intro x hx
    rcases List.mem_append.1 hx with q | q
    · exact h1 x q
    · exact b1 x (by simp at q; simp [q])
  · rw [e, ← e2]; exact b2
  · rw [b3, e2, e]
theorem tgh_all {l : List Hld} (hl : l.length ≤ 64) (h : TghPre l l.length) : TghOk l := by
  obtain ⟨h1, h2, h3⟩ := h
  rw [List.take_length] at h2 h3
  refine ⟨hl, fun x hx => ?_, up_of fun i hi h0 => (h1 i hi hi).2 h0, h2, h3⟩
  obtain ⟨i, hi, rfl⟩ := List.getElem_of_mem hx
  exact (h1 i hi hi).1

theorem mAdd2B_any (a b : Int) (g : Nat) (w : World) (hg : g = w.heap.size) (ha : (Lit.int .u64 a).wf = true) (hb : (Lit.int .u64 b).wf = true) :
    Calls Try.prog 46 #[.slice (some ⟨g, 0, none⟩) 2 2] (w.alloc (.cells #[.int .u64 a, .int .u64 b] 24)) fun e w' => e = .returned (.tuple #[.int .u64 (addN [a, b]), .int .i64 (addE [a, b])]) ∧ Below w.heap.size w w' := by
  subst hg
  exact mAdd2_any a b w ha hb

set_option maxRecDepth 100000 in
set_option maxHeartbeats 4000000 in
theorem together_any (A : Option Addr) (n k : Nat) (l : List Hld) (w : World) (h : Sl lay_Hold w (· < w.heap.size) A n k l) :
    Calls Try.prog 56 #[.slice A n k] w fun e w' => e = .returned (.tuple #[.int .u64 (tghV l), .int .i64 (tghE l)]) ∧ Below w.heap.size w w' := by
  have HL := hid h.len
  have hcap := h.cap
  unfold maxLen at hcap
  have HWF := hid (show HldsWf l from sl_hlds h)
  have HNO := hid (fun (q : ¬ TghOk l) => (And.intro (if_neg q) (if_neg q) : tghE l = 1 ∧ tghV l = 0))
  by_cases h64 : 64 < n
  · have d1 : decide ((64 : Int) < (n : Int)) = true := by simp; omega
    have HE := hid (HNO.out fun q => by have := q.1; rw [HL.out] at this; omega)
    go_enter Try.func56, Try.ntmps56
    go_wp2
    go_ret2
    exact ⟨by rw [HE.out.1, HE.out.2]; rfl, Below.refl _ _⟩
  have d1 : decide ((64 : Int) < (n : Int)) = false := by simp; omega
  have HS := hid (fun (W : World) (hb : Below w.heap.size w W) => Sl.call h hb)
  go_enter Try.func56, Try.ntmps56
  go_wp2
  go_loopw [4, 14] (fun u i wr => ∃ j : Nat, j ≤ n ∧ i = .int .i64 j ∧ u = .int .u64 (sumM (numsH (l.take j))) ∧ Hid (TghPre l j) ∧ Below w.heap.size w wr) (fun _ i _ => n - (intOf i).toNat)
  case atStart => exact ⟨0, Nat.zero_le _, rfl, rfl, hid ⟨fun i hi h => absurd h (by omega), rfl, by rw [List.take_zero]; decide⟩, Below.refl _ _⟩
  case round =>
  obtain ⟨j, hj, rfl, rfl, HP, hbel⟩ := hrel
  by_cases hlt : j < n
  · obtain ⟨b1, o1, hx1, rfl, hb1, t1, t2, hwh⟩ := hld_at (HS.out _ hbel) hlt
    have hba := bel_alloc hbel (Obj.cells #[.int .u64 l[j].Id, .int .u64 l[j].N] 83)
    have y0 : (wr.alloc (Obj.cells #[.int .u64 l[j].Id, .int .u64 l[j].N] 83)).cell? ⟨wr.heap.size, 0, none⟩ = some (.int .u64 l[j].Id) := by rw [World.cell?_alloc_at _ _ _ _ rfl]; rfl
    have y1 : (wr.alloc (Obj.cells #[.int .u64 l[j].Id, .int .u64 l[j].N] 83)).cell? ⟨wr.heap.size, 1, none⟩ = some (.int .u64 l[j].N) := by rw [World.cell?_alloc_at _ _ _ _ rfl]; rfl
    have HSA := HS.out _ hba
    go_upto_region 7 with (fail)
    generalize wr.alloc (Obj.cells #[.int .u64 l[j].Id, .int .u64 l[j].N] 83) = W5 at *
    clear t1 t2
    by_cases g1 : l[j].N = 0
    · have d1 : (l[j].N == 0) = true := by simpa using g1
      have HE := hid (HNO.out fun q => q.2.1 _ (List.getElem_mem hx1) g1)
      clear g1
      go_quiet (fail)
      go_wp2
      go_ret2
      exact ⟨by rw [HE.out.1, HE.out.2]; rfl, bel_drewN hba _⟩
    have d1 : (l[j].N == 0) = false := by simpa using g1
    have bnd0 : 0 ≤ sumM (numsH (l.take j)) := sumM_nonneg (nums_nonneg fun x hx => HWF.out x (List.mem_of_mem_take hx))
    have bnd1 : sumM (numsH (l.take j)) ≤ 4611686018427387904 := HP.out.2.2
    have wfs : (Lit.int .u64 (sumM (numsH (l.take j)))).wf = true := wf_u64 (by omega)
    have HNA := hid (fun (q : ¬ addE [sumM (numsH (l.take j)), l[j].N] = 0) => HNO.out fun r => q (tgh_add r HWF.out hx1))
    by_cases g2 : j = 0
    · have d2 : decide ((0 : Int) < (j : Int)) = false := by simp; omega
      have d2' : decide (0 < j) = false := decide_eq_false (by omega)
      have HNX := hid (fun q => tgh_next hx1 HP.out g1 (fun h0 => absurd h0 (by omega)) q)
      have HG2 := hid g2
      clear g1 g2
      obtain ⟨ae, hae⟩ : ∃ z, addE [sumM (numsH (l.take j)), l[j].N] = z := ⟨_, rfl⟩
      obtain ⟨an, han⟩ : ∃ z, addN [sumM (numsH (l.take j)), l[j].N] = z := ⟨_, rfl⟩
      have HAD := hid (fun (W : World) (g : Nat) (hg : g = W.heap.size) => mAdd2B_any (sumM (numsH (l.take j))) l[j].N g W hg wfs hwh.num)
      rw [hae, han] at HAD
      rw [hae] at HNA HNX
      rw [han] at HNX
      clear hae han hwh
      generalize sumM (numsH (l.take j)) = sj at *
      go_quiet (fail)
      go_wp2_with fail
      with_reducible refine (HAD.out _ _ ?hg).mono ?_
      case hg => rfl
      rintro e w5 ⟨rfl, hb5⟩
      have HB5 := bel_call (bel_drewN hba _) hb5
      by_cases hz : ae = 0
      · obtain ⟨HN1, HN2⟩ := HNX.out hz
        have N1 := hid HN1
        have N2 := hid HN2
        clear HN1 HN2
        subst hz
        go_wp2
        go_roundw
        case rel => exact ⟨j + 1, by omega, by go_num, by rw [N2.out], N1, HB5⟩
        case measure => simp [intOf]; omega
      · have HE := hid (HNA.out hz)
        have dz : (ae != 0) = true := by simpa using hz
        clear hz
        go_wp2
        go_ret2
        exact ⟨by rw [HE.out.1, HE.out.2]; rfl, HB5⟩
    have d2 : decide ((0 : Int) < (j : Int)) = true := by simp; omega
    have d2' : decide (0 < j) = true := decide_eq_true (by omega)
    obtain ⟨q, hq⟩ : ∃ q : Nat, q + 1 = j := ⟨j - 1, by omega⟩
    have hkn : (j : Int) - 1 = (q : Int) := by omega
    have hwk : IntKind.i64.wrap (q : Int) = (q : Int) := IntWalk.i64_in _ (by omega)
    obtain ⟨b2, o2, hx2, hA2, -, u1, -, -⟩ := hld_at HSA (show q < n by omega)
    injection hA2 with hA2
    injection hA2 with e1 e2
    subst e1 e2
    have ik : (0 : Int) ≤ (q : Int) ∧ (q : Int) < (n : Int) := by omega
    have ik2 : q < n := by omega
    by_cases g3 : l[q].Id < l[j].Id
    · have d3 : decide (l[j].Id ≤ l[q].Id) = false := by simp; omega
      have HNX := hid (fun e => tgh_next hx1 HP.out g1 (fun _ => by
          have e : j - 1 = q := by omega
          simp only [e]
          exact g3) e)
      have HQ := hid hq
      clear g3 hq
      generalize l[q].Id = qi at *
      obtain ⟨ae, hae⟩ : ∃ z, addE [sumM (numsH (l.take j)), l[j].N] = z := ⟨_, rfl⟩
      obtain ⟨an, han⟩ : ∃ z, addN [sumM (numsH (l.take j)), l[j].N] = z := ⟨_, rfl⟩
      have HAD := hid (fun (W : World) (g : Nat) (hg : g = W.heap.size) => mAdd2B_any (sumM (numsH (l.take j))) l[j].N g W hg wfs hwh.num)
      rw [hae, han] at HAD
      rw [hae] at HNA HNX
      rw [han] at HNX
      clear hae han hwh
      generalize sumM (numsH (l.take j)) = sj at *
      go_quiet (fail)
      go_wp2_with fail
      with_reducible refine (HAD.out _ _ ?hg).mono ?_
      case hg => rfl
      rintro e w5 ⟨rfl, hb5⟩
      have HB5 := bel_call (bel_drewN hba _) hb5
      by_cases hz : ae = 0
      · obtain ⟨HN1, HN2⟩ := HNX.out hz
        have N1 := hid HN1
        have N2 := hid HN2
        clear HN1 HN2
        subst hz
        go_wp2
        go_roundw
        case rel => exact ⟨j + 1, by omega, by go_num, by rw [N2.out], N1, HB5⟩
        case measure => simp [intOf]; omega
      · have HE := hid (HNA.out hz)
        have dz : (ae != 0) = true := by simpa using hz
        clear hz
        go_wp2
        go_ret2
        exact ⟨by rw [HE.out.1, HE.out.2]; rfl, HB5⟩
    · have d3 : decide (l[j].Id ≤ l[q].Id) = true := by simp; omega
      have HE := hid (HNO.out fun h => g3 (List.pairwise_iff_getElem.1 h.2.2.1 q j hx2 hx1 (by omega)))
      have HQ := hid hq
      clear g1 g2 g3 hq
      generalize l[q].Id = qi at *
      go_quiet (fail)
      go_wp2
      go_ret2
      exact ⟨by rw [HE.out.1, HE.out.2]; rfl, bel_drewN hba _⟩
  · have hjn : j = n := by omega
    have hok : TghOk l := tgh_all (by rw [HL.out]; omega) (by rw [HL.out, ← hjn]; exact HP.out)
    have HE := hid (show tghE l = 0 ∧ tghV l = sumM (numsH (l.take j)) from ⟨if_pos hok, by rw [List.take_of_length_le (by rw [HL.out]; omega)]; exact if_pos hok⟩)
    clear hok hjn
    generalize sumM (numsH (l.take j)) = sj at *
    go_wp2
    go_ret2
    exact ⟨by rw [HE.out.1, HE.out.2]; rfl, hbel⟩

end Go.Proofs.Ytpkfejfdbjoehaa
namespace Go.Proofs.Ytpkfejfdbjoehaa
open Go.RowKit Go.WalkArith

theorem tgh_of {c : Chn} (h : ChOk c) : TghOk c.Holds := ⟨h.2.2.1, h.2.2.2.2.1, h.2.2.2.2.2.1, h.2.2.2.2.2.2.1, Int.le_trans h.2.2.2.2.2.2.2.1 h.2.1⟩

set_option maxRecDepth 100000 in
set_option maxHeartbeats 4000000 in
theorem cHeld_any (s : Array Value) (c : Chn) (w : World) (r : lay_Channel.rep w (· < w.heap.size) c s.toList) :
    Calls Try.prog 40 #[.agg s] w fun e w' => e = .returned (.tuple #[.int .u64 (heV c), .int .i64 (chE c)]) ∧ Below w.heap.size w w' := by
  obtain ⟨A, n, k, rfl, hw, hs⟩ := agg_Channel r
  clear r
  have HL := hid hs.len
  have hcap := hs.cap
  unfold maxLen at hcap
  have hb0 : Below w.heap.size w (w.alloc (Obj.cells #[.int .u64 c.Id, .int .u64 c.Local, .int .u64 c.Remote, .int .u64 c.Reserve, .int .u64 c.Most, .slice A n k, .bool c.Open] 28)) := bel_alloc (Below.refl _ _) _
  have B0 := BoxC.new w c A n k
  go_enter Try.func40, Try.ntmps40
  go_wp2_with fail
  generalize w.alloc (Obj.cells #[.int .u64 c.Id, .int .u64 c.Local, .int .u64 c.Remote, .int .u64 c.Reserve, .int .u64 c.Most, .slice A n k, .bool c.Open] 28) = W0 at *
  refine (together_any _ _ _ c.Holds _ (Sl.call hs hb0)).mono ?_
  rintro e w1 ⟨rfl, hb1⟩
  have HB := bel_call hb0 hb1
  have B1 := B0.call hb1
  clear B0 hb0 hb1
  have HN := hid (fun (q : ¬ ChOk c) => (And.intro (if_neg q) (if_neg q) : chE c = 1 ∧ heV c = 0))
  by_cases ht : TghOk c.Holds
  rotate_left
  · have HE := hid (HN.out fun q => ht (tgh_of q))
    rw [show tghE c.Holds = 1 from if_neg ht, show tghV c.Holds = 0 from if_neg ht]
    clear ht
    go_wp2
    go_ret2
    exact ⟨by rw [HE.out.1, HE.out.2]; rfl, HB⟩
  rw [show tghE c.Holds = 0 from if_pos ht, show tghV c.Holds = heldN c from if_pos ht]
  have HT := hid ht
  have h0 : 0 ≤ heldN c := held_nonneg (sl_hlds hs)
  have h1 : heldN c ≤ 4611686018427387904 := ht.2.2.2.2
  have hn64 : n ≤ 64 := by rw [← HL.out]; exact ht.1
  have wfh : (Lit.int .u64 (heldN c)).wf = true := wf_u64 (by omega)
  clear ht
  obtain ⟨hn, hhn⟩ : ∃ z, heldN c = z := ⟨_, rfl⟩
  have HH := hid hhn
  rw [hhn] at h0 h1 wfh ⊢
  clear hhn
  go_upto_region 2 with (fail)
  go_cut [33] from 15 to 33 (fun q wc => q = .bool (decide (c.Most < hn ∨ (c.Open = false ∧ 0 < n))) ∧ BoxC wc w.heap.size c A n k ∧ Below w.heap.size w wc)
  case first =>
    obtain ⟨p0, p1, p2, p3, p4, p5, p6⟩ := B1.all
    by_cases g1 : c.Most < hn
    · have HD := hid (show decide (c.Most < hn ∨ (c.Open = false ∧ 0 < n)) = true from decide_eq_true (.inl g1))
      have d1 : decide (c.Most < hn) = true := decide_eq_true g1
      clear g1
      go_wp2_with fail
      go_meet
      case rel => exact ⟨by rw [HD.out], B1, HB⟩
    have d1 : decide (c.Most < hn) = false := decide_eq_false g1
    obtain ⟨o, ho⟩ : ∃ z, c.Open = z := ⟨_, rfl⟩
    rw [ho] at p6
    have HO := hid ho
    clear ho
    cases o
    · by_cases g3 : 0 < n
      · have HD := hid (show decide (c.Most < hn ∨ (c.Open = false ∧ 0 < n)) = true from decide_eq_true (.inr ⟨HO.out, g3⟩))
        have d3 : decide ((0 : Int) < (n : Int)) = true := by simp; omega
        have d3' : decide (0 < n) = true := decide_eq_true g3
        clear g1
        go_wp2_with fail
        go_meet
        case rel => exact ⟨by rw [HD.out], B1, HB⟩
      · have HD := hid (show decide (c.Most < hn ∨ (c.Open = false ∧ 0 < n)) = false from decide_eq_false fun h => h.elim g1 fun q => g3 q.2)
        have d3 : decide ((0 : Int) < (n : Int)) = false := by simp; omega
        have d3' : decide (0 < n) = false := decide_eq_false g3
        clear g1
        go_wp2_with fail
        go_meet
        case rel => exact ⟨by rw [HD.out], B1, HB⟩
    · have HD := hid (show decide (c.Most < hn ∨ (c.Open = false ∧ 0 < n)) = false from decide_eq_false fun h => h.elim g1 fun q => by have := HO.out; rw [q.1] at this; cases this)
      clear g1
      go_wp2_with fail
      go_meet
      case rel => exact ⟨by rw [HD.out], B1, HB⟩
  case rest =>
  clear HB B1
  obtain ⟨rfl, BC, HB⟩ := hcut
  by_cases g0 : c.Most < hn ∨ (c.Open = false ∧ 0 < n)
  · rw [decide_eq_true g0]
    have HE := hid (HN.out fun h => by
      rcases g0 with q | q
      · have := h.2.2.2.2.2.2.2.1; rw [HH.out] at this; omega
      · have h1 := h.2.2.2.1 q.1; have h2 := HL.out; rw [h1] at h2; simp at h2; omega)
    clear g0
    go_wp2
    go_ret2
    exact ⟨by rw [HE.out.1, HE.out.2]; rfl, HB⟩
  rw [decide_eq_false g0]
  have a1 : hn ≤ c.Most := Int.not_lt.1 fun q => g0 (.inl q)
  have a3 : c.Open = false → c.Holds = [] := fun q => List.eq_nil_of_length_eq_zero (by rw [HL.out]; exact Nat.eq_zero_of_not_pos fun r => g0 (.inr ⟨q, r⟩))
  have QA := hid (And.intro a1 a3)
  clear g0 a1 a3
  obtain ⟨p0, p1, p2, p3, p4, p5, p6⟩ := BC.all
  have HC2 := hid (fun W => mCheck2_any c.Reserve c.Most W hw.res hw.most)
  rw [chkM_two] at HC2
  go_wp2_with fail
  with_reducible refine (HC2.out _).mono ?_
  rintro e w3 ⟨rfl, hb3⟩
  replace BC := BC.call hb3
  replace HB := bel_call HB hb3
  clear p0 p1 p2 p3 p4 p5 p6 hb3
  by_cases g1 : c.Reserve ≤ mMax ∧ c.Most ≤ mMax
  rotate_left
  · rw [if_neg g1]
    have HE := hid (HN.out fun h => g1 ⟨h.1, h.2.1⟩)
    clear g1
    go_wp2
    go_ret2
    exact ⟨by rw [HE.out.1, HE.out.2]; rfl, HB⟩
  rw [if_pos g1]
  obtain ⟨p0, p1, p2, p3, p4, p5, p6⟩ := BC.all
  have HR := hid (mAdd_any _ _ _ _ _ _ (rd_three w3 c.Local c.Remote hn hw.loc hw.rem wfh) (Nat.le_refl _))
  obtain ⟨be, hbe⟩ : ∃ z, addE [c.Local, c.Remote, hn] = z := ⟨_, rfl⟩
  obtain ⟨bn, hbn⟩ : ∃ z, addN [c.Local, c.Remote, hn] = z := ⟨_, rfl⟩
  rw [hbe, hbn] at HR
  have HOK := hid (show ChOk c ↔ be = 0 from by
    rw [← hbe]
    constructor
    · intro h
      rw [← HH.out]
      exact (ch_add h).2.2.1
    · intro h
      obtain ⟨t1, t2, -⟩ := add_nums h
      rw [allLe_iff] at t1
      have u1 := t1 c.Local (by simp)
      have u2 := t1 c.Remote (by simp)
      have u3 : c.Local + c.Remote + hn ≤ mMax := by simp [sumM] at t2; omega
      have ht := HT.out
      exact ⟨g1.1, g1.2, ht.1, QA.out.2, ht.2.1, ht.2.2.1, ht.2.2.2.1, by rw [HH.out]; exact QA.out.1, u1, u2, by rw [HH.out]; exact u3⟩)
  have HBY := hid (bel_alloc HB (Obj.cells #[.int .u64 c.Local, .int .u64 c.Remote, .int .u64 hn] 24))
  clear hbe hbn g1
  go_wp2_with fail
  refine HR.out.mono ?_
  rintro e w5 ⟨rfl, hb5⟩
  have HBZ := bel_call HBY.out hb5
  by_cases hz : be = 0
  · have hok := HOK.out.2 hz
    have HE := hid (show chE c = 0 ∧ heV c = hn from ⟨if_pos hok, by rw [← HH.out]; exact if_pos hok⟩)
    subst hz
    clear hok
    go_wp2
    go_ret2
    exact ⟨by rw [HE.out.1, HE.out.2]; rfl, HBZ⟩
  · have HE := hid (HN.out fun h => hz (HOK.out.1 h))
    have dz : (be != 0) = true := by simpa using hz
    clear hz
    go_wp2
    go_ret2
    exact ⟨by rw [HE.out.1, HE.out.2]; rfl, HBZ⟩

set_option maxRecDepth 100000 in
set_option maxHeartbeats 4000000 in
theorem cCheck_any (s : Array Value) (c : Chn) (w : World) (r : lay_Channel.rep w (· < w.heap.size) c s.toList) :
    Calls Try.prog 28 #[.agg s] w fun e w' => e = .returned (.int .i64 (chE c)) ∧ Below w.heap.size w w' := by
  obtain ⟨A, n, k, rfl, hw, hs⟩ := agg_Channel r
  clear r
  have HL := hid hs.len
  have hcap := hs.cap
  unfold maxLen at hcap
  have hb0 : Below w.heap.size w (w.alloc (Obj.cells #[.int .u64 c.Id, .int .u64 c.Local, .int .u64 c.Remote, .int .u64 c.Reserve, .int .u64 c.Most, .slice A n k, .bool c.Open] 28)) := bel_alloc (Below.refl _ _) _
  have B0 := BoxC.new w c A n k
  go_enter Try.func28, Try.ntmps28
  go_wp2_with fail
  generalize w.alloc (Obj.cells #[.int .u64 c.Id, .int .u64 c.Local, .int .u64 c.Remote, .int .u64 c.Reserve, .int .u64 c.Most, .slice A n k, .bool c.Open] 28) = W0 at *
  refine (cHeld_any _ c _ (chan_in hw hs hb0)).mono ?_
  rintro e w1 ⟨rfl, hb1⟩
  have HB := bel_call hb0 hb1
  have B1 := B0.call hb1
  clear B0 hb0 hb1
  go_wp2
  go_ret
  exact ⟨rfl, HB⟩

set_option maxRecDepth 100000 in
set_option maxHeartbeats 2000000 in
theorem cAll_any (s : Array Value) (c : Chn) (w : World) (r : lay_Channel.rep w (· < w.heap.size) c s.toList) :
    Calls Try.prog 29 #[.agg s] w fun e w' => e = .returned (.tuple #[.int .u64 (aaV c), .int .i64 (chE c)]) ∧ Below w.heap.size w w' := by
  obtain ⟨A, n, k, rfl, hw, hs⟩ := agg_Channel r
  clear r
  have HL := hid hs.len
  have hcap := hs.cap
  unfold maxLen at hcap
  have hb0 : Below w.heap.size w (w.alloc (Obj.cells #[.int .u64 c.Id, .int .u64 c.Local, .int .u64 c.Remote, .int .u64 c.Reserve, .int .u64 c.Most, .slice A n k, .bool c.Open] 28)) := bel_alloc (Below.refl _ _) _
  have B0 := BoxC.new w c A n k
  go_enter Try.func29, Try.ntmps29
  go_wp2_with fail
  generalize w.alloc (Obj.cells #[.int .u64 c.Id, .int .u64 c.Local, .int .u64 c.Remote, .int .u64 c.Reserve, .int .u64 c.Most, .slice A n k, .bool c.Open] 28) = W0 at *
  refine (cHeld_any _ c _ (chan_in hw hs hb0)).mono ?_
  rintro e w1 ⟨rfl, hb1⟩
  have HB := bel_call hb0 hb1
  have B1 := B0.call hb1
  clear B0 hb0 hb1
  rcases ch_is (c := c) with ⟨ok, hE⟩ | ⟨ok, hE⟩
  rotate_left
  · have HE := hid hE
    have HV := hid (show aaV c = 0 from if_neg ok)
    rw [hE]
    clear hE ok
    go_wp2
    go_ret2
    exact ⟨by rw [HV.out, HE.out]; rfl, HB⟩
  rw [hE, show heV c = heldN c from if_pos ok]
  have HE := hid hE
  have HV := hid (show aaV c = c.Local + c.Remote + heldN c from if_pos ok)
  obtain ⟨-, -, a1, a2⟩ := ch_add ok
  have h0 := held_nonneg (c := c) (sl_hlds hs)
  have h1 : heldN c ≤ mMax := Int.le_trans ok.2.2.2.2.2.2.2.1 ok.2.1
  have hm : mMax = 4611686018427387904 := rfl
  have wan : (Lit.int .u64 (heldN c)).wf = true := wf_u64 (by omega)
  have HR := hid (mAdd_any _ _ _ _ _ _ (rd_three w1 c.Local c.Remote (heldN c) hw.loc hw.rem wan) (Nat.le_refl _))
  rw [a1, a2] at HR
  have HBY := hid (bel_alloc HB (Obj.cells #[.int .u64 c.Local, .int .u64 c.Remote, .int .u64 (heldN c)] 24))
  clear hE ok a1 a2 h0 h1 hm
  obtain ⟨p0, p1, p2, p3, p4, p5, p6⟩ := B1.all
  go_wp2_with fail
  refine HR.out.mono ?_
  rintro e w4 ⟨rfl, hb4⟩
  have HBZ := bel_call HBY.out hb4
  clear p0 p1 p2 p3 p4 p5 p6
  go_wp2
  go_ret2
  exact ⟨by rw [HV.out, HE.out]; rfl, HBZ⟩

set_option maxRecDepth 100000 in
set_option maxHeartbeats 2000000 in
theorem cRoom_any (s : Array Value) (c : Chn) (w : World) (r : lay_Channel.rep w (· < w.heap.size) c s.toList) :
    Calls Try.prog 24 #[.agg s] w fun e w' => e = .returned (.tuple #[.int .u64 (rmV c), .int .i64 (chE c)]) ∧ Below w.heap.size w w' := by
  obtain ⟨A, n, k, rfl, hw, hs⟩ := agg_Channel r
  clear r
  have HL := hid hs.len
  have hcap := hs.cap
  unfold maxLen at hcap
  have hb0 : Below w.heap.size w (w.alloc (Obj.cells #[.int .u64 c.Id, .int .u64 c.Local, .int .u64 c.Remote, .int .u64 c.Reserve, .int .u64 c.Most, .slice A n k, .bool c.Open] 28)) := bel_alloc (Below.refl _ _) _
  have B0 := BoxC.new w c A n k
  go_enter Try.func24, Try.ntmps24
  go_wp2_with fail
  generalize w.alloc (Obj.cells #[.int .u64 c.Id, .int .u64 c.Local, .int .u64 c.Remote, .int .u64 c.Reserve, .int .u64 c.Most, .slice A n k, .bool c.Open] 28) = W0 at *
  refine (cHeld_any _ c _ (chan_in hw hs hb0)).mono ?_
  rintro e w1 ⟨rfl, hb1⟩
  have HB := bel_call hb0 hb1
  have B1 := B0.call hb1
  clear B0 hb0 hb1
  rcases ch_is (c := c) with ⟨ok, hE⟩ | ⟨ok, hE⟩
  rotate_left
  · have HE := hid hE
    have HV := hid (show rmV c = 0 from if_neg ok)
    rw [hE]
    clear hE ok
    go_wp2
    go_ret2
    exact ⟨by rw [HV.out, HE.out]; rfl, HB⟩
  rw [hE, show heV c = heldN c from if_pos ok]
  have HE := hid hE
  have HV := hid (show rmV c = roomN c from if_pos ok)
  have h0 := held_nonneg (c := c) (sl_hlds hs)
  have h1 : heldN c ≤ c.Most := ok.2.2.2.2.2.2.2.1
  have h2 := bounds_u64 hw.loc
  have h3 := bounds_u64 hw.res
  have h4 := bounds_u64 hw.most
  obtain ⟨p0, p1, p2, p3, p4, p5, p6⟩ := B1.all
  obtain ⟨o, ho⟩ : ∃ z, c.Open = z := ⟨_, rfl⟩
  rw [ho] at p6
  have HO := hid ho
  clear ho hE ok
  cases o
  · have HZ := hid (show roomN c = 0 from if_pos (.inl HO.out))
    go_wp2
    go_ret2
    exact ⟨by rw [HV.out, HE.out, HZ.out]; rfl, HB⟩
  by_cases g1 : n = 64
  · have HZ := hid (show roomN c = 0 from if_pos (.inr (.inl (by rw [HL.out]; exact g1))))
    have d1 : ((n : Int) == 64) = true := by simp; omega
    have G1 := hid g1
    clear g1
    go_wp2
    go_ret2
    exact ⟨by rw [HV.out, HE.out, HZ.out]; rfl, HB⟩
  have d1 : ((n : Int) == 64) = false := by simp; omega
  by_cases g2 : c.Local < c.Reserve
  · have HZ := hid (show roomN c = 0 from if_pos (.inr (.inr g2)))
    have d2 : decide (c.Local < c.Reserve) = true := decide_eq_true g2
    clear g2
    go_wp2
    go_ret2
    exact ⟨by rw [HV.out, HE.out, HZ.out]; rfl, HB⟩
  have d2 : decide (c.Local < c.Reserve) = false := decide_eq_false g2
  have HZ := hid (show roomN c = min (c.Local - c.Reserve) (c.Most - heldN c) from if_neg fun q => by
    rcases q with q | q | q
    · rw [HO.out] at q; cases q
    · exact g1 (by rw [← HL.out]; exact q)
    · exact g2 q)
  have w1e : IntKind.u64.wrap (c.Local - c.Reserve) = c.Local - c.Reserve := IntWalk.u64_in _ (by omega)
  have w2e : IntKind.u64.wrap (c.Most - heldN c) = c.Most - heldN c := IntWalk.u64_in _ (by omega)
  clear g1 g2 h0 h1 h2 h3 h4
  by_cases gm : c.Most - heldN c < c.Local - c.Reserve
  · have dm : decide (c.Most - heldN c < c.Local - c.Reserve) = true := decide_eq_true gm
    have HM := hid (show min (c.Local - c.Reserve) (c.Most - heldN c) = c.Most - heldN c from by omega)
    have HW := hid w2e
    go_wp2
    go_ret2
    exact ⟨by rw [HV.out, HE.out, HZ.out, HM.out]; first | rfl | (rw [← HW.out]; rfl), HB⟩
  · have dm : decide (c.Most - heldN c < c.Local - c.Reserve) = false := decide_eq_false gm
    have HM := hid (show min (c.Local - c.Reserve) (c.Most - heldN c) = c.Local - c.Reserve from by omega)
    have HW := hid w1e
    go_wp2
    go_ret2
    exact ⟨by rw [HV.out, HE.out, HZ.out, HM.out]; first | rfl | (rw [← HW.out]; rfl), HB⟩

end Go.Proofs.Ytpkfejfdbjoehaa
namespace Go.Proofs.Ytpkfejfdbjoehaa
open Go.RowKit Go.WalkArith

abbrev addRowH (W : World) (A : Option Addr) (n k j g : Nat) (id m : Int) : World := (W.alloc (Obj.cells #[.int .u64 id, .int .u64 m] 83)).alloc (Obj.cells #[.slice A j k, .slice (some ⟨g, 0, none⟩) 1 1, .slice (cutS lay_Hold.size A k j) (n - j) (k - j)] 26)
theorem addCatH_any (A : Option Addr) (n k j g g1 : Nat) (l : List Hld) (id m : Int) (W : World) (hg : g = W.heap.size) (hg1 : g1 = W.heap.size + 1) (h : Sl lay_Hold W (· < W.heap.size) A n k l) (hj : j ≤ n) (hn : n ≤ 64) (hi : (Lit.int .u64 id).wf = true) (hm : (Lit.int .u64 m).wf = true) :
    Calls Try.prog 62 #[.slice (some ⟨g1, 0, none⟩) 3 3] (addRowH W A n k j g id m) fun e w' => ∃ v', e = .returned v' ∧ OwnL lay_Hold w' W.heap.size (some W.heap.size) 83 v' (l.take j ++ [⟨id, m⟩] ++ l.drop j) ∧ Below W.heap.size W w' := by
  subst hg hg1
  have hb1 : Below W.heap.size W (W.alloc (Obj.cells #[.int .u64 id, .int .u64 m] 83)) := bel_alloc (Below.refl _ _) _
  have hb0 : Below W.heap.size W (addRowH W A n k j W.heap.size id m) := bel_alloc hb1 _
  have hz : (addRowH W A n k j W.heap.size id m).heap.size = W.heap.size + 2 := by simp [addRowH]
  have hg1 : (addRowH W A n k j W.heap.size id m).heap[W.heap.size]? = some (Obj.cells #[.int .u64 id, .int .u64 m] 83) := heap_alloc2_old _ _ _
  have hg2 : (addRowH W A n k j W.heap.size id m).heap[W.heap.size + 1]? = some (Obj.cells #[.slice A j k, .slice (some ⟨W.heap.size, 0, none⟩) 1 1, .slice (cutS lay_Hold.size A k j) (n - j) (k - j)] 26) := heap_alloc2_new _ _ _
  have s1 := (Sl.call h hb0).upto (i := j) hj
  have s3 := (Sl.call h hb0).cut (i := j) hj
  have B2 : BoxH (addRowH W A n k j W.heap.size id m) W.heap.size ⟨id, m⟩ := hg1
  have s2 : Sl lay_Hold (addRowH W A n k j W.heap.size id m) (· < (addRowH W A n k j W.heap.size id m).heap.size) (some ⟨W.heap.size, 0, none⟩) 1 1 [⟨id, m⟩] :=
    Sl.lit1 (cs := [.int .u64 id, .int .u64 m]) (by rw [hz]; omega) (rep_Hold.2 ⟨rfl, ⟨hi, hm⟩⟩) fun i v hv => by
      match i, hv with
      | 0, hv => simp at hv; subst hv; exact B2.c0
      | 1, hv => simp at hv; subst hv; exact B2.c1
  have s : Sl (Lay.slice lay_Hold) (addRowH W A n k j W.heap.size id m) (· < (addRowH W A n k j W.heap.size id m).heap.size) (some ⟨W.heap.size + 1, 0, none⟩) 3 3 [l.take j, [⟨id, m⟩], l.drop j] := by
    refine ⟨rfl, Nat.le_refl _, by unfold maxLen; omega, by simp, fun _ => ⟨W.heap.size + 1, 0, _, rfl, by rw [hz]; omega, ⟨[.slice A j k], [.slice (some ⟨W.heap.size, 0, none⟩) 1 1, .slice (cutS lay_Hold.size A k j) (n - j) (k - j)], rfl, ⟨_, _, _, rfl, s1⟩, ⟨[_], [_], rfl, ⟨_, _, _, rfl, s2⟩, ⟨[_], [], rfl, ⟨_, _, _, rfl, s3⟩, rfl⟩⟩⟩, fun i v hv => ?_⟩⟩
    match i, hv with
    | 0, hv => simp at hv; subst hv; exact Var3.c0 hg2
    | 1, hv => simp at hv; subst hv; exact Var3.c1 hg2
    | 2, hv => simp at hv; subst hv; exact Var3.c2 hg2
  have hl := h.len
  refine (concatH_any _ _ _ _ _ s (by simp; omega)).mono ?_
  rintro e w' ⟨v', rfl, ho, hb⟩
  refine ⟨v', rfl, ?_, bel_call hb0 hb⟩
  have := ho.lows (base' := W.heap.size) (lo' := W.heap.size) hb0.size hb0.size
  simpa using this

set_option maxRecDepth 100000 in
set_option maxHeartbeats 8000000 in
theorem cHold_any (s : Array Value) (c : Chn) (id m : Int) (w : World) (r : lay_Channel.rep w (· < w.heap.size) c s.toList) (hi : (Lit.int .u64 id).wf = true) (hm : (Lit.int .u64 m).wf = true) :
    Calls Try.prog 45 #[.agg s, .int .u64 id, .int .u64 m] w fun e w' => ∃ v, e = .returned (.tuple #[v, .int .i64 (hoE c id m)]) ∧ OwnC w' w.heap.size v (hoC c id m) ∧ Below w.heap.size w w' := by
  obtain ⟨A, n, k, rfl, hw, hs⟩ := agg_Channel r
  clear r
  have HL := hid hs.len
  have hcap := hs.cap
  unfold maxLen at hcap
  have hb0 : Below w.heap.size w ((w.alloc (Obj.cells #[.int .u64 c.Id, .int .u64 c.Local, .int .u64 c.Remote, .int .u64 c.Reserve, .int .u64 c.Most, .slice A n k, .bool c.Open] 28)).alloc (Obj.cells #[.int .u64 0, .int .u64 0, .int .u64 0, .int .u64 0, .int .u64 0, .slice none 0 0, .bool false] 28)) := bel_alloc (bel_alloc (Below.refl _ _) _) _
  have BC : BoxC ((w.alloc (Obj.cells #[.int .u64 c.Id, .int .u64 c.Local, .int .u64 c.Remote, .int .u64 c.Reserve, .int .u64 c.Most, .slice A n k, .bool c.Open] 28)).alloc (Obj.cells #[.int .u64 0, .int .u64 0, .int .u64 0, .int .u64 0, .int .u64 0, .slice none 0 0, .bool false] 28)) w.heap.size c A n k := heap_alloc2_old _ _ _
  have BR : BoxC ((w.alloc (Obj.cells #[.int .u64 c.Id, .int .u64 c.Local, .int .u64 c.Remote, .int .u64 c.Reserve, .int .u64 c.Most, .slice A n k, .bool c.Open] 28)).alloc (Obj.cells #[.int .u64 0, .int .u64 0, .int .u64 0, .int .u64 0, .int .u64 0, .slice none 0 0, .bool false] 28)) (w.heap.size + 1) zeroCh none 0 0 := alloc2_new _ _ _
  have HZ := hid (show ((w.alloc (Obj.cells #[.int .u64 c.Id, .int .u64 c.Local, .int .u64 c.Remote, .int .u64 c.Reserve, .int .u64 c.Most, .slice A n k, .bool c.Open] 28)).alloc (Obj.cells #[.int .u64 0, .int .u64 0, .int .u64 0, .int .u64 0, .int .u64 0, .slice none 0 0, .bool false] 28)).heap.size = w.heap.size + 2 from by simp)
  have S0 := Sl.call hs hb0
  go_enter Try.func45, Try.ntmps45
  go_upto_region 1 with (fail)
  generalize ((w.alloc (Obj.cells #[.int .u64 c.Id, .int .u64 c.Local, .int .u64 c.Remote, .int .u64 c.Reserve, .int .u64 c.Most, .slice A n k, .bool c.Open] 28)).alloc (Obj.cells #[.int .u64 0, .int .u64 0, .int .u64 0, .int .u64 0, .int .u64 0, .slice none 0 0, .bool false] 28)) = W0 at *
  have bm := bounds_u64 hm
  obtain ⟨p0, p1, p2, p3, p4, p5, p6⟩ := BC.all
  go_wp2_with fail
  refine (cHeld_any _ c _ (chan_in hw S0 (Below.refl _ _))).mono ?_
  rintro e w1 ⟨rfl, hb1⟩
  replace BC := BC.call hb1
  replace BR := BR.call hb1
  have HB := bel_call hb0 hb1
  have HX := hb1
  clear p0 p1 p2 p3 p4 p5 p6 hb1
  rcases ch_is (c := c) with ⟨ok, hE⟩ | ⟨ok, hE⟩
  rotate_left
  · rw [hE]
    have HE := hid (show hoE c id m = 1 ∧ hoC c id m = zeroCh from by
      have e : hoE c id m = 1 := if_neg fun h => ok h.1
      exact ⟨e, ho_no (by rw [e]; decide)⟩)
    clear hE ok
    have B9 := hid (BR.set zeroCh none 0 0)
    have HB9 := hid (Below.setBox HB (g := w.heap.size + 1) (Nat.le_succ _) zeroCh none 0 0)
    obtain ⟨z0, z1, z2, z3, z4, z5, z6⟩ := BR.all
    have f0 := BR.f 0
    have f1 := BR.f 1
    have f2 := BR.f 2
    have f3 := BR.f 3
    have f4 := BR.f 4
    have f5 := BR.f 5
    have f6 := BR.f 6
    go_wp2
    refine bodyPost_ret_by (results_ct rfl _ _ (w.heap.size + 1) 0 rfl [.int .u64 0, .int .u64 0, .int .u64 0, .int .u64 0, .int .u64 0, .slice none 0 0, .bool false] _ (range7 B9.out) Try.underlying28 rfl (by kernel_rfl)) rfl ?_
    exact ⟨_, by rw [HE.out.1]; rfl, by rw [HE.out.2]; exact ⟨_, rfl, OwnL.nil _ _ _ _ _⟩, HB9.out⟩
  rw [hE, show heV c = heldN c from if_pos ok]
  clear hE
  by_cases g0 : m = 0
  · have d0 : (m == 0) = true := by simpa using g0
    have HE := hid (show hoE c id m = 1 ∧ hoC c id m = zeroCh from by
      have e : hoE c id m = 1 := if_neg fun h => h.2.1 g0
      exact ⟨e, ho_no (by rw [e]; decide)⟩)
    clear g0 ok
    have B9 := hid (BR.set zeroCh none 0 0)
    have HB9 := hid (Below.setBox HB (g := w.heap.size + 1) (Nat.le_succ _) zeroCh none 0 0)
    obtain ⟨z0, z1, z2, z3, z4, z5, z6⟩ := BR.all
    have f0 := BR.f 0
    have f1 := BR.f 1
    have f2 := BR.f 2
    have f3 := BR.f 3
    have f4 := BR.f 4
    have f5 := BR.f 5
    have f6 := BR.f 6
    go_wp2
    refine bodyPost_ret_by (results_ct rfl _ _ (w.heap.size + 1) 0 rfl [.int .u64 0, .int .u64 0, .int .u64 0, .int .u64 0, .int .u64 0, .slice none 0 0, .bool false] _ (range7 B9.out) Try.underlying28 rfl (by kernel_rfl)) rfl ?_
    exact ⟨_, by rw [HE.out.1]; rfl, by rw [HE.out.2]; exact ⟨_, rfl, OwnL.nil _ _ _ _ _⟩, HB9.out⟩
  have d0 : (m == 0) = false := by simpa using g0
  have HC1 := hid (fun (W : World) => mCheck1_any m W hm)
  rw [chkM_one] at HC1
  go_wp2_with fail
  with_reducible refine (HC1.out _).mono ?_
  rintro e w2 ⟨rfl, hb2⟩
  replace BC := BC.call hb2
  replace BR := BR.call hb2
  replace HB := bel_call HB hb2
  replace HX := bel_call HX hb2
  clear hb2
  by_cases g1 : m ≤ mMax
  rotate_left
  · rw [if_neg g1]
    have HE := hid (show hoE c id m = 1 ∧ hoC c id m = zeroCh from by
      have e : hoE c id m = 1 := if_neg fun h => g1 h.2.2
      exact ⟨e, ho_no (by rw [e]; decide)⟩)
    clear g1
    have B9 := hid (BR.set zeroCh none 0 0)
    have HB9 := hid (Below.setBox HB (g := w.heap.size + 1) (Nat.le_succ _) zeroCh none 0 0)
    obtain ⟨z0, z1, z2, z3, z4, z5, z6⟩ := BR.all
    have f0 := BR.f 0
    have f1 := BR.f 1
    have f2 := BR.f 2
    have f3 := BR.f 3
    have f4 := BR.f 4
    have f5 := BR.f 5
    have f6 := BR.f 6
    go_wp2
    refine bodyPost_ret_by (results_ct rfl _ _ (w.heap.size + 1) 0 rfl [.int .u64 0, .int .u64 0, .int .u64 0, .int .u64 0, .int .u64 0, .slice none 0 0, .bool false] _ (range7 B9.out) Try.underlying28 rfl (by kernel_rfl)) rfl ?_
    exact ⟨_, by rw [HE.out.1]; rfl, by rw [HE.out.2]; exact ⟨_, rfl, OwnL.nil _ _ _ _ _⟩, HB9.out⟩
  rw [if_pos g1]
  have hn64 : n ≤ 64 := by rw [← HL.out]; exact ok.2.2.1
  have hup : UpF Hld.Id c.Holds := ok.2.2.2.2.2.1
  obtain ⟨p0, p1, p2, p3, p4, p5, p6⟩ := BC.all
  go_upto_region 4 with (fail)
  go_wp2_with fail
  with_reducible refine (placeH_any A n k c.Holds id _ (Sl.call S0 HX) hn64 hup).mono ?_
  rintro e w3 ⟨j, rfl, hj, hb3⟩
  replace BC := BC.call hb3
  replace BR := BR.call hb3
  replace HB := bel_call HB hb3
  replace HX := bel_call HX hb3
  clear p0 p1 p2 p3 p4 p5 p6 hb3
  have hjn : j ≤ n := by rw [← HL.out]; exact hj.1
  have HJ := hid hj
  clear hj
  obtain ⟨p0, p1, p2, p3, p4, p5, p6⟩ := BC.all
  obtain ⟨o, ho⟩ : ∃ z, c.Open = z := ⟨_, rfl⟩
  rw [ho] at p6
  have HO := hid ho
  clear ho
  cases o
  · skip
    have HE := hid (show hoE c id m = 14 ∧ hoC c id m = zeroCh from by
      have e : hoE c id m = 14 := by unfold hoE; rw [if_pos ⟨ok, g0, g1⟩, if_pos HO.out]
      exact ⟨e, ho_no (by rw [e]; decide)⟩)
    clear g1
    have B9 := hid (BR.set zeroCh none 0 0)
    have HB9 := hid (Below.setBox HB (g := w.heap.size + 1) (Nat.le_succ _) zeroCh none 0 0)
    obtain ⟨z0, z1, z2, z3, z4, z5, z6⟩ := BR.all
    have f0 := BR.f 0
    have f1 := BR.f 1
    have f2 := BR.f 2
    have f3 := BR.f 3
    have f4 := BR.f 4
    have f5 := BR.f 5
    have f6 := BR.f 6
    go_wp2
    refine bodyPost_ret_by (results_ct rfl _ _ (w.heap.size + 1) 0 rfl [.int .u64 0, .int .u64 0, .int .u64 0, .int .u64 0, .int .u64 0, .slice none 0 0, .bool false] _ (range7 B9.out) Try.underlying28 rfl (by kernel_rfl)) rfl ?_
    exact ⟨_, by rw [HE.out.1]; rfl, by rw [HE.out.2]; exact ⟨_, rfl, OwnL.nil _ _ _ _ _⟩, HB9.out⟩
  have hno : ¬ c.Open = false := by rw [HO.out]; decide
  obtain ⟨hit, hhit⟩ : ∃ z, hitF Hld.Id c.Holds id j = z := ⟨_, rfl⟩
  rw [hhit]
  cases hit
  rotate_left
  · have hF := (HJ.out.find hhit).2.2
    have HE := hid (show hoE c id m = 6 ∧ hoC c id m = zeroCh from by
      have e : hoE c id m = 6 := by
        unfold hoE
        rw [if_pos ⟨ok, g0, g1⟩, if_neg hno, if_pos (by unfold holdF; rw [hF]; rfl)]
      exact ⟨e, ho_no (by rw [e]; decide)⟩)
    clear g1 hF ok hno hhit
    have B9 := hid (BR.set zeroCh none 0 0)
    have HB9 := hid (Below.setBox HB (g := w.heap.size + 1) (Nat.le_succ _) zeroCh none 0 0)
    obtain ⟨z0, z1, z2, z3, z4, z5, z6⟩ := BR.all
    have f0 := BR.f 0
    have f1 := BR.f 1
    have f2 := BR.f 2
    have f3 := BR.f 3
    have f4 := BR.f 4
    have f5 := BR.f 5
    have f6 := BR.f 6
    go_wp2
    refine bodyPost_ret_by (results_ct rfl _ _ (w.heap.size + 1) 0 rfl [.int .u64 0, .int .u64 0, .int .u64 0, .int .u64 0, .int .u64 0, .slice none 0 0, .bool false] _ (range7 B9.out) Try.underlying28 rfl (by kernel_rfl)) rfl ?_
    exact ⟨_, by rw [HE.out.1]; rfl, by rw [HE.out.2]; exact ⟨_, rfl, OwnL.nil _ _ _ _ _⟩, HB9.out⟩
  have hF : holdF c.Holds id = none := HJ.out.none hup hhit
  have HW := hid (show withH c.Holds ⟨id, m⟩ = c.Holds.take j ++ [⟨id, m⟩] ++ c.Holds.drop j from HJ.out.with_new hup hhit ⟨id, m⟩)
  have hns : ¬ (holdF c.Holds id).isSome = true := by rw [hF]; decide
  clear hhit
  by_cases g2 : n = 64
  · have d2 : ((n : Int) == 64) = true := by simp; omega
    have HE := hid (show hoE c id m = 7 ∧ hoC c id m = zeroCh from by
      have e : hoE c id m = 7 := by unfold hoE; rw [if_pos ⟨ok, g0, g1⟩, if_neg hno, if_neg hns, if_pos (by rw [HL.out]; exact g2)]
      exact ⟨e, ho_no (by rw [e]; decide)⟩)
    have HG2 := hid g2
    clear g1 g2 hF ok hno hns
    have B9 := hid (BR.set zeroCh none 0 0)
    have HB9 := hid (Below.setBox HB (g := w.heap.size + 1) (Nat.le_succ _) zeroCh none 0 0)
    obtain ⟨z0, z1, z2, z3, z4, z5, z6⟩ := BR.all
    have f0 := BR.f 0
    have f1 := BR.f 1
    have f2 := BR.f 2
    have f3 := BR.f 3
    have f4 := BR.f 4
    have f5 := BR.f 5
    have f6 := BR.f 6
    go_wp2
    refine bodyPost_ret_by (results_ct rfl _ _ (w.heap.size + 1) 0 rfl [.int .u64 0, .int .u64 0, .int .u64 0, .int .u64 0, .int .u64 0, .slice none 0 0, .bool false] _ (range7 B9.out) Try.underlying28 rfl (by kernel_rfl)) rfl ?_
    exact ⟨_, by rw [HE.out.1]; rfl, by rw [HE.out.2]; exact ⟨_, rfl, OwnL.nil _ _ _ _ _⟩, HB9.out⟩
  have d2 : ((n : Int) == 64) = false := by simp; omega
  have g2p : ¬ c.Holds.length = 64 := by rw [HL.out]; exact g2
  have c1 := bounds_u64 hw.loc
  have c2 := bounds_u64 hw.res
  have c3 := bounds_u64 hw.most
  have hh0 := held_nonneg (c := c) (sl_hlds hs)
  have hh1 : heldN c ≤ c.Most := ok.2.2.2.2.2.2.2.1
  by_cases g3 : c.Local < c.Reserve
  · have d3 : decide (c.Local < c.Reserve) = true := decide_eq_true g3
    have HE := hid (show hoE c id m = 9 ∧ hoC c id m = zeroCh from by
      have e : hoE c id m = 9 := by unfold hoE; rw [if_pos ⟨ok, g0, g1⟩, if_neg hno, if_neg hns, if_neg g2p, if_pos (.inl g3)]
      exact ⟨e, ho_no (by rw [e]; decide)⟩)
    clear g1 g2 g3 hF ok hno hns g2p
    have B9 := hid (BR.set zeroCh none 0 0)
    have HB9 := hid (Below.setBox HB (g := w.heap.size + 1) (Nat.le_succ _) zeroCh none 0 0)
    obtain ⟨z0, z1, z2, z3, z4, z5, z6⟩ := BR.all
    have f0 := BR.f 0
    have f1 := BR.f 1
    have f2 := BR.f 2
    have f3 := BR.f 3
    have f4 := BR.f 4
    have f5 := BR.f 5
    have f6 := BR.f 6
    go_wp2
    refine bodyPost_ret_by (results_ct rfl _ _ (w.heap.size + 1) 0 rfl [.int .u64 0, .int .u64 0, .int .u64 0, .int .u64 0, .int .u64 0, .slice none 0 0, .bool false] _ (range7 B9.out) Try.underlying28 rfl (by kernel_rfl)) rfl ?_
    exact ⟨_, by rw [HE.out.1]; rfl, by rw [HE.out.2]; exact ⟨_, rfl, OwnL.nil _ _ _ _ _⟩, HB9.out⟩
  have d3 : decide (c.Local < c.Reserve) = false := decide_eq_false g3
  have w1e : IntKind.u64.wrap (c.Local - c.Reserve) = c.Local - c.Reserve := IntWalk.u64_in _ (by omega)
  by_cases g4 : c.Local - c.Reserve < m
  · have d4 : decide (c.Local - c.Reserve < m) = true := decide_eq_true g4
    have HE := hid (show hoE c id m = 9 ∧ hoC c id m = zeroCh from by
      have e : hoE c id m = 9 := by unfold hoE; rw [if_pos ⟨ok, g0, g1⟩, if_neg hno, if_neg hns, if_neg g2p, if_pos (.inr g4)]
      exact ⟨e, ho_no (by rw [e]; decide)⟩)
    clear g1 g2 g3 g4 hF ok hno hns g2p
    have B9 := hid (BR.set zeroCh none 0 0)
    have HB9 := hid (Below.setBox HB (g := w.heap.size + 1) (Nat.le_succ _) zeroCh none 0 0)
    obtain ⟨z0, z1, z2, z3, z4, z5, z6⟩ := BR.all
    have f0 := BR.f 0
    have f1 := BR.f 1
    have f2 := BR.f 2
    have f3 := BR.f 3
    have f4 := BR.f 4
    have f5 := BR.f 5
    have f6 := BR.f 6
    go_wp2
    refine bodyPost_ret_by (results_ct rfl _ _ (w.heap.size + 1) 0 rfl [.int .u64 0, .int .u64 0, .int .u64 0, .int .u64 0, .int .u64 0, .slice none 0 0, .bool false] _ (range7 B9.out) Try.underlying28 rfl (by kernel_rfl)) rfl ?_
    exact ⟨_, by rw [HE.out.1]; rfl, by rw [HE.out.2]; exact ⟨_, rfl, OwnL.nil _ _ _ _ _⟩, HB9.out⟩
  have d4 : decide (c.Local - c.Reserve < m) = false := decide_eq_false g4
  have w2e : IntKind.u64.wrap (c.Most - heldN c) = c.Most - heldN c := IntWalk.u64_in _ (by omega)
  by_cases g5 : c.Most - heldN c < m
  · have d5 : decide (c.Most - heldN c < m) = true := decide_eq_true g5
    have HE := hid (show hoE c id m = 8 ∧ hoC c id m = zeroCh from by
      have e : hoE c id m = 8 := by unfold hoE; rw [if_pos ⟨ok, g0, g1⟩, if_neg hno, if_neg hns, if_neg g2p, if_neg (fun q => q.elim g3 g4), if_pos g5]
      exact ⟨e, ho_no (by rw [e]; decide)⟩)
    clear g1 g2 g3 g4 g5 hF ok hno hns g2p
    have B9 := hid (BR.set zeroCh none 0 0)
    have HB9 := hid (Below.setBox HB (g := w.heap.size + 1) (Nat.le_succ _) zeroCh none 0 0)
    obtain ⟨z0, z1, z2, z3, z4, z5, z6⟩ := BR.all
    have f0 := BR.f 0
    have f1 := BR.f 1
    have f2 := BR.f 2
    have f3 := BR.f 3
    have f4 := BR.f 4
    have f5 := BR.f 5
    have f6 := BR.f 6
    go_wp2
    refine bodyPost_ret_by (results_ct rfl _ _ (w.heap.size + 1) 0 rfl [.int .u64 0, .int .u64 0, .int .u64 0, .int .u64 0, .int .u64 0, .slice none 0 0, .bool false] _ (range7 B9.out) Try.underlying28 rfl (by kernel_rfl)) rfl ?_
    exact ⟨_, by rw [HE.out.1]; rfl, by rw [HE.out.2]; exact ⟨_, rfl, OwnL.nil _ _ _ _ _⟩, HB9.out⟩
  have d5 : decide (c.Most - heldN c < m) = false := decide_eq_false g5
  have e0 : hoE c id m = 0 := by unfold hoE; rw [if_pos ⟨ok, g0, g1⟩, if_neg hno, if_neg hns, if_neg g2p, if_neg (fun q => q.elim g3 g4), if_neg g5]
  have QT := hid (And.intro e0 (ho_is e0).2.2.2.2.2.2.2.2.2)
  have w3e : IntKind.u64.wrap (c.Local - m) = c.Local - m := IntWalk.u64_in _ (by omega)
  clear e0 g1 g2 g3 g4 g5 hF ok hno hns g2p c1 c2 c3 hh0 hh1
  have f1 := BC.f 1
  go_upto_region 16 with (fail)
  clear p0 p1 p2 p3 p4 p5 p6 f1
  have BC5 := BC.setLoc (c.Local - m)
  have BR5 := BR.setOther (b := w.heap.size) (by omega) 1 (.int .u64 (c.Local - m))
  have HB5 := HB.setCell (p := ⟨w.heap.size, 1, none⟩) (Nat.le_refl _) (.int .u64 (c.Local - m))
  have hz5 : (w3.setCell ⟨w.heap.size, 1, none⟩ (.int .u64 (c.Local - m))).heap.size = w3.heap.size := by simp
  have hs5 : Sl lay_Hold (w3.setCell ⟨w.heap.size, 1, none⟩ (.int .u64 (c.Local - m))) (· < (w3.setCell ⟨w.heap.size, 1, none⟩ (.int .u64 (c.Local - m))).heap.size) A n k c.Holds := (hs.keep fun p hp => HB5.cell hp).wide fun b hb => Nat.lt_of_lt_of_le hb HB5.size
  have hX5 : W0.heap.size ≤ w3.heap.size := HX.size
  clear BC BR HB HX
  generalize w3.setCell ⟨w.heap.size, 1, none⟩ (.int .u64 (c.Local - m)) = W5 at *
  rw [← hz5] at hX5
  have hlt : w.heap.size < W5.heap.size := by have := HZ.out; omega
  have Y5 := hid BC5.all.2.2.2.2.2.1
  have hsu := run_uptoL (P := Try.prog) 26 83 .i64 Try.underlying26 Try.elemHld Try.infoHld A n k j (by omega)
  have hsf := run_fromL (P := Try.prog) 26 83 .i64 Try.underlying26 Try.elemHld Try.infoHld A n k j (by omega)
  have HCC := hid (addCatH_any A n k j W5.heap.size (W5.heap.size + 1) c.Holds id m (W5.drewN 1) rfl rfl (hs5.keep fun _ _ => rfl) hjn hn64 hi hm)
  clear hz5
  refine wp_region_phase 15 (fun w' : World => w'.cell? ⟨w.heap.size, 5, none⟩ = some (.slice A n k)) (by kernel_rfl) (by kernel_rfl) ?_
  simp only [List.take_succ_cons, List.take_zero, List.drop_succ_cons, List.drop_zero]
  have hS0 : (fun w' : World => w'.cell? ⟨w.heap.size, 5, none⟩ = some (.slice A n k)) (W5.drewN 1) := Y5.out
  rw [show Array.replicate 15 false = #[false, false, false, false, false, false, false, false, false, false, false, false, false, false, false] from rfl]
  refine wpAnyH_at 0 (some 80) (.pointer (some ⟨w.heap.size, 5, none⟩)) rfl rfl (by kernel_rfl) (by kernel_rfl) (by kernel_rfl) (fun _ _ _ h => h) rfl (fun w' hS => by go_simp) hS0 ?_
  simp only [Act.put, List.setIfInBounds_toArray, List.set_cons_zero, List.set_cons_succ]
  refine wpAnyH_at 1 (some 81) (.slice A n k) rfl rfl (by kernel_rfl) (by kernel_rfl) (by kernel_rfl) (fun _ _ _ h => h) rfl (fun w' hS => by have s0 : w'.cell? ⟨w.heap.size, 5, none⟩ = some (.slice A n k) := hS; go_simp) hS0 ?_
  simp only [Act.put, List.setIfInBounds_toArray, List.set_cons_zero, List.set_cons_succ]
  refine wpAnyH_at 2 (some 82) (.int .i64 j) rfl rfl (by kernel_rfl) (by kernel_rfl) (by kernel_rfl) (fun _ _ _ h => h) rfl (fun w' hS => by go_simp) hS0 ?_
  simp only [Act.put, List.setIfInBounds_toArray, List.set_cons_zero, List.set_cons_succ]
  refine wpAnyH_at 3 (some 83) (.slice A j k) rfl rfl (by kernel_rfl) (by kernel_rfl) (by kernel_rfl) (fun _ _ _ h => h) rfl (fun w' hS => by go_simp) hS0 ?_
  simp only [Act.put, List.setIfInBounds_toArray, List.set_cons_zero, List.set_cons_succ]
  refine wpAnyH_at 4 (some 84) (.int .u64 id) rfl rfl (by kernel_rfl) (by kernel_rfl) (by kernel_rfl) (fun _ _ _ h => h) rfl (fun w' hS => by go_simp) hS0 ?_
  simp only [Act.put, List.setIfInBounds_toArray, List.set_cons_zero, List.set_cons_succ]
  refine wpAnyH_at 5 (some 85) (.int .u64 m) rfl rfl (by kernel_rfl) (by kernel_rfl) (by kernel_rfl) (fun _ _ _ h => h) rfl (fun w' hS => by go_simp) hS0 ?_
  simp only [Act.put, List.setIfInBounds_toArray, List.set_cons_zero, List.set_cons_succ]
  refine wpAnyH_at 6 (some 86) (.agg #[.int .u64 id, .int .u64 m]) rfl rfl (by kernel_rfl) (by kernel_rfl) (by kernel_rfl) (fun _ _ _ h => h) rfl (fun w' hS => by go_simp) hS0 ?_
  simp only [Act.put, List.setIfInBounds_toArray, List.set_cons_zero, List.set_cons_succ]
  refine wpAnyH_at 8 (some 88) (.pointer (some ⟨w.heap.size, 5, none⟩)) rfl rfl (by kernel_rfl) (by kernel_rfl) (by kernel_rfl) (fun _ _ _ h => h) rfl (fun w' hS => by go_simp) hS0 ?_
  simp only [Act.put, List.setIfInBounds_toArray, List.set_cons_zero, List.set_cons_succ]
  refine wpAnyH_at 9 (some 89) (.slice A n k) rfl rfl (by kernel_rfl) (by kernel_rfl) (by kernel_rfl) (fun _ _ _ h => h) rfl (fun w' hS => by have s0 : w'.cell? ⟨w.heap.size, 5, none⟩ = some (.slice A n k) := hS; go_simp) hS0 ?_
  simp only [Act.put, List.setIfInBounds_toArray, List.set_cons_zero, List.set_cons_succ]
  refine wpAnyH_at 10 (some 90) (.int .i64 j) rfl rfl (by kernel_rfl) (by kernel_rfl) (by kernel_rfl) (fun _ _ _ h => h) rfl (fun w' hS => by go_simp) hS0 ?_
  simp only [Act.put, List.setIfInBounds_toArray, List.set_cons_zero, List.set_cons_succ]
  refine wpAnyH_at 11 (some 91) (.slice (cutS lay_Hold.size A k j) (n - j) (k - j)) rfl rfl (by kernel_rfl) (by kernel_rfl) (by kernel_rfl) (fun _ _ _ h => h) rfl (fun w' hS => by go_simp) hS0 ?_
  simp only [Act.put, List.setIfInBounds_toArray, List.set_cons_zero, List.set_cons_succ]
  refine wpAnyH_one 7 _ (by kernel_rfl) rfl rfl ?_
  have Z1 := hid (show ((W5.drewN 1).alloc (Obj.cells #[.int .u64 id, .int .u64 m] 83)).cell? ⟨w.heap.size, 5, none⟩ = some (.slice A n k) from (World.cell?_alloc_past _ _ _ hlt).trans Y5.out)
  go_simp
  refine ⟨Z1.out, ?_⟩
  try simp only [Act.put, List.setIfInBounds_toArray, List.set_cons_zero, List.set_cons_succ]
  refine wpAnyH_one 12 _ (by kernel_rfl) rfl rfl ?_
  have Z2 := hid (show (((W5.drewN 1).alloc (Obj.cells #[.int .u64 id, .int .u64 m] 83)).alloc (Obj.cells #[.slice A j k, .slice (some ⟨W5.heap.size, 0, none⟩) 1 1, .slice (cutS lay_Hold.size A k j) (n - j) (k - j)] 26)).cell? ⟨w.heap.size, 5, none⟩ = some (.slice A n k) from (World.cell?_alloc_past _ _ _ (by simp; omega)).trans Z1.out)
  go_simp
  first | refine ⟨Z2.out, ?_⟩ | refine ⟨Z1.out, ?_⟩
  try simp only [Act.put, List.setIfInBounds_toArray, List.set_cons_zero, List.set_cons_succ]
  refine wpAnyH_one 13 _ (by kernel_rfl) rfl rfl ?_
  go_simp
  refine HCC.out.mono ?_
  rintro e w6 ⟨v6, rfl, ho6, hb6⟩
  have Z3 := hid ((hb6.cell (p := ⟨w.heap.size, 5, none⟩) hlt).trans Y5.out)
  refine ⟨Z3.out, ?_⟩
  try simp only [Act.put, List.setIfInBounds_toArray, List.set_cons_zero, List.set_cons_succ]
  refine wpAnyH_at 14 (some 94) (.pointer (some ⟨w.heap.size, 5, none⟩)) rfl rfl (by kernel_rfl) (by kernel_rfl) (by kernel_rfl) (fun _ _ _ h => h) rfl (fun w' hS => by go_simp) Z3.out ?_
  simp only [Act.put, List.setIfInBounds_toArray, List.set_cons_zero, List.set_cons_succ]
  refine wpAnyH_done (by kernel_rfl) ?_ _
  change wpList _ _ _ _ _ _
  obtain ⟨A7, n7, c7, rfl, hs7⟩ := ho6.read
  obtain ⟨d, hd⟩ : ∃ z : Chn, z = ⟨c.Id, c.Local - m, c.Remote, c.Reserve, c.Most, withH c.Holds ⟨id, m⟩, c.Open⟩ := ⟨_, rfl⟩
  have HDT := hid (show hoC c id m = d from by rw [hd]; exact QT.out.2)
  have hb6' : Below W5.heap.size W5 w6 := (Below.refl W5.heap.size W5).drew.trans hb6
  have BC6 := BC5.call hb6'
  have BR6 := BR5.call hb6'
  have HB6 := bel_call HB5 hb6'
  have y5 := BC6.all.2.2.2.2.2.1
  have g5 := BC6.f 5
  have HO6 : OwnL lay_Hold w6 W0.heap.size (some W0.heap.size) 83 (.slice A7 n7 c7) d.Holds := by rw [hd]; show OwnL _ _ _ _ _ _ (withH c.Holds ⟨id, m⟩); rw [HW.out]; exact ho6.lows hX5 hX5
  have BC8 : BoxC (w6.setCell ⟨w.heap.size, 5, none⟩ (.slice A7 n7 c7)) w.heap.size d A7 n7 c7 := by rw [hd]; exact BC6.setHol A7 n7 c7
  have BR8 := BR6.setOther (b := w.heap.size) (by omega) 5 (.slice A7 n7 c7)
  have HB8 := HB6.setCell (p := ⟨w.heap.size, 5, none⟩) (Nat.le_refl _) (.slice A7 n7 c7)
  have HO8 := HO6.setLow (b := w.heap.size) (by rw [HZ.out]; omega) (by rw [HZ.out]; omega) 5 (.slice A7 n7 c7)
  clear BC5 BR5 HB5 hs5 HCC ho6 hb6 hb6' hs7 hsu hsf hd HB6 BR6 BC6 HO6 hS0
  go_upto_region 17 with (fail)
  clear y5 g5
  generalize w6.setCell ⟨w.heap.size, 5, none⟩ (.slice A7 n7 c7) = W8 at *
  have B9 := hid (BR8.set d A7 n7 c7)
  have HB9 := hid (Below.setBox HB8 (g := w.heap.size + 1) (Nat.le_succ _) d A7 n7 c7)
  have HO9 := hid ((OwnL.setBox HO8 (g := w.heap.size + 1) (by rw [HZ.out]; omega) d A7 n7 c7).lows (base' := w.heap.size) (lo' := w.heap.size) (by rw [HZ.out]; omega) (by rw [HZ.out]; omega))
  obtain ⟨p0, p1, p2, p3, p4, p5, p6⟩ := BC8.all
  obtain ⟨z0, z1, z2, z3, z4, z5, z6⟩ := BR8.all
  have f0 := BR8.f 0
  have f1 := BR8.f 1
  have f2 := BR8.f 2
  have f3 := BR8.f 3
  have f4 := BR8.f 4
  have f5 := BR8.f 5
  have f6 := BR8.f 6
  clear BC8 BR8 HB8 HO8
  go_wp2
  refine bodyPost_ret_by (results_ct rfl _ _ (w.heap.size + 1) 0 rfl [.int .u64 d.Id, .int .u64 d.Local, .int .u64 d.Remote, .int .u64 d.Reserve, .int .u64 d.Most, .slice A7 n7 c7, .bool d.Open] _ (range7 B9.out) Try.underlying28 rfl (by kernel_rfl)) rfl ?_
  exact ⟨_, by rw [QT.out.1]; rfl, by rw [HDT.out]; exact ⟨_, rfl, HO9.out⟩, HB9.out⟩

end Go.Proofs.Ytpkfejfdbjoehaa
namespace Go.Proofs.Ytpkfejfdbjoehaa
open Go.RowKit Go.WalkArith

end Go.Proofs.Ytpkfejfdbjoehaa
namespace Go.Proofs.Ytpkfejfdbjoehaa
open Go.RowKit Go.WalkArith

theorem two_rows {w : World} {g : Nat} {x y : Value} {t : TypeId} (h : w.heap[g]? = some (.cells #[x, y] t)) : w.cell? ⟨g, 0, none⟩ = some x ∧ w.cell? ⟨g, 1, none⟩ = some y := by
  constructor <;> simp [World.cell?, h]
theorem cutCatH_any (A : Option Addr) (n k j q g : Nat) (l : List Hld) (W : World) (hg : g = W.heap.size) (h : Sl lay_Hold W (· < W.heap.size) A n k l) (hj : j < n) (hq : q = j + 1) (hn : n ≤ 64) :
    Calls Try.prog 62 #[.slice (some ⟨g, 0, none⟩) 2 2] (W.alloc (Obj.cells #[.slice A j k, .slice (cutS lay_Hold.size A k q) (n - q) (k - q)] 26)) fun e w' => ∃ v', e = .returned v' ∧ OwnL lay_Hold w' W.heap.size (some W.heap.size) 83 v' (l.take j ++ l.drop q) ∧ Below W.heap.size W w' := by
  subst hg
  have hb0 : Below W.heap.size W (W.alloc (Obj.cells #[.slice A j k, .slice (cutS lay_Hold.size A k q) (n - q) (k - q)] 26)) := bel_alloc (Below.refl _ _) _
  have hz : (W.alloc (Obj.cells #[.slice A j k, .slice (cutS lay_Hold.size A k q) (n - q) (k - q)] 26)).heap.size = W.heap.size + 1 := by simp
  obtain ⟨c0, c1⟩ := two_rows (heap_alloc_new W (Obj.cells #[.slice A j k, .slice (cutS lay_Hold.size A k q) (n - q) (k - q)] 26))
  have s1 := (Sl.call h hb0).upto (i := j) (by omega)
  have s3 := (Sl.call h hb0).cut (i := q) (by omega)
  have s : Sl (Lay.slice lay_Hold) (W.alloc (Obj.cells #[.slice A j k, .slice (cutS lay_Hold.size A k q) (n - q) (k - q)] 26)) (· < (W.alloc (Obj.cells #[.slice A j k, .slice (cutS lay_Hold.size A k q) (n - q) (k - q)] 26)).heap.size) (some ⟨W.heap.size, 0, none⟩) 2 2 [l.take j, l.drop q] := by
    refine ⟨rfl, Nat.le_refl _, by unfold maxLen; omega, by simp, fun _ => ⟨W.heap.size, 0, _, rfl, by rw [hz]; omega, ⟨[.slice A j k], [.slice (cutS lay_Hold.size A k q) (n - q) (k - q)], rfl, ⟨_, _, _, rfl, s1⟩, ⟨[_], [], rfl, ⟨_, _, _, rfl, s3⟩, rfl⟩⟩, fun i v hv => ?_⟩⟩
    match i, hv with
    | 0, hv => simp at hv; subst hv; exact c0
    | 1, hv => simp at hv; subst hv; exact c1
  have hl := h.len
  refine (concatH_any _ _ _ _ _ s (by simp; omega)).mono ?_
  rintro e w' ⟨v', rfl, ho, hb⟩
  refine ⟨v', rfl, ?_, bel_call hb0 hb⟩
  have := ho.lows (base' := W.heap.size) (lo' := W.heap.size) hb0.size hb0.size
  simpa using this
theorem less_at {l : List Hld} (hu : HUp l) {id : Int} {j : Nat} (hj : j < l.length) (he : l[j].Id = id) : lessH l id = l.take j ++ l.drop (j + 1) := by
  unfold lessH
  conv => lhs; rw [← List.take_append_drop j l, List.drop_eq_getElem_cons hj]
  rw [List.filter_append, List.filter_cons, if_neg (by simp [he]), List.filter_eq_self.2, List.filter_eq_self.2]
  · intro x hx
    obtain ⟨i, hi, rfl⟩ := List.getElem_of_mem hx
    rw [List.getElem_drop]
    rw [List.length_drop] at hi
    have := List.pairwise_iff_getElem.1 hu j (j + 1 + i) hj (by omega) (by omega)
    have h2 : l[j + 1 + i].Id ≠ id := by omega
    simpa using h2
  · intro x hx
    obtain ⟨i, hi, rfl⟩ := List.getElem_of_mem hx
    rw [List.getElem_take]
    rw [List.length_take] at hi
    have := List.pairwise_iff_getElem.1 hu i j (by omega) hj (by omega)
    have h2 : l[i].Id ≠ id := by omega
    simpa using h2

end Go.Proofs.Ytpkfejfdbjoehaa
