/-
  The contracts of the document's Same, find, and all, of layer 10.
  The contracts of the document's where, and Copy, of layer 10.
  The contract of the document's with of layer 10.
  The contract of the document's Check of layer 10.
  The contracts of the document's Get, Where and Ours of layer 10.
  The contracts of the document's Close, Push, Hold and End of layer 10.
  The contracts of the document's End and Open of layer 10.
-/
import Derived.Test.YtanlpcndbfmkiaaLedgerKeepsWalk
import Derived.Test.YtanlpcndbfmkiaaChannelRef6
import Derived.StillTailTactics
import Derived.Test.YtanlpcndbfmkiaaAnyH
import Derived.Deep.QuietTactic
import Derived.Deep.CutRange
import Derived.Test.YtanlpcndbfmkiaaBox
namespace Go.Proofs.Ytanlpcndbfmkiaa
open Go.RowKit Go.WalkArith

theorem take_sameC {l o : List Chn} {j : Nat} (hx : j < l.length) (hy : j < o.length) (h : l.take j = o.take j) (e : l[j] = o[j]) : l.take (j + 1) = o.take (j + 1) := by
  rw [List.take_succ_eq_append_getElem hx, List.take_succ_eq_append_getElem hy, h, e]

set_option maxRecDepth 100000 in
set_option maxHeartbeats 2000000 in
theorem refSame10_any (A1 A2 : Option Addr) (n1 c1 n2 c2 : Nat) (l o : List Chn) (w : World) (h1 : Sl lay_Channel w (· < w.heap.size) A1 n1 c1 l) (h2 : Sl lay_Channel w (· < w.heap.size) A2 n2 c2 o) :
    Calls Try.prog 22 #[.slice A1 n1 c1, .slice A2 n2 c2] w fun e w' => e = .returned (.bool (decide (l = o))) ∧ Below w.heap.size w w' := by
  have K1 := hid h1.len
  have K2 := hid h2.len
  have k1 := h1.cap
  have k2 := h2.cap
  unfold maxLen at k1 k2
  by_cases hl : n1 = n2
  rotate_left
  · have hne : ((n1 : Int) != (n2 : Int)) = true := by simp; omega
    have HN := hid (show decide (l = o) = false from decide_eq_false fun e => hl (by rw [← K1.out, ← K2.out, e]))
    go_enter Try.func22, Try.ntmps22
    go_wp2
    go_ret
    exact ⟨ret_bool HN.out.symm, Below.refl _ _⟩
  subst hl
  have hne : ((n1 : Int) != (n1 : Int)) = false := by simp
  go_enter Try.func22, Try.ntmps22
  go_wp2
  go_loopw [13] (fun i wr => ∃ j : Nat, j ≤ n1 ∧ i = .int .i64 j ∧ Hid (l.take j = o.take j) ∧ Below w.heap.size w wr) (fun i _ => n1 - (intOf i).toNat)
  case atStart => exact ⟨0, Nat.zero_le _, rfl, hid rfl, Below.refl _ _⟩
  case round =>
  obtain ⟨j, hj, rfl, HP, hbel⟩ := hrel
  by_cases hlt : j < n1
  · obtain ⟨b1, o1, A', n', c', hx1, rfl, -, t0, t1, t2, t3, t4, t5, t6, hw1, hs1⟩ := chn_at (Sl.call h1 hbel) hlt
    obtain ⟨b2, o2, A'', n'', c'', hx2, rfl, -, u0, u1, u2, u3, u4, u5, u6, hw2, hs2⟩ := chn_at (Sl.call h2 hbel) hlt
    have P1 := hid (fun (W : World) (h : Below wr.heap.size wr W) => chan_in hw1 hs1 h)
    have P2 := hid (fun (W : World) (h : Below wr.heap.size wr W) => chan_in hw2 hs2 h)
    clear hs1 hs2
    go_wp2_with fail
    go_still_tail 8, (by kernel_rfl)
    change wpList _ _ _ _ _ (wr.drewN 1)
    have hbd := bel_drewN (Below.refl wr.heap.size wr) 1
    have hbw := bel_call hbel hbd
    clear t0 t1 t2 t3 t4 t5 t6 u0 u1 u2 u3 u4 u5 u6 hbel
    generalize wr.drewN 1 = W at *
    by_cases he : l[j] = o[j]
    · have HN := hid (take_sameC hx1 hx2 HP.out he)
      have HD := hid (decide_eq_true he)
      clear he
      go_wp2_with (go_at_call 29; go_must (refine (refSame9_any _ _ l[j] o[j] _ (P1.out _ hbd) (P2.out _ hbd)).mono ?_; rw [HD.out]; rintro e w2 ⟨rfl, hb2⟩))
      go_roundw
      case rel => exact ⟨j + 1, by omega, by go_num, HN, bel_call hbw hb2⟩
      case measure => simp [intOf]; omega
    · have HN := hid (show decide (l = o) = false from decide_eq_false fun e => he (by simp only [e]))
      have HD := hid (decide_eq_false he)
      clear he
      go_wp2_with (go_at_call 29; go_must (refine (refSame9_any _ _ l[j] o[j] _ (P1.out _ hbd) (P2.out _ hbd)).mono ?_; rw [HD.out]; rintro e w2 ⟨rfl, hb2⟩))
      go_ret
      exact ⟨ret_bool HN.out.symm, bel_call hbw hb2⟩
  · have HN := hid (show decide (l = o) = true from by
      have := HP.out
      rw [List.take_of_length_le (by rw [K1.out]; omega), List.take_of_length_le (by rw [K2.out]; omega)] at this
      exact decide_eq_true this)
    go_wp2
    go_ret
    exact ⟨ret_bool HN.out.symm, hbel⟩

theorem chanF_first {l : List Chn} {id : Int} {j : Nat} (hj : j < l.length) (h : ∀ i (hi : i < l.length), i < j → l[i].Id ≠ id) (e : l[j].Id = id) : chanF l id = some l[j] := by
  unfold chanF
  rw [List.find?_eq_some_iff_getElem]
  refine ⟨by simpa using e, j, hj, rfl, fun i hi => ?_⟩
  have := h i (by omega) hi
  simpa using this
theorem chanF_never {l : List Chn} {id : Int} (h : ∀ i (hi : i < l.length), l[i].Id ≠ id) : chanF l id = none := by
  refine List.find?_eq_none.2 fun x hx => ?_
  obtain ⟨i, hi, rfl⟩ := List.getElem_of_mem hx
  simpa using h i hi
/-- Where a channel is. -/
def FindC (l : List Chn) (id i : Int) : Prop := (∃ (j : Nat) (hj : j < l.length), i = j ∧ chanF l id = some l[j]) ∨ (i = -1 ∧ chanF l id = none)

set_option maxRecDepth 100000 in
set_option maxHeartbeats 2000000 in
theorem refFind10_any (A : Option Addr) (n k : Nat) (l : List Chn) (id : Int) (w : World) (h : Sl lay_Channel w (· < w.heap.size) A n k l) :
    Calls Try.prog 44 #[.slice A n k, .int .u64 id] w fun e w' => ∃ i, e = .returned (.int .i64 i) ∧ FindC l id i ∧ Below w.heap.size w w' := by
  have HL := hid h.len
  have hcap := h.cap
  unfold maxLen at hcap
  go_enter Try.func44, Try.ntmps44
  go_wp2
  go_loopw [9] (fun i wr => ∃ j : Nat, j ≤ n ∧ i = .int .i64 j ∧ Hid (∀ i (hi : i < l.length), i < j → l[i].Id ≠ id) ∧ Below w.heap.size w wr) (fun i _ => n - (intOf i).toNat)
  case atStart => exact ⟨0, Nat.zero_le _, rfl, hid fun i hi h => absurd h (by omega), Below.refl _ _⟩
  case round =>
  obtain ⟨j, hj, rfl, HP, hbel⟩ := hrel
  by_cases hlt : j < n
  · obtain ⟨b1, o1, A', n', c', hx1, rfl, -, t0, t1, t2, t3, t4, t5, t6, -, -⟩ := chn_at (Sl.call h hbel) hlt
    have hba := bel_alloc hbel (Obj.cells #[.int .u64 l[j].Id, .int .u64 l[j].Local, .int .u64 l[j].Remote, .int .u64 l[j].Reserve, .int .u64 l[j].Most, .slice A' n' c', .bool l[j].Open] 26)
    by_cases he : l[j].Id = id
    · have de : (l[j].Id == id) = true := by simpa using he
      have HF := hid (show FindC l id (j : Int) from .inl ⟨j, hx1, rfl, chanF_first hx1 HP.out he⟩)
      clear he
      go_wp2
      go_ret
      exact ⟨_, rfl, HF.out, hba⟩
    · have de : (l[j].Id == id) = false := by simpa using he
      have HN := hid (show ∀ i (hi : i < l.length), i < j + 1 → l[i].Id ≠ id from fun i hi h => by
        by_cases hij : i < j
        · exact HP.out i hi hij
        · have e : i = j := by omega
          subst e; exact he)
      clear he
      go_wp2
      go_roundw
      case rel => exact ⟨j + 1, by omega, by go_num, HN, hba⟩
      case measure => simp [intOf]; omega
  · have HF := hid (show FindC l id (-1) from .inr ⟨rfl, chanF_never fun i hi => HP.out i hi (by rw [HL.out] at hi; omega)⟩)
    go_wp2
    go_ret
    exact ⟨_, rfl, HF.out, hbel⟩

theorem aa_le {c : Chn} : aaV c ≤ mMax := by
  unfold aaV
  split
  · rename_i h; exact h.2.2.2.2.2.2.2.2.2.2
  · decide
def allB (l : List Chn) : Prop := sumC l ≤ mMax
noncomputable instance (l : List Chn) : Decidable (allB l) := Classical.propDecidable _
noncomputable def allV (l : List Chn) : Int := if allB l then sumC l else 0

set_option maxRecDepth 100000 in
set_option maxHeartbeats 2000000 in
theorem refAll10_any (A : Option Addr) (n k : Nat) (l : List Chn) (w : World) (h : Sl lay_Channel w (· < w.heap.size) A n k l) :
    Calls Try.prog 46 #[.slice A n k] w fun e w' => e = .returned (.tuple #[.int .u64 (allV l), .bool (decide (allB l))]) ∧ Below w.heap.size w w' := by
  have HL := hid h.len
  have hcap := h.cap
  unfold maxLen at hcap
  have hwl := sl_chns h
  go_enter Try.func46, Try.ntmps46
  go_wp2
  go_loopw [4, 13] (fun sm i wr => ∃ j : Nat, j ≤ n ∧ i = .int .i64 j ∧ sm = .int .u64 (sumM ((l.take j).map aaV)) ∧ Hid (sumM ((l.take j).map aaV) ≤ mMax) ∧ Below w.heap.size w wr) (fun _ i _ => n - (intOf i).toNat)
  case atStart => exact ⟨0, Nat.zero_le _, rfl, rfl, hid (by simp [sumM, mMax]), Below.refl _ _⟩
  case round =>
  obtain ⟨j, hj, rfl, rfl, HM, hbel⟩ := hrel
  by_cases hlt : j < n
  · obtain ⟨b1, o1, A', n', c', hx1, rfl, hb1, t0, t1, t2, t3, t4, t5, t6, hw, hs⟩ := chn_at (Sl.call h hbel) hlt
    have hba := bel_alloc (Below.refl wr.heap.size wr) (Obj.cells #[.int .u64 l[j].Id, .int .u64 l[j].Local, .int .u64 l[j].Remote, .int .u64 l[j].Reserve, .int .u64 l[j].Most, .slice A' n' c', .bool l[j].Open] 26)
    have HA := hid (refAll9_any _ l[j] _ (chan_in hw hs hba))
    have HS := hid (sum_takeC hx1)
    have s1 := (sum_take_bd hwl j).1
    have s2 := sum_take_bd hwl (j + 1)
    have s3 := HM.out
    have s4 := aa_nonneg (hwl _ (List.getElem_mem hx1)).1 (hwl _ (List.getElem_mem hx1)).2
    have s5 : aaV l[j] ≤ mMax := aa_le
    have hm : mMax = 4611686018427387904 := rfl
    obtain ⟨av, hav⟩ : ∃ z, aaV l[j] = z := ⟨_, rfl⟩
    obtain ⟨sv, hsv⟩ : ∃ z, sumM ((l.take j).map aaV) = z := ⟨_, rfl⟩
    rw [hav] at HA HS s4 s5
    rw [hsv] at HS s1 s3 ⊢
    have wav : (Lit.int .u64 av).wf = true := wf_u64 (by omega)
    have wsv : (Lit.int .u64 sv).wf = true := wf_u64 (by omega)
    have HC := hid (addE_cases2 sv av)
    have HBad := hid (show mMax < sv + av → ¬ allB l from fun q k => by
      have k' : sumC l ≤ mMax := k
      have := s2.2
      rw [HS.out] at this
      omega)
    clear s1 s2 s3 hs hav hsv
    generalize chE l[j] = ce at *
    go_wp2_with fail
    refine HA.out.mono ?_
    rintro e w5 ⟨rfl, hb5⟩
    have HB5 := bel_call hbel (bel_call hba hb5)
    have R2 := rd_twoB w5 sv av w5.heap.size rfl wsv wav
    have HB6 := bel_alloc HB5 (Obj.cells #[.int .u64 sv, .int .u64 av] 23)
    clear t0 t1 t2 t3 t4 t5 t6 hba hb5
    go_wp2_with fail
    refine (rmAdd_any _ _ _ _ _ _ R2).mono ?_
    by_cases q : sv + av ≤ mMax
    · have e1 := add_ok (l := [sv, av]) (by rw [allLe_iff]; intro x hx; simp at hx; rcases hx with rfl | rfl <;> omega) (by simp [sumM]; omega)
      rw [e1.1, e1.2, show sumM [sv, av] = sv + av from by simp [sumM]]
      rintro e w6 ⟨rfl, rfl⟩
      have HQ := hid (show sumM ((l.take (j + 1)).map aaV) ≤ mMax from by rw [HS.out]; exact q)
      clear q e1 R2
      go_wp2
      go_roundw
      case rel => exact ⟨j + 1, by omega, by go_num, by rw [HS.out], HQ, HB6⟩
      case measure => simp [intOf]; omega
    · have e1 : addE [sv, av] ≠ 0 := fun e => by
        have := (add_nums e).2.1
        simp [sumM] at this
        omega
      obtain ⟨ae, hae⟩ : ∃ z, addE [sv, av] = z := ⟨_, rfl⟩
      rw [hae] at e1 ⊢
      have dz : (ae != 0) = true := by simpa using e1
      have HE := hid (show allV l = 0 ∧ decide (allB l) = false from ⟨if_neg (HBad.out (by omega)), decide_eq_false (HBad.out (by omega))⟩)
      clear q e1 R2 hae
      generalize addN [sv, av] = an at *
      rintro e w6 ⟨rfl, rfl⟩
      go_wp2
      go_ret2
      exact ⟨by rw [HE.out.1, HE.out.2]; rfl, HB6⟩
  · have HT := hid (show l.take j = l from List.take_of_length_le (by rw [HL.out]; omega))
    have HE := hid (show sumM ((l.take j).map aaV) = allV l ∧ decide (allB l) = true from by
      have := HM.out
      rw [HT.out] at this ⊢
      exact ⟨(show allV l = sumC l from if_pos this).symm, decide_eq_true this⟩)
    rw [HE.out.1]
    go_wp2
    go_ret2
    exact ⟨by rw [HE.out.2]; rfl, hbel⟩
end Go.Proofs.Ytanlpcndbfmkiaa
namespace Go.Proofs.Ytanlpcndbfmkiaa
open Go.RowKit Go.WalkArith

theorem whereF_first {l : List Chn} {hold : Int} {j : Nat} (hj : j < l.length) (h : ∀ i (hi : i < l.length), i < j → holdF l[i].Holds hold = none) (e : (holdF l[j].Holds hold).isSome = true) : whereF l hold = some l[j] := by
  unfold whereF
  rw [List.find?_eq_some_iff_getElem]
  refine ⟨e, j, hj, rfl, fun i hi => ?_⟩
  have := h i (by omega) hi
  rw [this]
  rfl
theorem whereF_never {l : List Chn} {hold : Int} (h : ∀ i (hi : i < l.length), holdF l[i].Holds hold = none) : whereF l hold = none := by
  refine List.find?_eq_none.2 fun x hx => ?_
  obtain ⟨i, hi, rfl⟩ := List.getElem_of_mem hx
  rw [h i hi]
  decide
/-- Which channel has a hold. -/
def FindW (l : List Chn) (hold i : Int) : Prop := (∃ (j : Nat) (hj : j < l.length), i = j ∧ whereF l hold = some l[j]) ∨ (i = -1 ∧ whereF l hold = none)

set_option maxRecDepth 100000 in
set_option maxHeartbeats 2000000 in
theorem refWhereI_any (A : Option Addr) (n k : Nat) (l : List Chn) (hold : Int) (w : World) (h : Sl lay_Channel w (· < w.heap.size) A n k l) :
    Calls Try.prog 55 #[.slice A n k, .int .u64 hold] w fun e w' => ∃ i, e = .returned (.int .i64 i) ∧ FindW l hold i ∧ Below w.heap.size w w' := by
  have HL := hid h.len
  have hcap := h.cap
  unfold maxLen at hcap
  go_enter Try.func55, Try.ntmps55
  go_wp2
  go_loopw [11] (fun i wr => ∃ j : Nat, j ≤ n ∧ i = .int .i64 j ∧ Hid (∀ i (hi : i < l.length), i < j → holdF l[i].Holds hold = none) ∧ Below w.heap.size w wr) (fun i _ => n - (intOf i).toNat)
  case atStart => exact ⟨0, Nat.zero_le _, rfl, hid fun i hi h => absurd h (by omega), Below.refl _ _⟩
  case round =>
  obtain ⟨j, hj, rfl, HP, hbel⟩ := hrel
  by_cases hlt : j < n
  rotate_left
  · have HF := hid (show FindW l hold (-1) from .inr ⟨rfl, whereF_never fun i hi => HP.out i hi (by rw [HL.out] at hi; omega)⟩)
    go_wp2
    go_ret
    exact ⟨_, rfl, HF.out, hbel⟩
  obtain ⟨b1, o1, A', n', c', hx1, rfl, -, t0, t1, t2, t3, t4, t5, t6, -, hs⟩ := chn_at (Sl.call h hbel) hlt
  have hba := bel_alloc (Below.refl wr.heap.size wr) (Obj.cells #[.int .u64 l[j].Id, .int .u64 l[j].Local, .int .u64 l[j].Remote, .int .u64 l[j].Reserve, .int .u64 l[j].Most, .slice A' n' c', .bool l[j].Open] 26)
  have hs5 := Sl.call hs hba
  have HB5 := bel_call hbel hba
  have hcap5 := hs.cap
  have HL5 := hid hs.len
  unfold maxLen at hcap5
  clear hs
  go_wp2
  generalize wr.alloc (Obj.cells #[.int .u64 l[j].Id, .int .u64 l[j].Local, .int .u64 l[j].Remote, .int .u64 l[j].Reserve, .int .u64 l[j].Most, .slice A' n' c', .bool l[j].Open] 26) = W5 at *
  clear t0 t1 t2 t3 t4 t5 t6 hba hbel
  obtain ⟨wo, hwo⟩ : ∃ z, z = wr := ⟨_, rfl⟩
  subst hwo
  go_loopw [19] (fun i ws => ∃ m : Nat, m ≤ n' ∧ i = .int .i64 m ∧ Hid (∀ i (hi : i < l[j].Holds.length), i < m → l[j].Holds[i].Id ≠ hold) ∧ Below W5.heap.size W5 ws) (fun i _ => n' - (intOf i).toNat)
  case atStart => exact ⟨0, Nat.zero_le _, rfl, hid fun i hi h => absurd h (by omega), Below.refl _ _⟩
  case round =>
  obtain ⟨m, hm, rfl, HQ, hbs⟩ := hrel
  by_cases hl : m < n'
  · obtain ⟨b2, f2, hx2, rfl, -, u1, u2, -⟩ := hld_at (Sl.call hs5 hbs) hl
    have hbn := bel_alloc hbs (Obj.cells #[.int .u64 l[j].Holds[m].Id, .int .u64 l[j].Holds[m].N] 41)
    by_cases he : l[j].Holds[m].Id = hold
    · have de : (l[j].Holds[m].Id == hold) = true := by simpa using he
      have HF := hid (show FindW l hold (j : Int) from .inl ⟨j, hx1, rfl, whereF_first hx1 HP.out (holdF_is.2 ⟨_, List.getElem_mem hx2, he⟩)⟩)
      have HBE := hid (bel_call HB5 hbn)
      clear he
      go_wp2
      go_ret
      exact ⟨_, rfl, HF.out, HBE.out⟩
    · have de : (l[j].Holds[m].Id == hold) = false := by simpa using he
      have HN := hid (show ∀ i (hi : i < l[j].Holds.length), i < m + 1 → l[j].Holds[i].Id ≠ hold from fun i hi h => by
        by_cases hij : i < m
        · exact HQ.out i hi hij
        · have e : i = m := by omega
          subst e; exact he)
      clear he
      go_wp2
      go_roundw
      case rel => exact ⟨m + 1, by omega, by go_num, HN, hbn⟩
      case measure => simp [intOf]; omega
  · have HN := hid (show ∀ i (hi : i < l.length), i < j + 1 → holdF l[i].Holds hold = none from fun i hi h => by
      by_cases hij : i < j
      · exact HP.out i hi hij
      · have e : i = j := by omega
        subst e
        exact holdF_never fun q hq => HQ.out q hq (by rw [HL5.out] at hq; omega))
    have HBE := hid (bel_call HB5 hbs)
    go_wp2
    go_roundw
    case rel => exact ⟨j + 1, by omega, by go_num, HN, HBE.out⟩
    case measure => simp [intOf]; omega

theorem Try.infoChn : (Try.prog.info? 26).map (fun i => (i.zero, i.size, i.bytes)) = some (some (.agg #[.int .u64 0, .int .u64 0, .int .u64 0, .int .u64 0, .int .u64 0, .slice none 0 0, .bool false]), lay_Channel.size, 72) := by kernel_rfl

set_option maxRecDepth 100000 in
set_option maxHeartbeats 2000000 in
theorem refCopy10_any (A : Option Addr) (n k : Nat) (l : List Chn) (w : World) (h : Sl lay_Channel w (· < w.heap.size) A n k l) (hn : n ≤ 1000) (hh : ∀ c ∈ l, c.Holds.length ≤ 1000) :
    Calls Try.prog 11 #[.slice A n k] w fun e w' => ∃ v, e = .returned v ∧ OwnL lay_Channel w' w.heap.size (some w.heap.size) 26 v l ∧ Below w.heap.size w w' := by
  have HL := hid h.len
  have HHh := hid hh
  clear hh
  go_enter Try.func11, Try.ntmps11
  go_wp2
  go_loopw [3, 8] (fun u i wr => ∃ (j : Nat) (tv : Value), j ≤ n ∧ i = .int .i64 j ∧ u = tv ∧ OwnL lay_Channel wr w.heap.size (some w.heap.size) 26 tv (l.take j) ∧ Below w.heap.size w wr) (fun _ i _ => n - (intOf i).toNat)
  case atStart => exact ⟨0, _, Nat.zero_le _, rfl, rfl, OwnL.nil _ _ _ _ _, Below.refl _ _⟩
  case round =>
  obtain ⟨j, tx, hj, rfl, htx, hown, hbel⟩ := hrel
  replace htx := htx.symm
  subst htx
  have hwz := hbel.size
  by_cases hlt : j < n
  · obtain ⟨b1, o1, A', n', c', hx1, rfl, -, t0, t1, t2, t3, t4, t5, t6, hw, hs⟩ := chn_at (Sl.call h hbel) hlt
    have hba := bel_alloc (Below.refl wr.heap.size wr) (Obj.cells #[.int .u64 l[j].Id, .int .u64 l[j].Local, .int .u64 l[j].Remote, .int .u64 l[j].Reserve, .int .u64 l[j].Most, .slice A' n' c', .bool l[j].Open] 26)
    have HC := hid (refCopy9_any _ l[j] _ (chan_in hw hs hba) (HHh.out _ (List.getElem_mem hx1)))
    have HT := hid (show l.take (j + 1) = l.take j ++ [l[j]] from List.take_succ_eq_append_getElem hx1)
    have hal : (l.take j).length ≤ 1000 := by rw [List.length_take]; omega
    have hlen1 : ((l.take j).length + 1) * 72 ≤ 140737488355328 := by omega
    have hlen2 : (l.take j).length + 1 ≤ maxLen := by unfold maxLen; omega
    have HZB := hid (show (wr.alloc (Obj.cells #[.int .u64 l[j].Id, .int .u64 l[j].Local, .int .u64 l[j].Remote, .int .u64 l[j].Reserve, .int .u64 l[j].Most, .slice A' n' c', .bool l[j].Open] 26)).heap.size = wr.heap.size + 1 from by simp)
    clear hs hal
    go_wp2_with fail
    refine HC.out.mono ?_
    rintro e w5 ⟨v, rfl, ⟨u, rfl, ho5⟩, hb5⟩
    obtain ⟨A5, n5, c5, rfl, hs5⟩ := ho5.sl (Nat.le_refl _) (Nat.le_refl _)
    have hb6 := bel_call hba hb5
    have ho6 := hown.keep hb6
    have HGE := hid (show ∀ g, tx.ownBlock = some g → g < wr.heap.size from fun g hg => hown.lt hg)
    have hz5 := hb5.size
    rw [HZB.out] at hz5 hs5
    have HS5 := hid hs5
    clear hba hb5 ho5 hs5 HC t0 t1 t2 t3 t4 t5 t6
    go_wp2_with (at_builtin; go_must (refine wpList_pushL (w := w5) rfl (.tmp 12) (.tmp 15) 22 rfl w.heap.size (some w.heap.size) 26 _ 72 Try.underlying22 Try.infoChn rfl (by decide) tx (l.take j) l[j] #[.int .u64 l[j].Id, .int .u64 l[j].Local, .int .u64 l[j].Remote, .int .u64 l[j].Reserve, .int .u64 l[j].Most, .slice A5 n5 c5, .bool l[j].Open] (From w5 (wr.heap.size + 1)) rfl rfl ho6 (rep_Channel.2 ⟨A5, n5, c5, rfl, hw, HS5.out⟩) (fun b hb => ⟨⟨by have := hb.1; omega, hb.2.2⟩, hb.2.1, fun he => by have := HGE.out b he.symm; have := hb.1; omega⟩) (by omega) hlen1 hlen2 ?_; intro v7 w7 ho7 hx7; have hb7 : Below w.heap.size w5 w7 := ho6.below hx7 (by omega)))
    go_roundw
    case rel => exact ⟨j + 1, _, by omega, by go_num, rfl, by rw [HT.out]; exact ho7, (bel_call hbel hb6).trans hb7⟩
    case measure => simp [intOf]; omega
  · have HTK := hid (show l.take j = l from List.take_of_length_le (by rw [HL.out]; omega))
    rw [HTK.out] at hown
    go_wp2
    go_ret
    exact ⟨_, rfl, hown, hbel⟩
end Go.Proofs.Ytanlpcndbfmkiaa
namespace Go.Proofs.Ytanlpcndbfmkiaa
open Go.RowKit Go.WalkArith

theorem filter_takeC {p : Chn → Bool} {l : List Chn} {j : Nat} (hj : j < l.length) : (l.take (j + 1)).filter p = (l.take j).filter p ++ (if p l[j] = true then [l[j]] else []) := by
  rw [List.take_succ_eq_append_getElem hj, List.filter_append]
  congr 1
  by_cases h : p l[j] = true
  · rw [if_pos h]; simp [h]
  · rw [if_neg h]; simp [h]
theorem filter_lenC {p : Chn → Bool} (l : List Chn) (j : Nat) : ((l.take j).filter p).length ≤ l.length := by
  have h1 := List.length_filter_le p (l.take j)
  rw [List.length_take] at h1
  omega

set_option maxRecDepth 100000 in
set_option maxHeartbeats 4000000 in
theorem refWith10_any (A : Option Addr) (n k : Nat) (l : List Chn) (s : Array Value) (r : Chn) (w : World) (h : Sl lay_Channel w (· < w.heap.size) A n k l) (hr : lay_Channel.rep w (· < w.heap.size) r s.toList) (hn : n ≤ 500) (hh : (∀ c ∈ l, c.Holds.length ≤ 1000) ∧ r.Holds.length ≤ 1000) :
    Calls Try.prog 45 #[.slice A n k, .agg s] w fun e w' => ∃ v, e = .returned v ∧ OwnL lay_Channel w' w.heap.size (some w.heap.size) 26 v (withC l r) ∧ Below w.heap.size w w' := by
  obtain ⟨Ar, nr, cr, rfl, hwr, hsr⟩ := agg_Channel hr
  clear hr
  have HL := hid h.len
  have HHh := hid hh
  clear hh
  have hb0 : Below w.heap.size w (w.alloc (Obj.cells #[.int .u64 r.Id, .int .u64 r.Local, .int .u64 r.Remote, .int .u64 r.Reserve, .int .u64 r.Most, .slice Ar nr cr, .bool r.Open] 26)) := bel_alloc (Below.refl _ _) _
  have B0 := BoxC.new w r Ar nr cr
  have hz0 : (w.heap.size + 1) ≤ (w.alloc (Obj.cells #[.int .u64 r.Id, .int .u64 r.Local, .int .u64 r.Remote, .int .u64 r.Reserve, .int .u64 r.Most, .slice Ar nr cr, .bool r.Open] 26)).heap.size := by simp
  obtain ⟨F1, hF1⟩ : ∃ f : Chn → Bool, f = fun x => decide (x.Id < r.Id) := ⟨_, rfl⟩
  obtain ⟨F2, hF2⟩ : ∃ f : Chn → Bool, f = fun x => decide (r.Id < x.Id) := ⟨_, rfl⟩
  have G1 := hid (fun x => congrFun hF1 x)
  have G2 := hid (fun x => congrFun hF2 x)
  clear hF1 hF2
  go_enter Try.func45, Try.ntmps45
  go_wp2
  generalize w.alloc (Obj.cells #[.int .u64 r.Id, .int .u64 r.Local, .int .u64 r.Remote, .int .u64 r.Reserve, .int .u64 r.Most, .slice Ar nr cr, .bool r.Open] 26) = W0 at *
  go_loopw [5, 12] (fun u i wr => ∃ (j : Nat) (tv : Value), j ≤ n ∧ i = .int .i64 j ∧ u = tv ∧ OwnL lay_Channel wr (w.heap.size + 1) none 26 tv (([] : List Chn) ++ (l.take j).filter F1) ∧ BoxC wr w.heap.size r Ar nr cr ∧ (w.heap.size + 1) ≤ wr.heap.size ∧ Below w.heap.size w wr) (fun _ i _ => n - (intOf i).toNat)
  case atStart => exact ⟨0, _, Nat.zero_le _, rfl, rfl, OwnL.nil _ _ _ _ _, B0, hz0, hb0⟩
  case round =>
  obtain ⟨j, tx, hj, rfl, htx, hown, BR, hzB, hbel⟩ := hrel
  replace htx := htx.symm
  subst htx
  by_cases hlt : j < n
  · obtain ⟨b1, o1, A', n', c', hx1, hA1, hb1, t0, t1, t2, t3, t4, t5, t6, hwc, hsc⟩ := chn_at h hlt
    have q0 := (hbel.cell (p := ⟨b1, o1 + j * 7, none⟩) hb1).trans t0
    have q1 := (hbel.cell (p := ⟨b1, o1 + j * 7 + 1, none⟩) hb1).trans t1
    have q2 := (hbel.cell (p := ⟨b1, o1 + j * 7 + 2, none⟩) hb1).trans t2
    have q3 := (hbel.cell (p := ⟨b1, o1 + j * 7 + 3, none⟩) hb1).trans t3
    have q4 := (hbel.cell (p := ⟨b1, o1 + j * 7 + 4, none⟩) hb1).trans t4
    have q5 := (hbel.cell (p := ⟨b1, o1 + j * 7 + 5, none⟩) hb1).trans t5
    have q6 := (hbel.cell (p := ⟨b1, o1 + j * 7 + 6, none⟩) hb1).trans t6
    subst hA1
    have hba := bel_alloc (Below.refl wr.heap.size wr) (Obj.cells #[.int .u64 l[j].Id, .int .u64 l[j].Local, .int .u64 l[j].Remote, .int .u64 l[j].Reserve, .int .u64 l[j].Most, .slice A' n' c', .bool l[j].Open] 26)
    have BR2 := BR.call hba
    have BN := BoxC.new wr l[j] A' n' c'
    have ho2 := hown.keep hba
    have HB2 := bel_call hbel hba
    have hsc2 := hsc.keep fun _ hp => HB2.cell hp
    have HFT := hid (filter_takeC (p := F1) hx1)
    have hfl := filter_lenC (p := F1) l j
    rw [HL.out] at hfl
    have HSZ := hid (show wr.heap.size + 1 = (wr.alloc (Obj.cells #[.int .u64 l[j].Id, .int .u64 l[j].Local, .int .u64 l[j].Remote, .int .u64 l[j].Reserve, .int .u64 l[j].Most, .slice A' n' c', .bool l[j].Open] 26)).heap.size from by simp)
    have hz2 : (w.heap.size + 1) ≤ (wr.alloc (Obj.cells #[.int .u64 l[j].Id, .int .u64 l[j].Local, .int .u64 l[j].Remote, .int .u64 l[j].Reserve, .int .u64 l[j].Most, .slice A' n' c', .bool l[j].Open] 26)).heap.size := by rw [← HSZ.out]; omega
    have HGE := hid (show ∀ g, tx.ownBlock = some g → (w.heap.size + 1) ≤ g from fun g hg => hown.ge hg)
    clear t0 t1 t2 t3 t4 t5 t6 hown BR hsc
    obtain ⟨y0, y1, y2, y3, y4, y5, y6⟩ := BN.all
    have k0 := BR2.all.1
    by_cases he : l[j].Id < r.Id
    · have d1 : decide (l[j].Id < r.Id) = true := by simpa using he
      rw [if_pos (by rw [G1.out]; exact d1)] at HFT
      have hlen1 : ((([] : List Chn) ++ (l.take j).filter F1).length + 1) * 72 ≤ 140737488355328 := by rw [List.length_append]; rw [List.length_nil]; omega
      have hlen2 : (([] : List Chn) ++ (l.take j).filter F1).length + 1 ≤ maxLen := by rw [List.length_append]; unfold maxLen; rw [List.length_nil]; omega
      clear he
      go_wp2_with (at_builtin; go_must (refine wpList_pushL (w := wr.alloc (Obj.cells #[.int .u64 l[j].Id, .int .u64 l[j].Local, .int .u64 l[j].Remote, .int .u64 l[j].Reserve, .int .u64 l[j].Most, .slice A' n' c', .bool l[j].Open] 26)) rfl (.tmp 21) (.tmp 23) 22 rfl (w.heap.size + 1) none 26 _ 72 Try.underlying22 Try.infoChn rfl (by decide) tx (([] : List Chn) ++ (l.take j).filter F1) l[j] #[.int .u64 l[j].Id, .int .u64 l[j].Local, .int .u64 l[j].Remote, .int .u64 l[j].Reserve, .int .u64 l[j].Most, .slice A' n' c', .bool l[j].Open] (· < w.heap.size) rfl (congrArg (fun z => Value.slice (some ⟨z, 0, none⟩) 1 1) HSZ.out) ho2 (rep_Channel.2 ⟨A', n', c', rfl, hwc, hsc2⟩) (fun b hb => ⟨trivial, by omega, fun he => by have := HGE.out b he.symm; omega⟩) hz2 hlen1 hlen2 ?_; intro v7 w7 ho7 hx7; have hb7 : Below (w.heap.size + 1) (wr.alloc (Obj.cells #[.int .u64 l[j].Id, .int .u64 l[j].Local, .int .u64 l[j].Remote, .int .u64 l[j].Reserve, .int .u64 l[j].Most, .slice A' n' c', .bool l[j].Open] 26)) w7 := ho2.below hx7 hz2))
      have BR7 := BR2.keep hb7 (by omega)
      have HB7 := HB2.trans (hb7.mono (by omega))
      have hz7 := Nat.le_trans hz2 hb7.size
      clear k0 y0 y1 y2 y3 y4 y5 y6
      go_roundw
      case rel => exact ⟨j + 1, _, by omega, by go_num, rfl, by rw [HFT.out, ← List.append_assoc]; exact ho7, BR7, hz7, HB7⟩
      case measure => simp [intOf]; omega
    · have d1 : decide (l[j].Id < r.Id) = false := by simpa using he
      rw [if_neg (by rw [G1.out, d1]; decide), List.append_nil] at HFT
      clear he
      go_wp2
      go_roundw
      case rel => exact ⟨j + 1, _, by omega, by go_num, rfl, by rw [HFT.out]; exact ho2, BR2, hz2, HB2⟩
      case measure => simp [intOf]; omega
  rw [List.take_of_length_le (show l.length ≤ j by rw [HL.out]; omega)] at hown
  rw [List.nil_append] at hown
  have hfl0 := filter_lenC (p := F1) l l.length
  rw [List.take_length, HL.out] at hfl0
  have hlen1 : ((l.filter F1).length + 1) * 72 ≤ 140737488355328 := by omega
  have hlen2 : (l.filter F1).length + 1 ≤ maxLen := by unfold maxLen; omega
  obtain ⟨k0, k1, k2, k3, k4, k5, k6⟩ := BR.all
  have HGE := hid (show ∀ g, tx.ownBlock = some g → (w.heap.size + 1) ≤ g from fun g hg => hown.ge hg)
  have hsr2 := hsr.keep fun _ hp => hbel.cell hp
  go_upto_region 9 with (at_builtin; go_must (refine wpList_pushL (w := wr) rfl (.tmp 26) (.tmp 28) 22 rfl (w.heap.size + 1) none 26 _ 72 Try.underlying22 Try.infoChn rfl (by decide) tx (l.filter F1) r #[.int .u64 r.Id, .int .u64 r.Local, .int .u64 r.Remote, .int .u64 r.Reserve, .int .u64 r.Most, .slice Ar nr cr, .bool r.Open] (· < w.heap.size) rfl rfl hown (rep_Channel.2 ⟨Ar, nr, cr, rfl, hwr, hsr2⟩) (fun b hb => ⟨trivial, by omega, fun he => by have := HGE.out b he.symm; omega⟩) hzB hlen1 hlen2 ?_; intro v7 w7 ho7 hx7; have hb7 : Below (w.heap.size + 1) wr w7 := hown.below hx7 hzB))
  have BR8 := BR.keep hb7 (by omega)
  have HB8 := hbel.trans (hb7.mono (by omega))
  have hz8 := Nat.le_trans hzB hb7.size
  clear k0 k1 k2 k3 k4 k5 k6 BR hown hx7 hb7 hbel hzB hlt hj hlen1 hlen2 hsr2 HGE
  obtain ⟨wq, hwq⟩ : ∃ z, z = wr := ⟨_, rfl⟩
  subst hwq
  go_wp2
  go_loopw [5, 32] (fun u i wr => ∃ (j : Nat) (tv : Value), j ≤ n ∧ i = .int .i64 j ∧ u = tv ∧ OwnL lay_Channel wr (w.heap.size + 1) none 26 tv ((l.filter F1 ++ [r]) ++ (l.take j).filter F2) ∧ BoxC wr w.heap.size r Ar nr cr ∧ (w.heap.size + 1) ≤ wr.heap.size ∧ Below w.heap.size w wr) (fun _ i _ => n - (intOf i).toNat)
  case atStart => exact ⟨0, _, Nat.zero_le _, rfl, rfl, by simpa using ho7, BR8, hz8, HB8⟩
  case round =>
  obtain ⟨j, tx, hj, rfl, htx, hown, BR, hzB, hbel⟩ := hrel
  replace htx := htx.symm
  subst htx
  by_cases hlt : j < n
  · obtain ⟨b1, o1, A', n', c', hx1, hA1, hb1, t0, t1, t2, t3, t4, t5, t6, hwc, hsc⟩ := chn_at h hlt
    have q0 := (hbel.cell (p := ⟨b1, o1 + j * 7, none⟩) hb1).trans t0
    have q1 := (hbel.cell (p := ⟨b1, o1 + j * 7 + 1, none⟩) hb1).trans t1
    have q2 := (hbel.cell (p := ⟨b1, o1 + j * 7 + 2, none⟩) hb1).trans t2
    have q3 := (hbel.cell (p := ⟨b1, o1 + j * 7 + 3, none⟩) hb1).trans t3
    have q4 := (hbel.cell (p := ⟨b1, o1 + j * 7 + 4, none⟩) hb1).trans t4
    have q5 := (hbel.cell (p := ⟨b1, o1 + j * 7 + 5, none⟩) hb1).trans t5
    have q6 := (hbel.cell (p := ⟨b1, o1 + j * 7 + 6, none⟩) hb1).trans t6
    subst hA1
    have hba := bel_alloc (Below.refl wr.heap.size wr) (Obj.cells #[.int .u64 l[j].Id, .int .u64 l[j].Local, .int .u64 l[j].Remote, .int .u64 l[j].Reserve, .int .u64 l[j].Most, .slice A' n' c', .bool l[j].Open] 26)
    have BR2 := BR.call hba
    have BN := BoxC.new wr l[j] A' n' c'
    have ho2 := hown.keep hba
    have HB2 := bel_call hbel hba
    have hsc2 := hsc.keep fun _ hp => HB2.cell hp
    have HFT := hid (filter_takeC (p := F2) hx1)
    have hfl := filter_lenC (p := F2) l j
    rw [HL.out] at hfl
    have HSZ := hid (show wr.heap.size + 1 = (wr.alloc (Obj.cells #[.int .u64 l[j].Id, .int .u64 l[j].Local, .int .u64 l[j].Remote, .int .u64 l[j].Reserve, .int .u64 l[j].Most, .slice A' n' c', .bool l[j].Open] 26)).heap.size from by simp)
    have hz2 : (w.heap.size + 1) ≤ (wr.alloc (Obj.cells #[.int .u64 l[j].Id, .int .u64 l[j].Local, .int .u64 l[j].Remote, .int .u64 l[j].Reserve, .int .u64 l[j].Most, .slice A' n' c', .bool l[j].Open] 26)).heap.size := by rw [← HSZ.out]; omega
    have HGE := hid (show ∀ g, tx.ownBlock = some g → (w.heap.size + 1) ≤ g from fun g hg => hown.ge hg)
    clear t0 t1 t2 t3 t4 t5 t6 hown BR hsc
    obtain ⟨y0, y1, y2, y3, y4, y5, y6⟩ := BN.all
    have k0 := BR2.all.1
    by_cases he : r.Id < l[j].Id
    · have d1 : decide (r.Id < l[j].Id) = true := by simpa using he
      rw [if_pos (by rw [G2.out]; exact d1)] at HFT
      have hlen1 : (((l.filter F1 ++ [r]) ++ (l.take j).filter F2).length + 1) * 72 ≤ 140737488355328 := by rw [List.length_append]; rw [List.length_append, List.length_singleton]; omega
      have hlen2 : ((l.filter F1 ++ [r]) ++ (l.take j).filter F2).length + 1 ≤ maxLen := by rw [List.length_append]; unfold maxLen; rw [List.length_append, List.length_singleton]; omega
      clear he
      go_wp2_with (at_builtin; go_must (refine wpList_pushL (w := wr.alloc (Obj.cells #[.int .u64 l[j].Id, .int .u64 l[j].Local, .int .u64 l[j].Remote, .int .u64 l[j].Reserve, .int .u64 l[j].Most, .slice A' n' c', .bool l[j].Open] 26)) rfl (.tmp 41) (.tmp 43) 22 rfl (w.heap.size + 1) none 26 _ 72 Try.underlying22 Try.infoChn rfl (by decide) tx ((l.filter F1 ++ [r]) ++ (l.take j).filter F2) l[j] #[.int .u64 l[j].Id, .int .u64 l[j].Local, .int .u64 l[j].Remote, .int .u64 l[j].Reserve, .int .u64 l[j].Most, .slice A' n' c', .bool l[j].Open] (· < w.heap.size) rfl (congrArg (fun z => Value.slice (some ⟨z, 0, none⟩) 1 1) HSZ.out) ho2 (rep_Channel.2 ⟨A', n', c', rfl, hwc, hsc2⟩) (fun b hb => ⟨trivial, by omega, fun he => by have := HGE.out b he.symm; omega⟩) hz2 hlen1 hlen2 ?_; intro v7 w7 ho7 hx7; have hb7 : Below (w.heap.size + 1) (wr.alloc (Obj.cells #[.int .u64 l[j].Id, .int .u64 l[j].Local, .int .u64 l[j].Remote, .int .u64 l[j].Reserve, .int .u64 l[j].Most, .slice A' n' c', .bool l[j].Open] 26)) w7 := ho2.below hx7 hz2))
      have BR7 := BR2.keep hb7 (by omega)
      have HB7 := HB2.trans (hb7.mono (by omega))
      have hz7 := Nat.le_trans hz2 hb7.size
      clear k0 y0 y1 y2 y3 y4 y5 y6
      go_roundw
      case rel => exact ⟨j + 1, _, by omega, by go_num, rfl, by rw [HFT.out, ← List.append_assoc]; exact ho7, BR7, hz7, HB7⟩
      case measure => simp [intOf]; omega
    · have d1 : decide (r.Id < l[j].Id) = false := by simpa using he
      rw [if_neg (by rw [G2.out, d1]; decide), List.append_nil] at HFT
      clear he
      go_wp2
      go_roundw
      case rel => exact ⟨j + 1, _, by omega, by go_num, rfl, by rw [HFT.out]; exact ho2, BR2, hz2, HB2⟩
      case measure => simp [intOf]; omega
  rw [List.take_of_length_le (show l.length ≤ j by rw [HL.out]; omega)] at hown
  have HWH := hid (show l.filter F1 ++ [r] ++ l.filter F2 = withC l r from by
    unfold withC
    have g1 : F1 = fun x => decide (x.Id < r.Id) := funext fun x => G1.out x
    have g2 : F2 = fun x => decide (r.Id < x.Id) := funext fun x => G2.out x
    rw [g1, g2])
  rw [HWH.out] at hown
  obtain ⟨A8, n8, c8, rfl, hs8⟩ := hown.read
  have hn8 : n8 ≤ 1000 := by
    rw [← hs8.len]
    have := cwith_len l r
    rw [HL.out] at this
    omega
  have HC := hid (refCopy10_any A8 n8 c8 (withC l r) wr hs8 hn8 (fun c hc => by
    rcases cwith_mem.1 hc with ⟨q, -⟩ | rfl
    · exact HHh.out.1 c q
    · exact HHh.out.2))
  clear hs8 hown
  go_wp2_with fail
  refine HC.out.mono ?_
  rintro e w9 ⟨v, rfl, ho9, hb9⟩
  have HB9 := hid (bel_call hbel hb9)
  have HO9 := hid (ho9.lows (base' := w.heap.size) (lo' := w.heap.size) (by omega) (by omega))
  clear ho9
  go_wp2
  go_ret
  exact ⟨_, rfl, HO9.out, HB9.out⟩
end Go.Proofs.Ytanlpcndbfmkiaa
namespace Go.Proofs.Ytanlpcndbfmkiaa
open Go.RowKit Go.WalkArith

theorem lg_bad1 {l : List Chn} {j : Nat} (hj : j < l.length) (h : chE l[j] ≠ 0) : lgE l = 1 := if_neg fun q => h (if_pos (q.2.1 _ (List.getElem_mem hj)))
theorem lg_bad2 {l : List Chn} {k j : Nat} (hj : j < l.length) (hk : k < j) (h : l[j].Id ≤ l[k].Id) : lgE l = 1 := if_neg fun q => by
  have := List.pairwise_iff_getElem.1 q.2.2.1 k j (by omega) hj hk
  omega
theorem lg_bad3 {l : List Chn} {j : Nat} (hj : j < l.length) {x : Hld} (hx : x ∈ l[j].Holds) (h : whereF (l.take j) x.Id ≠ none) : lgE l = 1 := if_neg fun q => by
  cases hf : whereF (l.take j) x.Id with
  | none => exact h hf
  | some c =>
    have h1 := List.mem_of_find?_eq_some hf
    have h2 := List.find?_some hf
    obtain ⟨i, hi, rfl⟩ := List.getElem_of_mem h1
    rw [List.length_take] at hi
    rw [List.getElem_take] at h2
    cases hg : holdF l[i].Holds x.Id with
    | none => rw [hg] at h2; cases h2
    | some y =>
      have h3 := List.mem_of_find?_eq_some hg
      have h4 := List.find?_some hg
      exact List.pairwise_iff_getElem.1 q.2.2.2.1 i j (by omega) hj (by omega) y h3 x hx (by simpa using h4)
theorem Try.elemChn : Try.prog.elem 22 = 26 := by kernel_rfl
/-- What the loop over channels knows. -/
def PreL (l : List Chn) (j : Nat) : Prop := (∀ c ∈ l.take j, ChOk c) ∧ LUp (l.take j) ∧ HApart (l.take j)
theorem pre_step {l : List Chn} {j : Nat} (hj : j < l.length) (h : PreL l j) (h1 : chE l[j] = 0) (h2 : ∀ k (hk : k < l.length), k + 1 = j → l[k].Id < l[j].Id) (h3 : ∀ x ∈ l[j].Holds, whereF (l.take j) x.Id = none) : PreL l (j + 1) := by
  obtain ⟨a1, a2, a3⟩ := h
  have hc : ChOk l[j] := by
    by_cases q : ChOk l[j]
    · exact q
    · exact absurd (show chE l[j] = 1 from if_neg q) (by rw [h1]; decide)
  unfold PreL
  rw [List.take_succ_eq_append_getElem hj]
  refine ⟨fun c hcm => ?_, ?_, ?_⟩
  · rcases List.mem_append.1 hcm with q | q
    · exact a1 c q
    · simp at q; subst q; exact hc
  · unfold LUp
    rw [List.pairwise_append]
    refine ⟨a2, List.pairwise_singleton _ _, fun a ha b hb => ?_⟩
    simp only [List.mem_singleton] at hb
    subst hb
    obtain ⟨i, hi, rfl⟩ := List.getElem_of_mem ha
    rw [List.length_take] at hi
    rw [List.getElem_take]
    rcases Nat.lt_or_ge (i + 1) j with q | q
    · have g1 := List.pairwise_iff_getElem.1 a2 i (j - 1) (by rw [List.length_take]; omega) (by rw [List.length_take]; omega) (by omega)
      rw [List.getElem_take, List.getElem_take] at g1
      have g2 := h2 (j - 1) (by omega) (by omega)
      omega
    · exact h2 i (by omega) (by omega)
  · unfold HApart
    rw [List.pairwise_append]
    refine ⟨a3, List.pairwise_singleton _ _, fun a ha b hb y hy x hx e => ?_⟩
    simp only [List.mem_singleton] at hb
    subst hb
    have := List.find?_eq_none.1 (h3 x hx) a ha
    refine this ?_
    rw [holdF_is]
    exact ⟨y, hy, e⟩

set_option maxRecDepth 100000 in
set_option maxHeartbeats 4000000 in
theorem refCheck10_any (A : Option Addr) (n k : Nat) (l : List Chn) (w : World) (h : Sl lay_Channel w (· < w.heap.size) A n k l) :
    Calls Try.prog 31 #[.slice A n k] w fun e w' => e = .returned (.int .i64 (lgE l)) ∧ Below w.heap.size w w' := by
  have HL := hid h.len
  have hcap := h.cap
  unfold maxLen at hcap
  by_cases hbig : 32 < n
  · have HN := hid (show lgE l = 1 from if_neg fun k => by have := k.1; rw [HL.out] at this; omega)
    have d1 : decide ((32 : Int) < (n : Int)) = true := by simp; omega
    go_enter Try.func31, Try.ntmps31
    go_wp2
    go_ret
    exact ⟨ret_num HN.out.symm, Below.refl _ _⟩
  have d1 : decide ((32 : Int) < (n : Int)) = false := by simp; omega
  have HSL := hid (fun (W : World) (h' : Below w.heap.size w W) => Sl.call h h')
  go_enter Try.func31, Try.ntmps31
  go_wp2
  go_loopw [14] (fun i wr => ∃ j : Nat, j ≤ n ∧ i = .int .i64 j ∧ Hid (PreL l j) ∧ Below w.heap.size w wr) (fun i _ => n - (intOf i).toNat)
  case atStart => exact ⟨0, Nat.zero_le _, rfl, hid ⟨by simp, by simp [LUp], by simp [HApart]⟩, Below.refl _ _⟩
  case round =>
  obtain ⟨j, hj, rfl, HP, hbel⟩ := hrel
  by_cases hlt : j < n
  rotate_left
  · have HT := hid (show l.take j = l from List.take_of_length_le (by rw [HL.out]; omega))
    have HE := hid (show lgE l = if allB l then 0 else 1 from by
      have hp := HP.out
      unfold PreL at hp
      rw [HT.out] at hp
      unfold lgE
      by_cases q : allB l
      · rw [if_pos q, if_pos ⟨by rw [HL.out]; omega, hp.1, hp.2.1, hp.2.2, q⟩]
      · rw [if_neg q, if_neg fun g => q g.2.2.2.2])
    have HA := hid (refAll10_any A n k l wr (HSL.out _ hbel))
    by_cases q : allB l
    · rw [decide_eq_true q] at HA
      rw [if_pos q] at HE
      clear q
      generalize allV l = av at *
      go_wp2_with fail
      with_reducible refine HA.out.mono ?_
      rintro e w5 ⟨rfl, hb5⟩
      go_wp2
      go_ret
      exact ⟨ret_num HE.out.symm, bel_call hbel hb5⟩
    · rw [decide_eq_false q] at HA
      rw [if_neg q] at HE
      clear q
      generalize allV l = av at *
      go_wp2_with fail
      with_reducible refine HA.out.mono ?_
      rintro e w5 ⟨rfl, hb5⟩
      go_wp2
      go_ret
      exact ⟨ret_num HE.out.symm, bel_call hbel hb5⟩
  obtain ⟨b1, o1, A', n', c', hx1, hA, hb1, t0, t1, t2, t3, t4, t5, t6, hw, hs⟩ := chn_at (Sl.call h hbel) hlt
  have hbw := bel_alloc (Below.refl wr.heap.size wr) (Obj.cells #[.int .u64 l[j].Id, .int .u64 l[j].Local, .int .u64 l[j].Remote, .int .u64 l[j].Reserve, .int .u64 l[j].Most, .slice A' n' c', .bool l[j].Open] 26)
  have hba := bel_call hbel hbw
  have BB := BoxC.new wr l[j] A' n' c'
  have HCK := hid (fun (W : World) (h' : Below (wr.alloc (Obj.cells #[.int .u64 l[j].Id, .int .u64 l[j].Local, .int .u64 l[j].Remote, .int .u64 l[j].Reserve, .int .u64 l[j].Most, .slice A' n' c', .bool l[j].Open] 26)).heap.size (wr.alloc (Obj.cells #[.int .u64 l[j].Id, .int .u64 l[j].Local, .int .u64 l[j].Remote, .int .u64 l[j].Reserve, .int .u64 l[j].Most, .slice A' n' c', .bool l[j].Open] 26)) W) => refCheck9_any _ l[j] W (chan_in hw hs (bel_call hbw h')))
  have HSX := hid (fun (W : World) (h' : Below (wr.alloc (Obj.cells #[.int .u64 l[j].Id, .int .u64 l[j].Local, .int .u64 l[j].Remote, .int .u64 l[j].Reserve, .int .u64 l[j].Most, .slice A' n' c', .bool l[j].Open] 26)).heap.size (wr.alloc (Obj.cells #[.int .u64 l[j].Id, .int .u64 l[j].Local, .int .u64 l[j].Remote, .int .u64 l[j].Reserve, .int .u64 l[j].Most, .slice A' n' c', .bool l[j].Open] 26)) W) => Sl.call hs (bel_call hbw h'))
  have KB := hid (fun (W : World) (h' : Below (wr.alloc (Obj.cells #[.int .u64 l[j].Id, .int .u64 l[j].Local, .int .u64 l[j].Remote, .int .u64 l[j].Reserve, .int .u64 l[j].Most, .slice A' n' c', .bool l[j].Open] 26)).heap.size (wr.alloc (Obj.cells #[.int .u64 l[j].Id, .int .u64 l[j].Local, .int .u64 l[j].Remote, .int .u64 l[j].Reserve, .int .u64 l[j].Most, .slice A' n' c', .bool l[j].Open] 26)) W) => (BB.call h').all)
  have hsl := run_uptoL (P := Try.prog) 22 26 .i64 Try.underlying22 Try.elemChn Try.infoChn A n k j (by omega)
  by_cases hc : chE l[j] = 0
  rotate_left
  · have HE := hid (lg_bad1 hx1 hc)
    obtain ⟨ce, hce⟩ : ∃ z, chE l[j] = z := ⟨_, rfl⟩
    rw [hce] at HCK hc
    have dz : (ce != 0) = true := by simpa using hc
    clear hc hce hs hw BB
    subst hA
    go_upto_region 6 with (fail)
    generalize wr.alloc (Obj.cells #[.int .u64 l[j].Id, .int .u64 l[j].Local, .int .u64 l[j].Remote, .int .u64 l[j].Reserve, .int .u64 l[j].Most, .slice A' n' c', .bool l[j].Open] 26) = W1 at *
    generalize wr.heap.size = gr at *
    clear t0 t1 t2 t3 t4 t5 t6
    refine wp_region_held (S := fun w' : World => w'.cell? ⟨gr, 0, none⟩ = some (.int .u64 l[j].Id) ∧ w'.cell? ⟨gr, 1, none⟩ = some (.int .u64 l[j].Local) ∧ w'.cell? ⟨gr, 2, none⟩ = some (.int .u64 l[j].Remote) ∧ w'.cell? ⟨gr, 3, none⟩ = some (.int .u64 l[j].Reserve) ∧ w'.cell? ⟨gr, 4, none⟩ = some (.int .u64 l[j].Most) ∧ w'.cell? ⟨gr, 5, none⟩ = some (.slice A' n' c') ∧ w'.cell? ⟨gr, 6, none⟩ = some (.bool l[j].Open)) (by kernel_rfl) ?_
    have hS0 : (fun w' : World => w'.cell? ⟨gr, 0, none⟩ = some (.int .u64 l[j].Id) ∧ w'.cell? ⟨gr, 1, none⟩ = some (.int .u64 l[j].Local) ∧ w'.cell? ⟨gr, 2, none⟩ = some (.int .u64 l[j].Remote) ∧ w'.cell? ⟨gr, 3, none⟩ = some (.int .u64 l[j].Reserve) ∧ w'.cell? ⟨gr, 4, none⟩ = some (.int .u64 l[j].Most) ∧ w'.cell? ⟨gr, 5, none⟩ = some (.slice A' n' c') ∧ w'.cell? ⟨gr, 6, none⟩ = some (.bool l[j].Open)) (W1.drewN 1) := KB.out _ (bel_drewN (Below.refl W1.heap.size W1) 1)
    change wpAnyH _ _ _ _ _ 18 (Array.replicate 18 false) _ (W1.drewN 1)
    rw [show Array.replicate 18 false = #[false, false, false, false, false, false, false, false, false, false, false, false, false, false, false, false, false, false] from rfl]
    refine wpAnyH_yes 0 (some 19) (.agg #[.int .u64 l[j].Id, .int .u64 l[j].Local, .int .u64 l[j].Remote, .int .u64 l[j].Reserve, .int .u64 l[j].Most, .slice A' n' c', .bool l[j].Open]) rfl rfl (by kernel_rfl) (by kernel_rfl) (by kernel_rfl) (fun _ _ _ h => h) (by rfl) (fun w' hS => by have s0 := hS; obtain ⟨s0, s1, s2, s3, s4, s5, s6⟩ := s0; go_simp) hS0 ?_
    simp only [Act.put, List.setIfInBounds_toArray, List.set_cons_zero, List.set_cons_succ]
    refine wpAnyH_step 1 _ (by kernel_rfl) rfl (by rfl) ?_
    go_simp
    refine (HCK.out _ (Below.refl W1.heap.size W1).drew).mono ?_
    rintro e w6 ⟨rfl, hb6⟩
    have HH6 := bel_call (Below.refl W1.heap.size W1).drew hb6
    have hS6 := KB.out _ HH6
    refine ⟨hS6, ?_⟩
    try simp only [Act.put, List.setIfInBounds_toArray, List.set_cons_zero, List.set_cons_succ]
    refine wpAnyH_yes 2 (some 21) (.bool true) rfl rfl (by kernel_rfl) (by kernel_rfl) (by kernel_rfl) (fun _ _ _ h => h) (by rfl) (fun w' hS => by go_simp) hS6 ?_
    simp only [Act.put, List.setIfInBounds_toArray, List.set_cons_zero, List.set_cons_succ]
    refine wpAnyH_yes 3 (some 22) (.bool true) rfl rfl (by kernel_rfl) (by kernel_rfl) (by kernel_rfl) (fun _ _ _ h => h) (by rfl) (fun w' hS => by go_simp) hS6 ?_
    simp only [Act.put, List.setIfInBounds_toArray, List.set_cons_zero, List.set_cons_succ]
    refine wpAnyH_no 4 (some 23) rfl rfl (by kernel_rfl) (by kernel_rfl) (by kernel_rfl) (fun _ _ _ h => h) (by rfl) hS6 ?_
    simp only [Act.put, List.setIfInBounds_toArray, List.set_cons_zero, List.set_cons_succ]
    refine wpAnyH_no 5 (some 24) rfl rfl (by kernel_rfl) (by kernel_rfl) (by kernel_rfl) (fun _ _ _ h => h) (by rfl) hS6 ?_
    simp only [Act.put, List.setIfInBounds_toArray, List.set_cons_zero, List.set_cons_succ]
    refine wpAnyH_no 6 (some 25) rfl rfl (by kernel_rfl) (by kernel_rfl) (by kernel_rfl) (fun _ _ _ h => h) (by rfl) hS6 ?_
    simp only [Act.put, List.setIfInBounds_toArray, List.set_cons_zero, List.set_cons_succ]
    refine wpAnyH_no 7 (some 26) rfl rfl (by kernel_rfl) (by kernel_rfl) (by kernel_rfl) (fun _ _ _ h => h) (by rfl) hS6 ?_
    simp only [Act.put, List.setIfInBounds_toArray, List.set_cons_zero, List.set_cons_succ]
    refine wpAnyH_no 8 (some 27) rfl rfl (by kernel_rfl) (by kernel_rfl) (by kernel_rfl) (fun _ _ _ h => h) (by rfl) hS6 ?_
    simp only [Act.put, List.setIfInBounds_toArray, List.set_cons_zero, List.set_cons_succ]
    refine wpAnyH_no 9 (some 28) rfl rfl (by kernel_rfl) (by kernel_rfl) (by kernel_rfl) (fun _ _ _ h => h) (by rfl) hS6 ?_
    simp only [Act.put, List.setIfInBounds_toArray, List.set_cons_zero, List.set_cons_succ]
    refine wpAnyH_no 10 (some 29) rfl rfl (by kernel_rfl) (by kernel_rfl) (by kernel_rfl) (fun _ _ _ h => h) (by rfl) hS6 ?_
    simp only [Act.put, List.setIfInBounds_toArray, List.set_cons_zero, List.set_cons_succ]
    refine wpAnyH_no 11 (some 30) rfl rfl (by kernel_rfl) (by kernel_rfl) (by kernel_rfl) (fun _ _ _ h => h) (by rfl) hS6 ?_
    simp only [Act.put, List.setIfInBounds_toArray, List.set_cons_zero, List.set_cons_succ]
    refine wpAnyH_no 12 (some 31) rfl rfl (by kernel_rfl) (by kernel_rfl) (by kernel_rfl) (fun _ _ _ h => h) (by rfl) hS6 ?_
    simp only [Act.put, List.setIfInBounds_toArray, List.set_cons_zero, List.set_cons_succ]
    refine wpAnyH_no 13 (some 32) rfl rfl (by kernel_rfl) (by kernel_rfl) (by kernel_rfl) (fun _ _ _ h => h) (by rfl) hS6 ?_
    simp only [Act.put, List.setIfInBounds_toArray, List.set_cons_zero, List.set_cons_succ]
    refine wpAnyH_no 14 (some 33) rfl rfl (by kernel_rfl) (by kernel_rfl) (by kernel_rfl) (fun _ _ _ h => h) (by rfl) hS6 ?_
    simp only [Act.put, List.setIfInBounds_toArray, List.set_cons_zero, List.set_cons_succ]
    refine wpAnyH_no 15 (some 34) rfl rfl (by kernel_rfl) (by kernel_rfl) (by kernel_rfl) (fun _ _ _ h => h) (by rfl) hS6 ?_
    simp only [Act.put, List.setIfInBounds_toArray, List.set_cons_zero, List.set_cons_succ]
    refine wpAnyH_no 16 (some 35) rfl rfl (by kernel_rfl) (by kernel_rfl) (by kernel_rfl) (fun _ _ _ h => h) (by rfl) hS6 ?_
    simp only [Act.put, List.setIfInBounds_toArray, List.set_cons_zero, List.set_cons_succ]
    refine wpAnyH_yes 17 (some 36) (.bool true) rfl rfl (by kernel_rfl) (by kernel_rfl) (by kernel_rfl) (fun _ _ _ h => h) (by rfl) (fun w' hS => by go_simp) hS6 ?_
    simp only [Act.put, List.setIfInBounds_toArray, List.set_cons_zero, List.set_cons_succ]
    refine wpAnyH_done (by kernel_rfl) ?_ _
    go_wp2
    go_ret
    exact ⟨ret_num HE.out.symm, bel_call hba HH6⟩
  have HCE := hid hc
  rw [hc] at HCK
  clear hc
  by_cases hz : j = 0
  · have HSTEP := hid (fun h3 => pre_step hx1 HP.out HCE.out (fun k hk e => by omega) h3)
    have d2 : decide ((0 : Int) < (j : Int)) = false := by simp; omega
    have d2' : decide (0 < j) = false := by simp; omega
    clear hs hw BB hz
    subst hA
    go_upto_region 6 with (fail)
    generalize wr.alloc (Obj.cells #[.int .u64 l[j].Id, .int .u64 l[j].Local, .int .u64 l[j].Remote, .int .u64 l[j].Reserve, .int .u64 l[j].Most, .slice A' n' c', .bool l[j].Open] 26) = W1 at *
    generalize wr.heap.size = gr at *
    clear t0 t1 t2 t3 t4 t5 t6
    refine wp_region_held (S := fun w' : World => w'.cell? ⟨gr, 0, none⟩ = some (.int .u64 l[j].Id) ∧ w'.cell? ⟨gr, 1, none⟩ = some (.int .u64 l[j].Local) ∧ w'.cell? ⟨gr, 2, none⟩ = some (.int .u64 l[j].Remote) ∧ w'.cell? ⟨gr, 3, none⟩ = some (.int .u64 l[j].Reserve) ∧ w'.cell? ⟨gr, 4, none⟩ = some (.int .u64 l[j].Most) ∧ w'.cell? ⟨gr, 5, none⟩ = some (.slice A' n' c') ∧ w'.cell? ⟨gr, 6, none⟩ = some (.bool l[j].Open)) (by kernel_rfl) ?_
    have hS0 : (fun w' : World => w'.cell? ⟨gr, 0, none⟩ = some (.int .u64 l[j].Id) ∧ w'.cell? ⟨gr, 1, none⟩ = some (.int .u64 l[j].Local) ∧ w'.cell? ⟨gr, 2, none⟩ = some (.int .u64 l[j].Remote) ∧ w'.cell? ⟨gr, 3, none⟩ = some (.int .u64 l[j].Reserve) ∧ w'.cell? ⟨gr, 4, none⟩ = some (.int .u64 l[j].Most) ∧ w'.cell? ⟨gr, 5, none⟩ = some (.slice A' n' c') ∧ w'.cell? ⟨gr, 6, none⟩ = some (.bool l[j].Open)) (W1.drewN 1) := KB.out _ (bel_drewN (Below.refl W1.heap.size W1) 1)
    change wpAnyH _ _ _ _ _ 18 (Array.replicate 18 false) _ (W1.drewN 1)
    rw [show Array.replicate 18 false = #[false, false, false, false, false, false, false, false, false, false, false, false, false, false, false, false, false, false] from rfl]
    refine wpAnyH_yes 0 (some 19) (.agg #[.int .u64 l[j].Id, .int .u64 l[j].Local, .int .u64 l[j].Remote, .int .u64 l[j].Reserve, .int .u64 l[j].Most, .slice A' n' c', .bool l[j].Open]) rfl rfl (by kernel_rfl) (by kernel_rfl) (by kernel_rfl) (fun _ _ _ h => h) (by rfl) (fun w' hS => by have s0 := hS; obtain ⟨s0, s1, s2, s3, s4, s5, s6⟩ := s0; go_simp) hS0 ?_
    simp only [Act.put, List.setIfInBounds_toArray, List.set_cons_zero, List.set_cons_succ]
    refine wpAnyH_step 1 _ (by kernel_rfl) rfl (by rfl) ?_
    go_simp
    refine (HCK.out _ (Below.refl W1.heap.size W1).drew).mono ?_
    rintro e w6 ⟨rfl, hb6⟩
    have HH6 := bel_call (Below.refl W1.heap.size W1).drew hb6
    have hS6 := KB.out _ HH6
    refine ⟨hS6, ?_⟩
    try simp only [Act.put, List.setIfInBounds_toArray, List.set_cons_zero, List.set_cons_succ]
    refine wpAnyH_yes 2 (some 21) (.bool false) rfl rfl (by kernel_rfl) (by kernel_rfl) (by kernel_rfl) (fun _ _ _ h => h) (by rfl) (fun w' hS => by go_simp) hS6 ?_
    simp only [Act.put, List.setIfInBounds_toArray, List.set_cons_zero, List.set_cons_succ]
    refine wpAnyH_yes 3 (some 22) (.bool false) rfl rfl (by kernel_rfl) (by kernel_rfl) (by kernel_rfl) (fun _ _ _ h => h) (by rfl) (fun w' hS => by go_simp) hS6 ?_
    simp only [Act.put, List.setIfInBounds_toArray, List.set_cons_zero, List.set_cons_succ]
    refine wpAnyH_yes 4 (some 23) (.int .i64 j) rfl rfl (by kernel_rfl) (by kernel_rfl) (by kernel_rfl) (fun _ _ _ h => h) (by rfl) (fun w' hS => by go_simp) hS6 ?_
    simp only [Act.put, List.setIfInBounds_toArray, List.set_cons_zero, List.set_cons_succ]
    refine wpAnyH_yes 5 (some 24) (.bool false) rfl rfl (by kernel_rfl) (by kernel_rfl) (by kernel_rfl) (fun _ _ _ h => h) (by rfl) (fun w' hS => by go_simp) hS6 ?_
    simp only [Act.put, List.setIfInBounds_toArray, List.set_cons_zero, List.set_cons_succ]
    refine wpAnyH_yes 6 (some 25) (.bool false) rfl rfl (by kernel_rfl) (by kernel_rfl) (by kernel_rfl) (fun _ _ _ h => h) (by rfl) (fun w' hS => by go_simp) hS6 ?_
    simp only [Act.put, List.setIfInBounds_toArray, List.set_cons_zero, List.set_cons_succ]
    refine wpAnyH_no 7 (some 26) rfl rfl (by kernel_rfl) (by kernel_rfl) (by kernel_rfl) (fun _ _ _ h => h) (by rfl) hS6 ?_
    simp only [Act.put, List.setIfInBounds_toArray, List.set_cons_zero, List.set_cons_succ]
    refine wpAnyH_no 8 (some 27) rfl rfl (by kernel_rfl) (by kernel_rfl) (by kernel_rfl) (fun _ _ _ h => h) (by rfl) hS6 ?_
    simp only [Act.put, List.setIfInBounds_toArray, List.set_cons_zero, List.set_cons_succ]
    refine wpAnyH_no 9 (some 28) rfl rfl (by kernel_rfl) (by kernel_rfl) (by kernel_rfl) (fun _ _ _ h => h) (by rfl) hS6 ?_
    simp only [Act.put, List.setIfInBounds_toArray, List.set_cons_zero, List.set_cons_succ]
    refine wpAnyH_no 10 (some 29) rfl rfl (by kernel_rfl) (by kernel_rfl) (by kernel_rfl) (fun _ _ _ h => h) (by rfl) hS6 ?_
    simp only [Act.put, List.setIfInBounds_toArray, List.set_cons_zero, List.set_cons_succ]
    refine wpAnyH_no 11 (some 30) rfl rfl (by kernel_rfl) (by kernel_rfl) (by kernel_rfl) (fun _ _ _ h => h) (by rfl) hS6 ?_
    simp only [Act.put, List.setIfInBounds_toArray, List.set_cons_zero, List.set_cons_succ]
    refine wpAnyH_no 12 (some 31) rfl rfl (by kernel_rfl) (by kernel_rfl) (by kernel_rfl) (fun _ _ _ h => h) (by rfl) hS6 ?_
    simp only [Act.put, List.setIfInBounds_toArray, List.set_cons_zero, List.set_cons_succ]
    refine wpAnyH_no 13 (some 32) rfl rfl (by kernel_rfl) (by kernel_rfl) (by kernel_rfl) (fun _ _ _ h => h) (by rfl) hS6 ?_
    simp only [Act.put, List.setIfInBounds_toArray, List.set_cons_zero, List.set_cons_succ]
    refine wpAnyH_no 14 (some 33) rfl rfl (by kernel_rfl) (by kernel_rfl) (by kernel_rfl) (fun _ _ _ h => h) (by rfl) hS6 ?_
    simp only [Act.put, List.setIfInBounds_toArray, List.set_cons_zero, List.set_cons_succ]
    refine wpAnyH_no 15 (some 34) rfl rfl (by kernel_rfl) (by kernel_rfl) (by kernel_rfl) (fun _ _ _ h => h) (by rfl) hS6 ?_
    simp only [Act.put, List.setIfInBounds_toArray, List.set_cons_zero, List.set_cons_succ]
    refine wpAnyH_yes 16 (some 35) (.bool false) rfl rfl (by kernel_rfl) (by kernel_rfl) (by kernel_rfl) (fun _ _ _ h => h) (by rfl) (fun w' hS => by go_simp) hS6 ?_
    simp only [Act.put, List.setIfInBounds_toArray, List.set_cons_zero, List.set_cons_succ]
    refine wpAnyH_yes 17 (some 36) (.bool false) rfl rfl (by kernel_rfl) (by kernel_rfl) (by kernel_rfl) (fun _ _ _ h => h) (by rfl) (fun w' hS => by go_simp) hS6 ?_
    simp only [Act.put, List.setIfInBounds_toArray, List.set_cons_zero, List.set_cons_succ]
    refine wpAnyH_done (by kernel_rfl) ?_ _
    have QB := KB.out _ HH6
    obtain ⟨p0, p1, p2, p3, p4, p5, p6⟩ := QB
    have HBX := hid (bel_call hba HH6)
    have hs6 := HSX.out _ HH6
    have HL6 := hid hs6.len
    have hcap6 := hs6.cap
    unfold maxLen at hcap6
    go_wp2
    clear p0 p1 p2 p3 p4 p5 p6
    obtain ⟨wo, hwo⟩ : ∃ z, z = wr := ⟨_, rfl⟩
    subst hwo
    go_loopw [40] (fun i ws => ∃ m : Nat, m ≤ n' ∧ i = .int .i64 m ∧ Hid (∀ i (hi : i < l[j].Holds.length), i < m → whereF (l.take j) l[j].Holds[i].Id = none) ∧ Below w6.heap.size w6 ws) (fun i _ => n' - (intOf i).toNat)
    case atStart => exact ⟨0, Nat.zero_le _, rfl, hid fun i hi h => absurd h (by omega), Below.refl _ _⟩
    case round =>
    obtain ⟨m, hm, rfl, HQ, hbs⟩ := hrel
    by_cases hl : m < n'
    · obtain ⟨b2, f2, hx2, rfl, hb2, u1, u2, -⟩ := hld_at (Sl.call hs6 hbs) hl
      have hbn := bel_alloc (Below.refl wr.heap.size wr) (Obj.cells #[.int .u64 l[j].Holds[m].Id, .int .u64 l[j].Holds[m].N] 41)
      have BH := BoxH.new wr l[j].Holds[m]
      have HB7 := bel_call (bel_call HBX.out hbs) hbn
      have HBN := hid (bel_call hbs hbn)
      have HHW := hid (fun (W : World) (h' : Below (wr.alloc (Obj.cells #[.int .u64 l[j].Holds[m].Id, .int .u64 l[j].Holds[m].N] 41)).heap.size (wr.alloc (Obj.cells #[.int .u64 l[j].Holds[m].Id, .int .u64 l[j].Holds[m].N] 41)) W) => refWhereI_any _ j k (l.take j) l[j].Holds[m].Id W (Sl.upto (HSL.out W (bel_call HB7 h')) (i := j) (by omega)))
      have HBad := hid (fun i (hf : FindW (l.take j) l[j].Holds[m].Id i) (h0 : 0 ≤ i) => lg_bad3 hx1 (List.getElem_mem hx2) (by
        rcases hf with ⟨q, hq, -, hw⟩ | ⟨rfl, -⟩
        · rw [hw]; simp
        · omega))
      have HNext := hid (fun (hf : FindW (l.take j) l[j].Holds[m].Id (-1)) => (show ∀ i (hi : i < l[j].Holds.length), i < m + 1 → whereF (l.take j) l[j].Holds[i].Id = none from fun i hi h => by
        by_cases hij : i < m
        · exact HQ.out i hi hij
        · have e : i = m := by omega
          subst e
          rcases hf with ⟨q, hq, h2, -⟩ | ⟨-, h2⟩
          · omega
          · exact h2))
      go_upto_region 11 with (fail)
      generalize hgd : wr.alloc (Obj.cells #[.int .u64 l[j].Holds[m].Id, .int .u64 l[j].Holds[m].N] 41) = W7 at *
      generalize wr.heap.size = gh at *
      clear hgd
      have KH := hid (fun (W : World) (h' : Below W7.heap.size W7 W) => (BH.call h').c0)
      have HH := Below.refl W7.heap.size W7
      have r0 := KH.out _ HH
      go_region_held3 (fun W => W.cell? ⟨gh, 0, none⟩ = some (.int .u64 l[j].Holds[m].Id))
        (first | exact KH.out _ HH | exact KH.out _ HH.drew | exact KH.out _ HH8)
        (first
          | (go_at_call 55; (with_reducible refine (HHW.out _ HH.drew).mono ?_); rintro e w8 ⟨i8, rfl, hf8, hb8⟩; have HH8 := bel_call HH.drew hb8)
          | (go_at_call 55; (with_reducible refine (HHW.out _ HH).mono ?_); rintro e w8 ⟨i8, rfl, hf8, hb8⟩; have HH8 := bel_call HH hb8))
      all_goals
        rcases hf8 with ⟨q8, hq8, rfl, hw8⟩ | ⟨rfl, hw8⟩
        · have HE := hid (HBad.out _ (.inl ⟨q8, hq8, rfl, hw8⟩) (by omega))
          have d8 : decide ((0 : Int) ≤ (q8 : Int)) = true := by simp
          clear hw8
          go_wp2
          go_ret
          exact ⟨ret_num HE.out.symm, bel_call HB7 HH8⟩
        · have HN2 := hid (HNext.out (.inr ⟨rfl, hw8⟩))
          clear hw8
          go_wp2
          go_roundw
          case rel => exact ⟨m + 1, by omega, by go_num, HN2, bel_call HBN.out HH8⟩
          case measure => simp [intOf]; omega
    · have HN3 := hid (HSTEP.out (fun x hx => by
        obtain ⟨i, hi, rfl⟩ := List.getElem_of_mem hx
        exact HQ.out i hi (by rw [HL6.out] at hi; omega)))
      have HBE := hid (bel_call HBX.out hbs)
      go_wp2
      go_roundw
      case rel => exact ⟨j + 1, by omega, by go_num, HN3, HBE.out⟩
      case measure => simp [intOf]; omega
  · obtain ⟨q, hq⟩ : ∃ q : Nat, q + 1 = j := ⟨j - 1, by omega⟩
    have hqn : (j : Int) - 1 = (q : Int) := by omega
    have hwq : IntKind.i64.wrap (q : Int) = (q : Int) := IntWalk.i64_in _ (by omega)
    have d2 : decide ((0 : Int) < (j : Int)) = true := by simp; omega
    have d2' : decide (0 < j) = true := by simp; omega
    obtain ⟨b2, o2, -, -, -, hx2, hA2, hb2, u0, -⟩ := chn_at (Sl.call h hbel) (show q < n by omega)
    rw [hA] at hA2
    injection hA2 with hA2
    injection hA2 with e1 e2
    subst e1 e2
    have hql : q < j := by omega
    have iq : (0 : Int) ≤ (q : Int) ∧ (q : Int) < (n : Int) := by omega
    have KU := hid (fun (W : World) (h' : Below (wr.alloc (Obj.cells #[.int .u64 l[j].Id, .int .u64 l[j].Local, .int .u64 l[j].Remote, .int .u64 l[j].Reserve, .int .u64 l[j].Most, .slice A' n' c', .bool l[j].Open] 26)).heap.size (wr.alloc (Obj.cells #[.int .u64 l[j].Id, .int .u64 l[j].Local, .int .u64 l[j].Remote, .int .u64 l[j].Reserve, .int .u64 l[j].Most, .slice A' n' c', .bool l[j].Open] 26)) W) => ((bel_call hbw h').cell (p := ⟨b1, o1 + q * 7, none⟩) hb1).trans u0)
    by_cases hup : l[q].Id < l[j].Id
    · have d3 : decide (l[j].Id ≤ l[q].Id) = false := by simp; omega
      have HSTEP := hid (fun h3 => pre_step hx1 HP.out HCE.out (fun k' hk' e => by
        have : k' = q := by omega
        subst this
        exact hup) h3)
      clear hs hw BB hz hup u0
      subst hA
      go_upto_region 6 with (fail)
      generalize wr.alloc (Obj.cells #[.int .u64 l[j].Id, .int .u64 l[j].Local, .int .u64 l[j].Remote, .int .u64 l[j].Reserve, .int .u64 l[j].Most, .slice A' n' c', .bool l[j].Open] 26) = W1 at *
      generalize wr.heap.size = gr at *
      clear t0 t1 t2 t3 t4 t5 t6
      have HH := Below.refl W1.heap.size W1
      obtain ⟨r0, r1, r2, r3, r4, r5, r6⟩ := KB.out _ HH
      have ru := KU.out _ HH
      go_region_held3 (fun w' => w'.cell? ⟨b1, o1 + q * 7, none⟩ = some (.int .u64 l[q].Id) ∧ w'.cell? ⟨gr, 0, none⟩ = some (.int .u64 l[j].Id) ∧ w'.cell? ⟨gr, 1, none⟩ = some (.int .u64 l[j].Local) ∧ w'.cell? ⟨gr, 2, none⟩ = some (.int .u64 l[j].Remote) ∧ w'.cell? ⟨gr, 3, none⟩ = some (.int .u64 l[j].Reserve) ∧ w'.cell? ⟨gr, 4, none⟩ = some (.int .u64 l[j].Most) ∧ w'.cell? ⟨gr, 5, none⟩ = some (.slice A' n' c') ∧ w'.cell? ⟨gr, 6, none⟩ = some (.bool l[j].Open))
        (first | exact ⟨KU.out _ HH, KB.out _ HH⟩ | exact ⟨KU.out _ HH.drew, KB.out _ HH.drew⟩ | exact ⟨KU.out _ HH6, KB.out _ HH6⟩)
        (first
          | (go_at_call 43; (with_reducible refine (HCK.out _ HH.drew).mono ?_); rintro e w6 ⟨rfl, hb6⟩; have HH6 := bel_call HH.drew hb6)
          | (go_at_call 43; (with_reducible refine (HCK.out _ HH).mono ?_); rintro e w6 ⟨rfl, hb6⟩; have HH6 := bel_call HH hb6))
      clear r0 r1 r2 r3 r4 r5 r6 ru
      have QB := KB.out _ HH6
      obtain ⟨p0, p1, p2, p3, p4, p5, p6⟩ := QB
      have HBX := hid (bel_call hba HH6)
      have hs6 := HSX.out _ HH6
      have HL6 := hid hs6.len
      have hcap6 := hs6.cap
      unfold maxLen at hcap6
      go_wp2
      clear p0 p1 p2 p3 p4 p5 p6
      obtain ⟨wo, hwo⟩ : ∃ z, z = wr := ⟨_, rfl⟩
      subst hwo
      go_loopw [40] (fun i ws => ∃ m : Nat, m ≤ n' ∧ i = .int .i64 m ∧ Hid (∀ i (hi : i < l[j].Holds.length), i < m → whereF (l.take j) l[j].Holds[i].Id = none) ∧ Below w6.heap.size w6 ws) (fun i _ => n' - (intOf i).toNat)
      case atStart => exact ⟨0, Nat.zero_le _, rfl, hid fun i hi h => absurd h (by omega), Below.refl _ _⟩
      case round =>
      obtain ⟨m, hm, rfl, HQ, hbs⟩ := hrel
      by_cases hl : m < n'
      · obtain ⟨b2, f2, hx2, rfl, hb2, u1, u2, -⟩ := hld_at (Sl.call hs6 hbs) hl
        have hbn := bel_alloc (Below.refl wr.heap.size wr) (Obj.cells #[.int .u64 l[j].Holds[m].Id, .int .u64 l[j].Holds[m].N] 41)
        have BH := BoxH.new wr l[j].Holds[m]
        have HB7 := bel_call (bel_call HBX.out hbs) hbn
        have HBN := hid (bel_call hbs hbn)
        have HHW := hid (fun (W : World) (h' : Below (wr.alloc (Obj.cells #[.int .u64 l[j].Holds[m].Id, .int .u64 l[j].Holds[m].N] 41)).heap.size (wr.alloc (Obj.cells #[.int .u64 l[j].Holds[m].Id, .int .u64 l[j].Holds[m].N] 41)) W) => refWhereI_any _ j k (l.take j) l[j].Holds[m].Id W (Sl.upto (HSL.out W (bel_call HB7 h')) (i := j) (by omega)))
        have HBad := hid (fun i (hf : FindW (l.take j) l[j].Holds[m].Id i) (h0 : 0 ≤ i) => lg_bad3 hx1 (List.getElem_mem hx2) (by
          rcases hf with ⟨q, hq, -, hw⟩ | ⟨rfl, -⟩
          · rw [hw]; simp
          · omega))
        have HNext := hid (fun (hf : FindW (l.take j) l[j].Holds[m].Id (-1)) => (show ∀ i (hi : i < l[j].Holds.length), i < m + 1 → whereF (l.take j) l[j].Holds[i].Id = none from fun i hi h => by
          by_cases hij : i < m
          · exact HQ.out i hi hij
          · have e : i = m := by omega
            subst e
            rcases hf with ⟨q, hq, h2, -⟩ | ⟨-, h2⟩
            · omega
            · exact h2))
        go_upto_region 11 with (fail)
        generalize hgd : wr.alloc (Obj.cells #[.int .u64 l[j].Holds[m].Id, .int .u64 l[j].Holds[m].N] 41) = W7 at *
        generalize wr.heap.size = gh at *
        clear hgd
        have KH := hid (fun (W : World) (h' : Below W7.heap.size W7 W) => (BH.call h').c0)
        have HH := Below.refl W7.heap.size W7
        have r0 := KH.out _ HH
        go_region_held3 (fun W => W.cell? ⟨gh, 0, none⟩ = some (.int .u64 l[j].Holds[m].Id))
          (first | exact KH.out _ HH | exact KH.out _ HH.drew | exact KH.out _ HH8)
          (first
            | (go_at_call 55; (with_reducible refine (HHW.out _ HH.drew).mono ?_); rintro e w8 ⟨i8, rfl, hf8, hb8⟩; have HH8 := bel_call HH.drew hb8)
            | (go_at_call 55; (with_reducible refine (HHW.out _ HH).mono ?_); rintro e w8 ⟨i8, rfl, hf8, hb8⟩; have HH8 := bel_call HH hb8))
        all_goals
          rcases hf8 with ⟨q8, hq8, rfl, hw8⟩ | ⟨rfl, hw8⟩
          · have HE := hid (HBad.out _ (.inl ⟨q8, hq8, rfl, hw8⟩) (by omega))
            have d8 : decide ((0 : Int) ≤ (q8 : Int)) = true := by simp
            clear hw8
            go_wp2
            go_ret
            exact ⟨ret_num HE.out.symm, bel_call HB7 HH8⟩
          · have HN2 := hid (HNext.out (.inr ⟨rfl, hw8⟩))
            clear hw8
            go_wp2
            go_roundw
            case rel => exact ⟨m + 1, by omega, by go_num, HN2, bel_call HBN.out HH8⟩
            case measure => simp [intOf]; omega
      · have HN3 := hid (HSTEP.out (fun x hx => by
          obtain ⟨i, hi, rfl⟩ := List.getElem_of_mem hx
          exact HQ.out i hi (by rw [HL6.out] at hi; omega)))
        have HBE := hid (bel_call HBX.out hbs)
        go_wp2
        go_roundw
        case rel => exact ⟨j + 1, by omega, by go_num, HN3, HBE.out⟩
        case measure => simp [intOf]; omega
    · have d3 : decide (l[j].Id ≤ l[q].Id) = true := by simp; omega
      have HE := hid (lg_bad2 hx1 hql (by omega))
      clear hs hw BB hz hup u0
      subst hA
      go_upto_region 6 with (fail)
      generalize wr.alloc (Obj.cells #[.int .u64 l[j].Id, .int .u64 l[j].Local, .int .u64 l[j].Remote, .int .u64 l[j].Reserve, .int .u64 l[j].Most, .slice A' n' c', .bool l[j].Open] 26) = W1 at *
      generalize wr.heap.size = gr at *
      clear t0 t1 t2 t3 t4 t5 t6
      have HH := Below.refl W1.heap.size W1
      obtain ⟨r0, r1, r2, r3, r4, r5, r6⟩ := KB.out _ HH
      have ru := KU.out _ HH
      go_region_held3 (fun w' => w'.cell? ⟨b1, o1 + q * 7, none⟩ = some (.int .u64 l[q].Id) ∧ w'.cell? ⟨gr, 0, none⟩ = some (.int .u64 l[j].Id) ∧ w'.cell? ⟨gr, 1, none⟩ = some (.int .u64 l[j].Local) ∧ w'.cell? ⟨gr, 2, none⟩ = some (.int .u64 l[j].Remote) ∧ w'.cell? ⟨gr, 3, none⟩ = some (.int .u64 l[j].Reserve) ∧ w'.cell? ⟨gr, 4, none⟩ = some (.int .u64 l[j].Most) ∧ w'.cell? ⟨gr, 5, none⟩ = some (.slice A' n' c') ∧ w'.cell? ⟨gr, 6, none⟩ = some (.bool l[j].Open))
        (first | exact ⟨KU.out _ HH, KB.out _ HH⟩ | exact ⟨KU.out _ HH.drew, KB.out _ HH.drew⟩ | exact ⟨KU.out _ HH6, KB.out _ HH6⟩)
        (first
          | (go_at_call 43; (with_reducible refine (HCK.out _ HH.drew).mono ?_); rintro e w6 ⟨rfl, hb6⟩; have HH6 := bel_call HH.drew hb6)
          | (go_at_call 43; (with_reducible refine (HCK.out _ HH).mono ?_); rintro e w6 ⟨rfl, hb6⟩; have HH6 := bel_call HH hb6))
      all_goals
        clear r0 r1 r2 r3 r4 r5 r6 ru
        go_wp2
        go_ret
        exact ⟨ret_num HE.out.symm, bel_call hba HH6⟩
end Go.Proofs.Ytanlpcndbfmkiaa
namespace Go.Proofs.Ytanlpcndbfmkiaa
open Go.RowKit Go.WalkArith

theorem lg_is {l : List Chn} : (LgOk l ∧ lgE l = 0) ∨ (¬ LgOk l ∧ lgE l = 1) := by
  by_cases g : LgOk l
  · exact .inl ⟨g, if_pos g⟩
  · exact .inr ⟨g, if_neg g⟩
theorem lg_holds {l : List Chn} (g : LgOk l) {c : Chn} (hc : c ∈ l) : c.Holds.length ≤ 1000 := by
  have := (g.2.1 c hc)
  unfold ChOk at this
  omega

set_option maxRecDepth 100000 in
set_option maxHeartbeats 2000000 in
theorem refGet10_any (A : Option Addr) (n k : Nat) (l : List Chn) (id : Int) (w : World) (h : Sl lay_Channel w (· < w.heap.size) A n k l) :
    Calls Try.prog 24 #[.slice A n k, .int .u64 id] w fun e w' => ∃ v, e = .returned (.tuple #[v, .int .i64 (gtE l id)]) ∧ OwnC w' w.heap.size v (gtC l id) ∧ Below w.heap.size w w' := by
  have HL := hid h.len
  have hcap := h.cap
  unfold maxLen at hcap
  have hb0 : Below w.heap.size w (w.alloc (Obj.cells #[.int .u64 0, .int .u64 0, .int .u64 0, .int .u64 0, .int .u64 0, .slice none 0 0, .bool false] 26)) := bel_alloc (Below.refl _ _) _
  have BR : BoxC (w.alloc (Obj.cells #[.int .u64 0, .int .u64 0, .int .u64 0, .int .u64 0, .int .u64 0, .slice none 0 0, .bool false] 26)) w.heap.size zeroCh none 0 0 := BoxC.new w zeroCh none 0 0
  have hz0 : (w.alloc (Obj.cells #[.int .u64 0, .int .u64 0, .int .u64 0, .int .u64 0, .int .u64 0, .slice none 0 0, .bool false] 26)).heap.size = w.heap.size + 1 := by simp
  have HSL := hid (fun (W : World) (h' : Below w.heap.size w W) => Sl.call h h')
  go_enter Try.func24, Try.ntmps24
  go_upto_region 1 with (fail)
  generalize w.alloc (Obj.cells #[.int .u64 0, .int .u64 0, .int .u64 0, .int .u64 0, .int .u64 0, .slice none 0 0, .bool false] 26) = W0 at *
  have HZ := hid hz0
  clear hz0
  go_wp2_with fail
  refine (refCheck10_any A n k l W0 (HSL.out _ hb0)).mono ?_
  rcases lg_is (l := l) with ⟨g, e⟩ | ⟨g, e⟩
  rotate_left
  · rw [e]
    have HE := hid (show gtE l id = 1 ∧ gtC l id = zeroCh from ⟨if_neg g, if_neg g⟩)
    clear e g
    rintro e w1 ⟨rfl, hb1⟩
    have BR1 := BR.call hb1
    have HB1 := bel_call hb0 hb1
    have B9 := hid (BR1.set zeroCh none 0 0)
    have HB9 := hid (Below.setBox HB1 (g := w.heap.size) (by omega) zeroCh none 0 0)
    obtain ⟨z0, z1, z2, z3, z4, z5, z6⟩ := BR1.all
    have f0 := BR1.f 0
    have f1 := BR1.f 1
    have f2 := BR1.f 2
    have f3 := BR1.f 3
    have f4 := BR1.f 4
    have f5 := BR1.f 5
    have f6 := BR1.f 6
    go_wp2
    refine bodyPost_ret_by (results_ct rfl _ _ w.heap.size 0 rfl [.int .u64 0, .int .u64 0, .int .u64 0, .int .u64 0, .int .u64 0, .slice none 0 0, .bool false] _ (range7 B9.out) Try.underlying26 rfl (by kernel_rfl)) rfl ?_
    exact ⟨_, by rw [HE.out.1]; rfl, by rw [HE.out.2]; exact ⟨_, rfl, OwnL.nil _ _ _ _ _⟩, HB9.out⟩
  rw [e]
  have HG := hid g
  clear e g
  rintro e w1 ⟨rfl, hb1⟩
  have BR1 := BR.call hb1
  have HB1 := bel_call hb0 hb1
  have HX1 := hb1.size
  clear hb1 BR
  go_wp2_with fail
  refine (refFind10_any A n k l id w1 (HSL.out _ HB1)).mono ?_
  rintro e w2 ⟨i, rfl, hf, hb2⟩
  have BR2 := BR1.call hb2
  have HB2 := bel_call HB1 hb2
  have HX2 := Nat.le_trans HX1 hb2.size
  clear hb2 BR1 HB1
  rcases hf with ⟨j, hj, rfl, hc⟩ | ⟨rfl, hc⟩
  rotate_left
  · have HE := hid (gt_no HG.out hc)
    clear hc
    have B9 := hid (BR2.set zeroCh none 0 0)
    have HB9 := hid (Below.setBox HB2 (g := w.heap.size) (by omega) zeroCh none 0 0)
    obtain ⟨z0, z1, z2, z3, z4, z5, z6⟩ := BR2.all
    have f0 := BR2.f 0
    have f1 := BR2.f 1
    have f2 := BR2.f 2
    have f3 := BR2.f 3
    have f4 := BR2.f 4
    have f5 := BR2.f 5
    have f6 := BR2.f 6
    go_wp2
    refine bodyPost_ret_by (results_ct rfl _ _ w.heap.size 0 rfl [.int .u64 0, .int .u64 0, .int .u64 0, .int .u64 0, .int .u64 0, .slice none 0 0, .bool false] _ (range7 B9.out) Try.underlying26 rfl (by kernel_rfl)) rfl ?_
    exact ⟨_, by rw [HE.out.1]; rfl, by rw [HE.out.2]; exact ⟨_, rfl, OwnL.nil _ _ _ _ _⟩, HB9.out⟩
  have HE := hid (show gtE l id = 0 ∧ gtC l id = l[j] from by
    have := gt_of HG.out (List.getElem_mem hj)
    rw [(chanF_some hc).2] at this
    exact this)
  have hjn : j < n := by rw [← HL.out]; exact hj
  have d0 : decide ((j : Int) < 0) = false := by simp
  obtain ⟨b1, o1, A', n', c', hx1, rfl, hb1', t0, t1, t2, t3, t4, t5, t6, hw, hs⟩ := chn_at (HSL.out _ HB2) hjn
  have HCP := hid (refCopy9_any _ l[j] w2 (rep_Channel.2 ⟨A', n', c', rfl, hw, hs⟩) (lg_holds HG.out (List.getElem_mem hj)))
  clear hc hw hs
  go_wp2_with fail
  refine HCP.out.mono ?_
  rintro e w3 ⟨v, rfl, hv, hb3⟩
  obtain ⟨u, rfl, ho3⟩ := hv
  obtain ⟨A3, n3, c3, rfl, hs3⟩ := ho3.read
  have BR3 := BR2.call hb3
  have HB3 := bel_call HB2 hb3
  have HX3 : w.heap.size + 1 ≤ w2.heap.size := by rw [← HZ.out]; exact HX2
  clear hb3 BR2 HB2 hs3 t0 t1 t2 t3 t4 t5 t6
  have HO3 := hid ho3
  clear ho3
  have B9 := hid (BR3.set l[j] A3 n3 c3)
  have HB9 := hid (Below.setBox HB3 (g := w.heap.size) (by omega) l[j] A3 n3 c3)
  have HO9 := hid ((OwnL.setBox HO3.out (g := w.heap.size) (by omega) l[j] A3 n3 c3).lows (base' := w.heap.size) (lo' := w.heap.size) (by omega) (by omega))
  obtain ⟨z0, z1, z2, z3, z4, z5, z6⟩ := BR3.all
  have f0 := BR3.f 0
  have f1 := BR3.f 1
  have f2 := BR3.f 2
  have f3 := BR3.f 3
  have f4 := BR3.f 4
  have f5 := BR3.f 5
  have f6 := BR3.f 6
  go_wp2
  refine bodyPost_ret_by (results_ct rfl _ _ w.heap.size 0 rfl [.int .u64 l[j].Id, .int .u64 l[j].Local, .int .u64 l[j].Remote, .int .u64 l[j].Reserve, .int .u64 l[j].Most, .slice A3 n3 c3, .bool l[j].Open] _ (range7 B9.out) Try.underlying26 rfl (by kernel_rfl)) rfl ?_
  exact ⟨_, by rw [HE.out.1]; rfl, by rw [HE.out.2]; exact ⟨_, rfl, HO9.out⟩, HB9.out⟩

set_option maxRecDepth 100000 in
set_option maxHeartbeats 2000000 in
theorem refWhere10_any (A : Option Addr) (n k : Nat) (l : List Chn) (hold : Int) (w : World) (h : Sl lay_Channel w (· < w.heap.size) A n k l) :
    Calls Try.prog 26 #[.slice A n k, .int .u64 hold] w fun e w' => e = .returned (.tuple #[.int .u64 (whV l hold), .int .i64 (whE l hold)]) ∧ Below w.heap.size w w' := by
  have HL := hid h.len
  have HSL := hid (fun (W : World) (h' : Below w.heap.size w W) => Sl.call h h')
  go_enter Try.func26, Try.ntmps26
  go_wp2_with fail
  refine (refCheck10_any A n k l w (HSL.out _ (Below.refl _ _))).mono ?_
  rcases lg_is (l := l) with ⟨g, e⟩ | ⟨g, e⟩
  rotate_left
  · rw [e]
    have HE := hid (show whE l hold = 1 ∧ whV l hold = 0 from ⟨if_neg g, if_neg g⟩)
    clear e g
    rintro e w1 ⟨rfl, hb1⟩
    go_wp2
    go_ret2
    exact ⟨by rw [HE.out.1, HE.out.2]; rfl, hb1⟩
  rw [e]
  have HG := hid g
  clear e g
  rintro e w1 ⟨rfl, hb1⟩
  go_wp2_with fail
  refine (refWhereI_any A n k l hold w1 (HSL.out _ hb1)).mono ?_
  rintro e w2 ⟨i, rfl, hf, hb2⟩
  have HB2 := bel_call hb1 hb2
  clear hb2 hb1
  rcases hf with ⟨j, hj, rfl, hc⟩ | ⟨rfl, hc⟩
  rotate_left
  · have HE := hid (wh_none HG.out (whereF_none hc))
    clear hc
    go_wp2
    go_ret2
    exact ⟨by rw [HE.out.1, HE.out.2]; rfl, HB2⟩
  have HE := hid (wh_of HG.out (List.getElem_mem hj) (whereF_some hc).2)
  have hjn : j < n := by rw [← HL.out]; exact hj
  have d0 : decide ((j : Int) < 0) = false := by simp
  obtain ⟨b1, o1, A', n', c', hx1, rfl, hb1', t0, -⟩ := chn_at (HSL.out _ HB2) hjn
  clear hc
  go_wp2
  go_ret2
  exact ⟨by rw [HE.out.1, HE.out.2]; rfl, HB2⟩

theorem lg_take {l : List Chn} (g : LgOk l) (hw : ChnsWf l) (j : Nat) : LgOk (l.take j) :=
  ⟨by rw [List.length_take]; have := g.1; omega, fun c hc => g.2.1 c (List.mem_of_mem_take hc), g.2.2.1.sublist (List.take_sublist _ _), g.2.2.2.1.sublist (List.take_sublist _ _), by
    have h1 := (sum_take_bd hw j).2
    have h2 := g.2.2.2.2
    show sumM ((l.take j).map aaV) ≤ mMax
    omega⟩
theorem ours_take {l : List Chn} {j : Nat} (hj : j < l.length) : ourS (l.take (j + 1)) = ourS (l.take j) + (if l[j].Open = true then l[j].Local else 0) ∧ heldS (l.take (j + 1)) = heldS (l.take j) + heldN l[j] := by
  unfold ourS heldS
  rw [List.take_succ_eq_append_getElem hj, List.map_append, List.map_append, sumM_append, sumM_append]
  simp [sumM]

set_option maxRecDepth 100000 in
set_option maxHeartbeats 2000000 in
theorem refOurs10_any (A : Option Addr) (n k : Nat) (l : List Chn) (w : World) (h : Sl lay_Channel w (· < w.heap.size) A n k l) :
    Calls Try.prog 28 #[.slice A n k] w fun e w' => e = .returned (.tuple #[.int .u64 (oursN l), .int .u64 (oursH l), .int .i64 (lgE l)]) ∧ Below w.heap.size w w' := by
  have HL := hid h.len
  have hcap := h.cap
  unfold maxLen at hcap
  have HSL := hid (fun (W : World) (h' : Below w.heap.size w W) => Sl.call h h')
  have hwl := sl_chns h
  go_enter Try.func28, Try.ntmps28
  go_wp2_with fail
  refine (refCheck10_any A n k l w (HSL.out _ (Below.refl _ _))).mono ?_
  rcases lg_is (l := l) with ⟨g, e⟩ | ⟨g, e⟩
  rotate_left
  · rw [e]
    have HE := hid (show oursN l = 0 ∧ oursH l = 0 ∧ lgE l = 1 from ⟨if_neg g, if_neg g, e⟩)
    clear e g
    rintro e w1 ⟨rfl, hb1⟩
    go_wp2
    go_ret3
    exact ⟨by rw [HE.out.1, HE.out.2.1]; first | rfl | (rw [HE.out.2.2]; rfl), hb1⟩
  rw [e]
  have HE := hid (show oursN l = ourS l ∧ oursH l = heldS l ∧ lgE l = 0 from ⟨if_pos g, if_pos g, e⟩)
  have HBD := hid (fun j => ours_bd (lg_take g hwl j) (fun c hc => hwl c (List.mem_of_mem_take hc)))
  have HCK := hid (fun c hc => show heV c = heldN c from if_pos (g.2.1 c hc))
  have hm : mMax = 4611686018427387904 := rfl
  clear e g
  rintro e w1 ⟨rfl, hb1⟩
  go_wp2
  go_loopw [5, 6, 16] (fun a b i wr => ∃ j : Nat, j ≤ n ∧ i = .int .i64 j ∧ a = .int .u64 (ourS (l.take j)) ∧ b = .int .u64 (heldS (l.take j)) ∧ Below w.heap.size w wr) (fun _ _ i _ => n - (intOf i).toNat)
  case atStart => exact ⟨0, Nat.zero_le _, rfl, by simp [ourS, sumM], by simp [heldS, sumM], hb1⟩
  case round =>
  obtain ⟨j, hj, rfl, rfl, rfl, hbel⟩ := hrel
  by_cases hlt : j < n
  rotate_left
  · have HT := hid (show l.take j = l from List.take_of_length_le (by rw [HL.out]; omega))
    rw [HT.out]
    go_wp2
    go_ret3
    exact ⟨by rw [HE.out.1, HE.out.2.1]; first | rfl | (rw [HE.out.2.2]; rfl), hbel⟩
  obtain ⟨b1, o1, A', n', c', hx1, rfl, hb1', t0, t1, t2, t3, t4, t5, t6, hw, hs⟩ := chn_at (HSL.out _ hbel) hlt
  have hba := bel_alloc (Below.refl wr.heap.size wr) (Obj.cells #[.int .u64 l[j].Id, .int .u64 l[j].Local, .int .u64 l[j].Remote, .int .u64 l[j].Reserve, .int .u64 l[j].Most, .slice A' n' c', .bool l[j].Open] 26)
  have HCH := hid (refHeld9_any _ l[j] _ (chan_in hw hs hba))
  have BB := BoxC.new wr l[j] A' n' c'
  obtain ⟨s1, s2⟩ := ours_take hx1
  have S1 := hid s1
  have S2 := hid s2
  obtain ⟨d1, d2, d3⟩ := HBD.out j
  obtain ⟨d4, d5, d6⟩ := HBD.out (j + 1)
  rw [s1, s2] at d6
  rw [s1] at d4
  rw [s2] at d5
  have hhv := HCK.out l[j] (List.getElem_mem hx1)
  rw [hhv] at HCH
  generalize chE l[j] = ce at *
  obtain ⟨av, hav⟩ : ∃ z, ourS (l.take j) = z := ⟨_, rfl⟩
  obtain ⟨bv, hbv⟩ : ∃ z, heldS (l.take j) = z := ⟨_, rfl⟩
  obtain ⟨xv, hxv⟩ : ∃ z, heldN l[j] = z := ⟨_, rfl⟩
  rw [hav] at d1 d3 d4 d6 S1 ⊢
  rw [hbv] at d2 d3 d5 d6 S2 ⊢
  rw [hxv] at d5 d6 HCH S2
  have hl0 := bounds_u64 hw.loc
  clear hav hbv hxv hhv s1 s2 hw hs
  have w1' : IntKind.u64.wrap (bv + xv) = bv + xv := IntWalk.u64_in _ (by split at d6 <;> omega)
  have BA := hid BB
  clear BB
  obtain ⟨op, hop⟩ : ∃ z, l[j].Open = z := ⟨_, rfl⟩
  rw [hop] at S1 d4 d6
  have HOP := hid hop
  cases op with
  | true =>
    rw [if_pos rfl] at S1 d4 d6
    have w2' : IntKind.u64.wrap (av + l[j].Local) = av + l[j].Local := IntWalk.u64_in _ (by omega)
    clear hop
    go_wp2_with fail
    refine HCH.out.mono ?_
    rintro e w5 ⟨rfl, hb5⟩
    have HB5 := bel_call (bel_call hbel hba) hb5
    obtain ⟨p0, p1, p2, p3, p4, p5, p6⟩ := (BA.out.call hb5).all
    rw [HOP.out] at p6
    go_wp2
    go_roundw
    case rel => exact ⟨j + 1, by omega, by go_num, by rw [S1.out], by rw [S2.out], HB5⟩
    case measure => simp [intOf]; omega
  | false =>
    rw [if_neg (by decide)] at S1 d4 d6
    clear hop
    go_wp2_with fail
    refine HCH.out.mono ?_
    rintro e w5 ⟨rfl, hb5⟩
    have HB5 := bel_call (bel_call hbel hba) hb5
    obtain ⟨p0, p1, p2, p3, p4, p5, p6⟩ := (BA.out.call hb5).all
    rw [HOP.out] at p6
    go_wp2
    go_roundw
    case rel => exact ⟨j + 1, by omega, by go_num, by rw [S1.out, Int.add_zero], by rw [S2.out], HB5⟩
    case measure => simp [intOf]; omega
end Go.Proofs.Ytanlpcndbfmkiaa
namespace Go.Proofs.Ytanlpcndbfmkiaa
open Go.RowKit Go.WalkArith

theorem one_exit1 {l : List Chn} {id : Int} {e : Chn → Int} {d : Chn → Chn} (h : gtE l id ≠ 0) : oneE l id e = gtE l id ∧ oneL l id e d = [] := by
  have : oneE l id e = gtE l id := if_pos h
  exact ⟨this, if_neg (by rw [this]; exact h)⟩
theorem one_exit2 {l : List Chn} {id : Int} {e : Chn → Int} {d : Chn → Chn} (h : gtE l id = 0) (h2 : e (gtC l id) ≠ 0) : oneE l id e = e (gtC l id) ∧ oneL l id e d = [] := by
  have : oneE l id e = e (gtC l id) := if_neg (by simpa using h)
  exact ⟨this, if_neg (by rw [this]; exact h2)⟩
theorem one_in {l : List Chn} {id : Int} {e : Chn → Int} {d : Chn → Chn} (h : gtE l id = 0) (h2 : e (gtC l id) = 0) : oneE l id e = 0 ∧ oneL l id e d = withC l (d (gtC l id)) := by
  have : oneE l id e = e (gtC l id) := if_neg (by simpa using h)
  exact ⟨by rw [this, h2], if_pos (by rw [this]; exact h2)⟩
theorem gt_wf {l : List Chn} (hw : ChnsWf l) (id : Int) : ChnWf (gtC l id) ∧ HldsWf (gtC l id).Holds := by
  by_cases q : gtE l id = 0
  · exact hw _ (gt_is q).2.2.1
  · have : gtC l id = zeroCh := by
      unfold gtC
      by_cases g : LgOk l
      · rw [if_pos g]
        cases hf : chanF l id with
        | none => rfl
        | some z => exact absurd (by unfold gtE; rw [if_pos g, hf]) q
      · rw [if_neg g]
    rw [this]
    exact ⟨zero_wf, fun x hx => by simp [zeroCh] at hx⟩
theorem ok_holds {c : Chn} (h : ChOk c) : c.Holds.length ≤ 1000 := by
  unfold ChOk at h
  omega

set_option maxRecDepth 100000 in
set_option maxHeartbeats 4000000 in
theorem refClose10_any (A : Option Addr) (n k : Nat) (l : List Chn) (id : Int) (w : World) (h : Sl lay_Channel w (· < w.heap.size) A n k l) :
    Calls Try.prog 15 #[.slice A n k, .int .u64 id] w fun e w' => ∃ v, e = .returned (.tuple #[v, .int .i64 (lclE l id)]) ∧ OwnL lay_Channel w' w.heap.size (some w.heap.size) 26 v (lclL l id) ∧ Below w.heap.size w w' := by
  have HL := hid h.len
  have hcap := h.cap
  unfold maxLen at hcap
  have HSL := hid (fun (W : World) (h' : Below w.heap.size w W) => Sl.call h h')
  have HWL := hid (sl_chns h)
  have HB := Below.refl w.heap.size w
  go_enter Try.func15, Try.ntmps15
  obtain ⟨e1, he1⟩ : ∃ z, gtE l id = z := ⟨_, rfl⟩
  have Qe1 := hid he1
  clear he1
  obtain ⟨d1, hd1⟩ : ∃ z, gtC l id = z := ⟨_, rfl⟩
  have Qd1 := hid hd1
  clear hd1
  go_wp2_with fail
  with_reducible refine (refGet10_any _ _ _ l id _ (HSL.out _ HB)).mono ?_
  rw [Qe1.out, Qd1.out]
  rintro e w1 ⟨v, rfl, hv, hb⟩
  replace HB := bel_call HB hb
  clear hb
  obtain ⟨A1a, n1a, c1a, rfl, hs1a⟩ := hv.read
  have hw1 : ChnWf d1 := (by rw [← Qd1.out]; exact (gt_wf HWL.out id).1)
  clear hv
  have hba := bel_alloc (Below.refl w1.heap.size w1) (Obj.cells #[.int .u64 d1.Id, .int .u64 d1.Local, .int .u64 d1.Remote, .int .u64 d1.Reserve, .int .u64 d1.Most, .slice A1a n1a c1a, .bool d1.Open] 26)
  have B1 : Box (w1.alloc (Obj.cells #[.int .u64 d1.Id, .int .u64 d1.Local, .int .u64 d1.Remote, .int .u64 d1.Reserve, .int .u64 d1.Most, .slice A1a n1a c1a, .bool d1.Open] 26)) w1.heap.size 26 [.int .u64 d1.Id, .int .u64 d1.Local, .int .u64 d1.Remote, .int .u64 d1.Reserve, .int .u64 d1.Most, .slice A1a n1a c1a, .bool d1.Open] := Box.new w1 _ _
  have S1a := Sl.call hs1a hba
  replace HB := bel_call HB hba
  clear hba hs1a
  go_upto_region 2 with (fail)
  generalize w1.alloc (Obj.cells #[.int .u64 d1.Id, .int .u64 d1.Local, .int .u64 d1.Remote, .int .u64 d1.Reserve, .int .u64 d1.Most, .slice A1a n1a c1a, .bool d1.Open] 26) = W1 at *
  generalize hg : w1.heap.size = g1 at *
  clear hg
  have K1 := hid (fun (W : World) (h : Below W1.heap.size W1 W) => (show W.cell? ⟨g1, 0, none⟩ = some (.int .u64 d1.Id) ∧ W.cell? ⟨g1, 1, none⟩ = some (.int .u64 d1.Local) ∧ W.cell? ⟨g1, 2, none⟩ = some (.int .u64 d1.Remote) ∧ W.cell? ⟨g1, 3, none⟩ = some (.int .u64 d1.Reserve) ∧ W.cell? ⟨g1, 4, none⟩ = some (.int .u64 d1.Most) ∧ W.cell? ⟨g1, 5, none⟩ = some (.slice A1a n1a c1a) ∧ W.cell? ⟨g1, 6, none⟩ = some (.bool d1.Open) from ⟨(B1.call h).at_ 0 rfl, (B1.call h).at_ 1 rfl, (B1.call h).at_ 2 rfl, (B1.call h).at_ 3 rfl, (B1.call h).at_ 4 rfl, (B1.call h).at_ 5 rfl, (B1.call h).at_ 6 rfl⟩))
  have P1 := hid (fun (W : World) (h : Below W1.heap.size W1 W) => (show lay_Channel.rep W (· < W.heap.size) d1 #[.int .u64 d1.Id, .int .u64 d1.Local, .int .u64 d1.Remote, .int .u64 d1.Reserve, .int .u64 d1.Most, .slice A1a n1a c1a, .bool d1.Open].toList from chan_in hw1 S1a h))
  have HB1 := Below.refl W1.heap.size W1
  clear B1 S1a
  by_cases hz : e1 = 0
  rotate_left
  · have dz : (e1 != 0) = true := by simpa using hz
    have HX := hid (show lclE l id = e1 ∧ lclL l id = [] from by rw [← Qe1.out]; exact one_exit1 (by rw [Qe1.out]; exact hz))
    clear hz
    go_wp2
    go_ret2
    exact ⟨_, by rw [HX.out.1]; rfl, by rw [HX.out.2]; exact OwnL.nil _ _ _ _ _, HB⟩
  subst hz
  obtain ⟨e2, he2⟩ : ∃ z, clE d1 = z := ⟨_, rfl⟩
  have Qe2 := hid he2
  clear he2
  obtain ⟨d2, hd2⟩ : ∃ z, clC d1 = z := ⟨_, rfl⟩
  have Qd2 := hid hd2
  clear hd2
  obtain ⟨p1x0, p1x1, p1x2, p1x3, p1x4, p1x5, p1x6⟩ := K1.out _ HB1
  go_wp2_with fail
  with_reducible refine (refClose9_any _ d1 _ (P1.out _ HB1)).mono ?_
  rw [Qe2.out, Qd2.out]
  rintro e w2 ⟨v, rfl, hv, hb⟩
  replace HB := bel_call HB hb
  replace HB1 := bel_call HB1 hb
  clear p1x0 p1x1 p1x2 p1x3 p1x4 p1x5 p1x6
  clear hb
  obtain ⟨A2a, n2a, c2a, rfl, hs2a⟩ := hv.read
  have hw2 : ChnWf d2 := (by rw [← Qd2.out, ← Qd1.out]; exact cl_wf (gt_wf HWL.out id).1)
  clear hv
  have hba := bel_alloc (Below.refl w2.heap.size w2) (Obj.cells #[.int .u64 d2.Id, .int .u64 d2.Local, .int .u64 d2.Remote, .int .u64 d2.Reserve, .int .u64 d2.Most, .slice A2a n2a c2a, .bool d2.Open] 26)
  have B2 : Box (w2.alloc (Obj.cells #[.int .u64 d2.Id, .int .u64 d2.Local, .int .u64 d2.Remote, .int .u64 d2.Reserve, .int .u64 d2.Most, .slice A2a n2a c2a, .bool d2.Open] 26)) w2.heap.size 26 [.int .u64 d2.Id, .int .u64 d2.Local, .int .u64 d2.Remote, .int .u64 d2.Reserve, .int .u64 d2.Most, .slice A2a n2a c2a, .bool d2.Open] := Box.new w2 _ _
  have S2a := Sl.call hs2a hba
  replace HB := bel_call HB hba
  replace HB1 := bel_call HB1 hba
  clear hba hs2a
  go_upto_region 5 with (fail)
  generalize w2.alloc (Obj.cells #[.int .u64 d2.Id, .int .u64 d2.Local, .int .u64 d2.Remote, .int .u64 d2.Reserve, .int .u64 d2.Most, .slice A2a n2a c2a, .bool d2.Open] 26) = W2 at *
  generalize hg : w2.heap.size = g2 at *
  clear hg
  have K2 := hid (fun (W : World) (h : Below W2.heap.size W2 W) => (show W.cell? ⟨g2, 0, none⟩ = some (.int .u64 d2.Id) ∧ W.cell? ⟨g2, 1, none⟩ = some (.int .u64 d2.Local) ∧ W.cell? ⟨g2, 2, none⟩ = some (.int .u64 d2.Remote) ∧ W.cell? ⟨g2, 3, none⟩ = some (.int .u64 d2.Reserve) ∧ W.cell? ⟨g2, 4, none⟩ = some (.int .u64 d2.Most) ∧ W.cell? ⟨g2, 5, none⟩ = some (.slice A2a n2a c2a) ∧ W.cell? ⟨g2, 6, none⟩ = some (.bool d2.Open) from ⟨(B2.call h).at_ 0 rfl, (B2.call h).at_ 1 rfl, (B2.call h).at_ 2 rfl, (B2.call h).at_ 3 rfl, (B2.call h).at_ 4 rfl, (B2.call h).at_ 5 rfl, (B2.call h).at_ 6 rfl⟩))
  have P2 := hid (fun (W : World) (h : Below W2.heap.size W2 W) => (show lay_Channel.rep W (· < W.heap.size) d2 #[.int .u64 d2.Id, .int .u64 d2.Local, .int .u64 d2.Remote, .int .u64 d2.Reserve, .int .u64 d2.Most, .slice A2a n2a c2a, .bool d2.Open].toList from chan_in hw2 S2a h))
  have HB2 := Below.refl W2.heap.size W2
  clear B2 S2a
  by_cases hz : e2 = 0
  rotate_left
  · have dz : (e2 != 0) = true := by simpa using hz
    have HX := hid (show lclE l id = e2 ∧ lclL l id = [] from by rw [← Qe2.out, ← Qd1.out]; exact one_exit2 Qe1.out (by rw [Qd1.out, Qe2.out]; exact hz))
    clear hz
    go_wp2
    go_ret2
    exact ⟨_, by rw [HX.out.1]; rfl, by rw [HX.out.2]; exact OwnL.nil _ _ _ _ _, HB⟩
  subst hz
  have HX := hid (show lclE l id = 0 ∧ lclL l id = withC l d2 from by rw [← Qd2.out, ← Qd1.out]; exact one_in (e := clE) (d := clC) Qe1.out (by rw [Qd1.out]; exact Qe2.out))
  have HOK := hid (show d2.Holds.length ≤ 1000 from ok_holds (by rw [← Qd2.out]; exact (cl_is Qe2.out).2.2.2.2))
  have HGT := hid (gt_is Qe1.out)
  have hn : n ≤ 500 := by have := HGT.out.1.1; rw [HL.out] at this; omega
  obtain ⟨p2x0, p2x1, p2x2, p2x3, p2x4, p2x5, p2x6⟩ := K2.out _ HB2
  have HS := hid HB.size
  go_wp2_with fail
  with_reducible refine (refWith10_any _ _ _ l _ d2 _ (HSL.out _ HB) (P2.out _ HB2) hn ⟨fun c hc => lg_holds HGT.out.1 hc, HOK.out⟩).mono ?_
  rintro e w3 ⟨v, rfl, hv, hb⟩
  replace HB := bel_call HB hb
  replace HB1 := bel_call HB1 hb
  replace HB2 := bel_call HB2 hb
  clear p2x0 p2x1 p2x2 p2x3 p2x4 p2x5 p2x6
  clear hb
  have HV := hid (hv.lows (base' := w.heap.size) (lo' := w.heap.size) HS.out HS.out)
  clear hv
  go_wp2
  go_ret2
  exact ⟨_, by rw [HX.out.1]; rfl, by rw [HX.out.2]; exact HV.out, HB⟩

set_option maxRecDepth 100000 in
set_option maxHeartbeats 4000000 in
theorem refPush10_any (A : Option Addr) (n k : Nat) (l : List Chn) (id : Int) (m : Int) (w : World) (h : Sl lay_Channel w (· < w.heap.size) A n k l) (hm : (Lit.int .u64 m).wf = true) :
    Calls Try.prog 17 #[.slice A n k, .int .u64 id, .int .u64 m] w fun e w' => ∃ v, e = .returned (.tuple #[v, .int .i64 (lpuE l id m)]) ∧ OwnL lay_Channel w' w.heap.size (some w.heap.size) 26 v (lpuL l id m) ∧ Below w.heap.size w w' := by
  have HL := hid h.len
  have hcap := h.cap
  unfold maxLen at hcap
  have HSL := hid (fun (W : World) (h' : Below w.heap.size w W) => Sl.call h h')
  have HWL := hid (sl_chns h)
  have HB := Below.refl w.heap.size w
  go_enter Try.func17, Try.ntmps17
  obtain ⟨e1, he1⟩ : ∃ z, gtE l id = z := ⟨_, rfl⟩
  have Qe1 := hid he1
  clear he1
  obtain ⟨d1, hd1⟩ : ∃ z, gtC l id = z := ⟨_, rfl⟩
  have Qd1 := hid hd1
  clear hd1
  go_wp2_with fail
  with_reducible refine (refGet10_any _ _ _ l id _ (HSL.out _ HB)).mono ?_
  rw [Qe1.out, Qd1.out]
  rintro e w1 ⟨v, rfl, hv, hb⟩
  replace HB := bel_call HB hb
  clear hb
  obtain ⟨A1a, n1a, c1a, rfl, hs1a⟩ := hv.read
  have hw1 : ChnWf d1 := (by rw [← Qd1.out]; exact (gt_wf HWL.out id).1)
  clear hv
  have hba := bel_alloc (Below.refl w1.heap.size w1) (Obj.cells #[.int .u64 d1.Id, .int .u64 d1.Local, .int .u64 d1.Remote, .int .u64 d1.Reserve, .int .u64 d1.Most, .slice A1a n1a c1a, .bool d1.Open] 26)
  have B1 : Box (w1.alloc (Obj.cells #[.int .u64 d1.Id, .int .u64 d1.Local, .int .u64 d1.Remote, .int .u64 d1.Reserve, .int .u64 d1.Most, .slice A1a n1a c1a, .bool d1.Open] 26)) w1.heap.size 26 [.int .u64 d1.Id, .int .u64 d1.Local, .int .u64 d1.Remote, .int .u64 d1.Reserve, .int .u64 d1.Most, .slice A1a n1a c1a, .bool d1.Open] := Box.new w1 _ _
  have S1a := Sl.call hs1a hba
  replace HB := bel_call HB hba
  clear hba hs1a
  go_upto_region 2 with (fail)
  generalize w1.alloc (Obj.cells #[.int .u64 d1.Id, .int .u64 d1.Local, .int .u64 d1.Remote, .int .u64 d1.Reserve, .int .u64 d1.Most, .slice A1a n1a c1a, .bool d1.Open] 26) = W1 at *
  generalize hg : w1.heap.size = g1 at *
  clear hg
  have K1 := hid (fun (W : World) (h : Below W1.heap.size W1 W) => (show W.cell? ⟨g1, 0, none⟩ = some (.int .u64 d1.Id) ∧ W.cell? ⟨g1, 1, none⟩ = some (.int .u64 d1.Local) ∧ W.cell? ⟨g1, 2, none⟩ = some (.int .u64 d1.Remote) ∧ W.cell? ⟨g1, 3, none⟩ = some (.int .u64 d1.Reserve) ∧ W.cell? ⟨g1, 4, none⟩ = some (.int .u64 d1.Most) ∧ W.cell? ⟨g1, 5, none⟩ = some (.slice A1a n1a c1a) ∧ W.cell? ⟨g1, 6, none⟩ = some (.bool d1.Open) from ⟨(B1.call h).at_ 0 rfl, (B1.call h).at_ 1 rfl, (B1.call h).at_ 2 rfl, (B1.call h).at_ 3 rfl, (B1.call h).at_ 4 rfl, (B1.call h).at_ 5 rfl, (B1.call h).at_ 6 rfl⟩))
  have P1 := hid (fun (W : World) (h : Below W1.heap.size W1 W) => (show lay_Channel.rep W (· < W.heap.size) d1 #[.int .u64 d1.Id, .int .u64 d1.Local, .int .u64 d1.Remote, .int .u64 d1.Reserve, .int .u64 d1.Most, .slice A1a n1a c1a, .bool d1.Open].toList from chan_in hw1 S1a h))
  have HB1 := Below.refl W1.heap.size W1
  clear B1 S1a
  by_cases hz : e1 = 0
  rotate_left
  · have dz : (e1 != 0) = true := by simpa using hz
    have HX := hid (show lpuE l id m = e1 ∧ lpuL l id m = [] from by rw [← Qe1.out]; exact one_exit1 (by rw [Qe1.out]; exact hz))
    clear hz
    go_wp2
    go_ret2
    exact ⟨_, by rw [HX.out.1]; rfl, by rw [HX.out.2]; exact OwnL.nil _ _ _ _ _, HB⟩
  subst hz
  obtain ⟨e2, he2⟩ : ∃ z, puE d1 m = z := ⟨_, rfl⟩
  have Qe2 := hid he2
  clear he2
  obtain ⟨d2, hd2⟩ : ∃ z, puC d1 m = z := ⟨_, rfl⟩
  have Qd2 := hid hd2
  clear hd2
  obtain ⟨p1x0, p1x1, p1x2, p1x3, p1x4, p1x5, p1x6⟩ := K1.out _ HB1
  go_wp2_with fail
  with_reducible refine (refPush9_any _ d1 m _ (P1.out _ HB1) hm).mono ?_
  rw [Qe2.out, Qd2.out]
  rintro e w2 ⟨v, rfl, hv, hb⟩
  replace HB := bel_call HB hb
  replace HB1 := bel_call HB1 hb
  clear p1x0 p1x1 p1x2 p1x3 p1x4 p1x5 p1x6
  clear hb
  obtain ⟨A2a, n2a, c2a, rfl, hs2a⟩ := hv.read
  have hw2 : ChnWf d2 := (by rw [← Qd2.out, ← Qd1.out]; exact pu_wf (gt_wf HWL.out id).1 (gt_wf HWL.out id).2 (bounds_u64 hm).1)
  clear hv
  have hba := bel_alloc (Below.refl w2.heap.size w2) (Obj.cells #[.int .u64 d2.Id, .int .u64 d2.Local, .int .u64 d2.Remote, .int .u64 d2.Reserve, .int .u64 d2.Most, .slice A2a n2a c2a, .bool d2.Open] 26)
  have B2 : Box (w2.alloc (Obj.cells #[.int .u64 d2.Id, .int .u64 d2.Local, .int .u64 d2.Remote, .int .u64 d2.Reserve, .int .u64 d2.Most, .slice A2a n2a c2a, .bool d2.Open] 26)) w2.heap.size 26 [.int .u64 d2.Id, .int .u64 d2.Local, .int .u64 d2.Remote, .int .u64 d2.Reserve, .int .u64 d2.Most, .slice A2a n2a c2a, .bool d2.Open] := Box.new w2 _ _
  have S2a := Sl.call hs2a hba
  replace HB := bel_call HB hba
  replace HB1 := bel_call HB1 hba
  clear hba hs2a
  go_upto_region 5 with (fail)
  generalize w2.alloc (Obj.cells #[.int .u64 d2.Id, .int .u64 d2.Local, .int .u64 d2.Remote, .int .u64 d2.Reserve, .int .u64 d2.Most, .slice A2a n2a c2a, .bool d2.Open] 26) = W2 at *
  generalize hg : w2.heap.size = g2 at *
  clear hg
  have K2 := hid (fun (W : World) (h : Below W2.heap.size W2 W) => (show W.cell? ⟨g2, 0, none⟩ = some (.int .u64 d2.Id) ∧ W.cell? ⟨g2, 1, none⟩ = some (.int .u64 d2.Local) ∧ W.cell? ⟨g2, 2, none⟩ = some (.int .u64 d2.Remote) ∧ W.cell? ⟨g2, 3, none⟩ = some (.int .u64 d2.Reserve) ∧ W.cell? ⟨g2, 4, none⟩ = some (.int .u64 d2.Most) ∧ W.cell? ⟨g2, 5, none⟩ = some (.slice A2a n2a c2a) ∧ W.cell? ⟨g2, 6, none⟩ = some (.bool d2.Open) from ⟨(B2.call h).at_ 0 rfl, (B2.call h).at_ 1 rfl, (B2.call h).at_ 2 rfl, (B2.call h).at_ 3 rfl, (B2.call h).at_ 4 rfl, (B2.call h).at_ 5 rfl, (B2.call h).at_ 6 rfl⟩))
  have P2 := hid (fun (W : World) (h : Below W2.heap.size W2 W) => (show lay_Channel.rep W (· < W.heap.size) d2 #[.int .u64 d2.Id, .int .u64 d2.Local, .int .u64 d2.Remote, .int .u64 d2.Reserve, .int .u64 d2.Most, .slice A2a n2a c2a, .bool d2.Open].toList from chan_in hw2 S2a h))
  have HB2 := Below.refl W2.heap.size W2
  clear B2 S2a
  by_cases hz : e2 = 0
  rotate_left
  · have dz : (e2 != 0) = true := by simpa using hz
    have HX := hid (show lpuE l id m = e2 ∧ lpuL l id m = [] from by rw [← Qe2.out, ← Qd1.out]; exact one_exit2 (e := fun c => puE c m) (d := fun c => puC c m) Qe1.out (by show puE (gtC l id) m ≠ 0; rw [Qd1.out, Qe2.out]; exact hz))
    clear hz
    go_wp2
    go_ret2
    exact ⟨_, by rw [HX.out.1]; rfl, by rw [HX.out.2]; exact OwnL.nil _ _ _ _ _, HB⟩
  subst hz
  have HX := hid (show lpuE l id m = 0 ∧ lpuL l id m = withC l d2 from by rw [← Qd2.out, ← Qd1.out]; exact one_in (e := fun c => puE c m) (d := fun c => puC c m) Qe1.out (by show puE (gtC l id) m = 0; rw [Qd1.out]; exact Qe2.out))
  have HOK := hid (show d2.Holds.length ≤ 1000 from ok_holds (by rw [← Qd2.out]; exact (pu_is (by rw [← Qd1.out]; exact (gt_wf HWL.out id).1) (by rw [← Qd1.out]; exact (gt_wf HWL.out id).2) (bounds_u64 hm).1 Qe2.out).2.2.2.2.1))
  have HGT := hid (gt_is Qe1.out)
  have hn : n ≤ 500 := by have := HGT.out.1.1; rw [HL.out] at this; omega
  obtain ⟨p2x0, p2x1, p2x2, p2x3, p2x4, p2x5, p2x6⟩ := K2.out _ HB2
  have HS := hid HB.size
  go_wp2_with fail
  with_reducible refine (refWith10_any _ _ _ l _ d2 _ (HSL.out _ HB) (P2.out _ HB2) hn ⟨fun c hc => lg_holds HGT.out.1 hc, HOK.out⟩).mono ?_
  rintro e w3 ⟨v, rfl, hv, hb⟩
  replace HB := bel_call HB hb
  replace HB1 := bel_call HB1 hb
  replace HB2 := bel_call HB2 hb
  clear p2x0 p2x1 p2x2 p2x3 p2x4 p2x5 p2x6
  clear hb
  have HV := hid (hv.lows (base' := w.heap.size) (lo' := w.heap.size) HS.out HS.out)
  clear hv
  go_wp2
  go_ret2
  exact ⟨_, by rw [HX.out.1]; rfl, by rw [HX.out.2]; exact HV.out, HB⟩

set_option maxRecDepth 100000 in
set_option maxHeartbeats 4000000 in
theorem refHold10_any (A : Option Addr) (n k : Nat) (l : List Chn) (id : Int) (hold : Int) (m : Int) (w : World) (h : Sl lay_Channel w (· < w.heap.size) A n k l) (hh : (Lit.int .u64 hold).wf = true) (hm : (Lit.int .u64 m).wf = true) :
    Calls Try.prog 19 #[.slice A n k, .int .u64 id, .int .u64 hold, .int .u64 m] w fun e w' => ∃ v, e = .returned (.tuple #[v, .int .i64 (lhoE l id hold m)]) ∧ OwnL lay_Channel w' w.heap.size (some w.heap.size) 26 v (lhoL l id hold m) ∧ Below w.heap.size w w' := by
  have HL := hid h.len
  have hcap := h.cap
  unfold maxLen at hcap
  have HSL := hid (fun (W : World) (h' : Below w.heap.size w W) => Sl.call h h')
  have HWL := hid (sl_chns h)
  have HB := Below.refl w.heap.size w
  go_enter Try.func19, Try.ntmps19
  obtain ⟨e1, he1⟩ : ∃ z, gtE l id = z := ⟨_, rfl⟩
  have Qe1 := hid he1
  clear he1
  obtain ⟨d1, hd1⟩ : ∃ z, gtC l id = z := ⟨_, rfl⟩
  have Qd1 := hid hd1
  clear hd1
  go_wp2_with fail
  with_reducible refine (refGet10_any _ _ _ l id _ (HSL.out _ HB)).mono ?_
  rw [Qe1.out, Qd1.out]
  rintro e w1 ⟨v, rfl, hv, hb⟩
  replace HB := bel_call HB hb
  clear hb
  obtain ⟨A1a, n1a, c1a, rfl, hs1a⟩ := hv.read
  have hw1 : ChnWf d1 := (by rw [← Qd1.out]; exact (gt_wf HWL.out id).1)
  clear hv
  have hba := bel_alloc (Below.refl w1.heap.size w1) (Obj.cells #[.int .u64 d1.Id, .int .u64 d1.Local, .int .u64 d1.Remote, .int .u64 d1.Reserve, .int .u64 d1.Most, .slice A1a n1a c1a, .bool d1.Open] 26)
  have B1 : Box (w1.alloc (Obj.cells #[.int .u64 d1.Id, .int .u64 d1.Local, .int .u64 d1.Remote, .int .u64 d1.Reserve, .int .u64 d1.Most, .slice A1a n1a c1a, .bool d1.Open] 26)) w1.heap.size 26 [.int .u64 d1.Id, .int .u64 d1.Local, .int .u64 d1.Remote, .int .u64 d1.Reserve, .int .u64 d1.Most, .slice A1a n1a c1a, .bool d1.Open] := Box.new w1 _ _
  have S1a := Sl.call hs1a hba
  replace HB := bel_call HB hba
  clear hba hs1a
  go_upto_region 2 with (fail)
  generalize w1.alloc (Obj.cells #[.int .u64 d1.Id, .int .u64 d1.Local, .int .u64 d1.Remote, .int .u64 d1.Reserve, .int .u64 d1.Most, .slice A1a n1a c1a, .bool d1.Open] 26) = W1 at *
  generalize hg : w1.heap.size = g1 at *
  clear hg
  have K1 := hid (fun (W : World) (h : Below W1.heap.size W1 W) => (show W.cell? ⟨g1, 0, none⟩ = some (.int .u64 d1.Id) ∧ W.cell? ⟨g1, 1, none⟩ = some (.int .u64 d1.Local) ∧ W.cell? ⟨g1, 2, none⟩ = some (.int .u64 d1.Remote) ∧ W.cell? ⟨g1, 3, none⟩ = some (.int .u64 d1.Reserve) ∧ W.cell? ⟨g1, 4, none⟩ = some (.int .u64 d1.Most) ∧ W.cell? ⟨g1, 5, none⟩ = some (.slice A1a n1a c1a) ∧ W.cell? ⟨g1, 6, none⟩ = some (.bool d1.Open) from ⟨(B1.call h).at_ 0 rfl, (B1.call h).at_ 1 rfl, (B1.call h).at_ 2 rfl, (B1.call h).at_ 3 rfl, (B1.call h).at_ 4 rfl, (B1.call h).at_ 5 rfl, (B1.call h).at_ 6 rfl⟩))
  have P1 := hid (fun (W : World) (h : Below W1.heap.size W1 W) => (show lay_Channel.rep W (· < W.heap.size) d1 #[.int .u64 d1.Id, .int .u64 d1.Local, .int .u64 d1.Remote, .int .u64 d1.Reserve, .int .u64 d1.Most, .slice A1a n1a c1a, .bool d1.Open].toList from chan_in hw1 S1a h))
  have HB1 := Below.refl W1.heap.size W1
  clear B1 S1a
  by_cases hz : e1 = 0
  rotate_left
  · have dz : (e1 != 0) = true := by simpa using hz
    have HX := hid (show lhoE l id hold m = e1 ∧ lhoL l id hold m = [] from by rw [← Qe1.out]; exact one_exit1 (by rw [Qe1.out]; exact hz))
    clear hz
    go_wp2
    go_ret2
    exact ⟨_, by rw [HX.out.1]; rfl, by rw [HX.out.2]; exact OwnL.nil _ _ _ _ _, HB⟩
  subst hz
  go_wp2_with fail
  with_reducible refine (refWhereI_any _ _ _ l hold _ (HSL.out _ HB)).mono ?_
  rintro e w2 ⟨i, rfl, hf, hb⟩
  replace HB := bel_call HB hb
  replace HB1 := bel_call HB1 hb
  clear hb
  rcases hf with ⟨j, hj, rfl, hc⟩ | ⟨rfl, hc⟩
  · have d0 : decide ((0 : Int) ≤ (j : Int)) = true := by simp
    have HX := hid (show lhoE l id hold m = 6 ∧ lhoL l id hold m = [] from by
      have q : lhE l hold m (gtC l id) = 6 := if_pos (by rw [hc]; rfl)
      have := one_exit2 (e := lhE l hold m) (d := fun c => hoC c hold m) Qe1.out (by rw [q]; decide)
      rw [q] at this
      exact this)
    clear hc
    go_wp2
    go_ret2
    exact ⟨_, by rw [HX.out.1]; rfl, by rw [HX.out.2]; exact OwnL.nil _ _ _ _ _, HB⟩
  have HWN := hid (show lhE l hold m (gtC l id) = hoE (gtC l id) hold m from if_neg (by rw [hc]; simp))
  clear hc
  obtain ⟨e2, he2⟩ : ∃ z, hoE d1 hold m = z := ⟨_, rfl⟩
  have Qe2 := hid he2
  clear he2
  obtain ⟨d2, hd2⟩ : ∃ z, hoC d1 hold m = z := ⟨_, rfl⟩
  have Qd2 := hid hd2
  clear hd2
  obtain ⟨p1x0, p1x1, p1x2, p1x3, p1x4, p1x5, p1x6⟩ := K1.out _ HB1
  go_wp2_with fail
  with_reducible refine (refHold9_any _ d1 hold m _ (P1.out _ HB1) hh hm).mono ?_
  rw [Qe2.out, Qd2.out]
  rintro e w3 ⟨v, rfl, hv, hb⟩
  replace HB := bel_call HB hb
  replace HB1 := bel_call HB1 hb
  clear p1x0 p1x1 p1x2 p1x3 p1x4 p1x5 p1x6
  clear hb
  obtain ⟨A2a, n2a, c2a, rfl, hs2a⟩ := hv.read
  have hw2 : ChnWf d2 := (by rw [← Qd2.out, ← Qd1.out]; exact ho_wf (gt_wf HWL.out id).1 (bounds_u64 hm).1)
  clear hv
  have hba := bel_alloc (Below.refl w3.heap.size w3) (Obj.cells #[.int .u64 d2.Id, .int .u64 d2.Local, .int .u64 d2.Remote, .int .u64 d2.Reserve, .int .u64 d2.Most, .slice A2a n2a c2a, .bool d2.Open] 26)
  have B2 : Box (w3.alloc (Obj.cells #[.int .u64 d2.Id, .int .u64 d2.Local, .int .u64 d2.Remote, .int .u64 d2.Reserve, .int .u64 d2.Most, .slice A2a n2a c2a, .bool d2.Open] 26)) w3.heap.size 26 [.int .u64 d2.Id, .int .u64 d2.Local, .int .u64 d2.Remote, .int .u64 d2.Reserve, .int .u64 d2.Most, .slice A2a n2a c2a, .bool d2.Open] := Box.new w3 _ _
  have S2a := Sl.call hs2a hba
  replace HB := bel_call HB hba
  replace HB1 := bel_call HB1 hba
  clear hba hs2a
  go_upto_region 7 with (fail)
  generalize w3.alloc (Obj.cells #[.int .u64 d2.Id, .int .u64 d2.Local, .int .u64 d2.Remote, .int .u64 d2.Reserve, .int .u64 d2.Most, .slice A2a n2a c2a, .bool d2.Open] 26) = W2 at *
  generalize hg : w3.heap.size = g2 at *
  clear hg
  have K2 := hid (fun (W : World) (h : Below W2.heap.size W2 W) => (show W.cell? ⟨g2, 0, none⟩ = some (.int .u64 d2.Id) ∧ W.cell? ⟨g2, 1, none⟩ = some (.int .u64 d2.Local) ∧ W.cell? ⟨g2, 2, none⟩ = some (.int .u64 d2.Remote) ∧ W.cell? ⟨g2, 3, none⟩ = some (.int .u64 d2.Reserve) ∧ W.cell? ⟨g2, 4, none⟩ = some (.int .u64 d2.Most) ∧ W.cell? ⟨g2, 5, none⟩ = some (.slice A2a n2a c2a) ∧ W.cell? ⟨g2, 6, none⟩ = some (.bool d2.Open) from ⟨(B2.call h).at_ 0 rfl, (B2.call h).at_ 1 rfl, (B2.call h).at_ 2 rfl, (B2.call h).at_ 3 rfl, (B2.call h).at_ 4 rfl, (B2.call h).at_ 5 rfl, (B2.call h).at_ 6 rfl⟩))
  have P2 := hid (fun (W : World) (h : Below W2.heap.size W2 W) => (show lay_Channel.rep W (· < W.heap.size) d2 #[.int .u64 d2.Id, .int .u64 d2.Local, .int .u64 d2.Remote, .int .u64 d2.Reserve, .int .u64 d2.Most, .slice A2a n2a c2a, .bool d2.Open].toList from chan_in hw2 S2a h))
  have HB2 := Below.refl W2.heap.size W2
  clear B2 S2a
  by_cases hz : e2 = 0
  rotate_left
  · have dz : (e2 != 0) = true := by simpa using hz
    have HX := hid (show lhoE l id hold m = e2 ∧ lhoL l id hold m = [] from by rw [← Qe2.out, ← Qd1.out, ← HWN.out]; exact one_exit2 (e := lhE l hold m) (d := fun c => hoC c hold m) Qe1.out (by rw [HWN.out, Qd1.out, Qe2.out]; exact hz))
    clear hz
    go_wp2
    go_ret2
    exact ⟨_, by rw [HX.out.1]; rfl, by rw [HX.out.2]; exact OwnL.nil _ _ _ _ _, HB⟩
  subst hz
  have HX := hid (show lhoE l id hold m = 0 ∧ lhoL l id hold m = withC l d2 from by rw [← Qd2.out, ← Qd1.out]; exact one_in (e := lhE l hold m) (d := fun c => hoC c hold m) Qe1.out (by rw [HWN.out, Qd1.out]; exact Qe2.out))
  have HOK := hid (show d2.Holds.length ≤ 1000 from ok_holds (by rw [← Qd2.out]; exact (ho_ch (by rw [← Qd1.out]; exact (gt_wf HWL.out id).1) Qe2.out (bounds_u64 hm).1).1))
  have HGT := hid (gt_is Qe1.out)
  have hn : n ≤ 500 := by have := HGT.out.1.1; rw [HL.out] at this; omega
  obtain ⟨p2x0, p2x1, p2x2, p2x3, p2x4, p2x5, p2x6⟩ := K2.out _ HB2
  have HS := hid HB.size
  go_wp2_with fail
  with_reducible refine (refWith10_any _ _ _ l _ d2 _ (HSL.out _ HB) (P2.out _ HB2) hn ⟨fun c hc => lg_holds HGT.out.1 hc, HOK.out⟩).mono ?_
  rintro e w4 ⟨v, rfl, hv, hb⟩
  replace HB := bel_call HB hb
  replace HB1 := bel_call HB1 hb
  replace HB2 := bel_call HB2 hb
  clear p2x0 p2x1 p2x2 p2x3 p2x4 p2x5 p2x6
  clear hb
  have HV := hid (hv.lows (base' := w.heap.size) (lo' := w.heap.size) HS.out HS.out)
  clear hv
  go_wp2
  go_ret2
  exact ⟨_, by rw [HX.out.1]; rfl, by rw [HX.out.2]; exact HV.out, HB⟩
end Go.Proofs.Ytanlpcndbfmkiaa
namespace Go.Proofs.Ytanlpcndbfmkiaa
open Go.RowKit Go.WalkArith

set_option maxRecDepth 100000 in
set_option maxHeartbeats 4000000 in
theorem refEnd10_any (A : Option Addr) (n k : Nat) (l : List Chn) (hold : Int) (paid : Bool) (w : World) (h : Sl lay_Channel w (· < w.heap.size) A n k l) :
    Calls Try.prog 21 #[.slice A n k, .int .u64 hold, .bool paid] w fun e w' => ∃ v, e = .returned (.tuple #[v, .int .u64 (enN l hold), .int .i64 (whE l hold)]) ∧ OwnL lay_Channel w' w.heap.size (some w.heap.size) 26 v (enL l hold paid) ∧ Below w.heap.size w w' := by
  have HL := hid h.len
  have hcap := h.cap
  unfold maxLen at hcap
  have HSL := hid (fun (W : World) (h' : Below w.heap.size w W) => Sl.call h h')
  have HWL := hid (sl_chns h)
  have HB := Below.refl w.heap.size w
  go_enter Try.func21, Try.ntmps21
  obtain ⟨e1, he1⟩ : ∃ z, whE l hold = z := ⟨_, rfl⟩
  have Qe1 := hid he1
  clear he1
  obtain ⟨i1, hi1⟩ : ∃ z, whV l hold = z := ⟨_, rfl⟩
  have Qi1 := hid hi1
  clear hi1
  go_wp2_with fail
  with_reducible refine (refWhere10_any _ _ _ l hold _ (HSL.out _ HB)).mono ?_
  rw [Qe1.out, Qi1.out]
  rintro e w1 ⟨rfl, hb⟩
  replace HB := bel_call HB hb
  clear hb
  by_cases hz : e1 = 0
  rotate_left
  · have dz : (e1 != 0) = true := by simpa using hz
    have HX := hid (show enN l hold = 0 ∧ enL l hold paid = [] from ⟨if_neg (by rw [Qe1.out]; exact hz), if_neg (by rw [Qe1.out]; exact hz)⟩)
    clear hz
    go_wp2
    go_ret3
    exact ⟨_, by rw [HX.out.1, Qe1.out]; rfl, by rw [HX.out.2]; exact OwnL.nil _ _ _ _ _, HB⟩
  subst hz
  obtain ⟨gg, cc, c1, c2, c3, c4, c5⟩ := wh_is Qe1.out
  rw [Qi1.out] at c3 c4
  have HG := hid gg
  have HC := hid (show cc ∈ l ∧ gtE l i1 = 0 ∧ gtC l i1 = cc ∧ wtE cc hold = 0 from ⟨c1, by rw [c3]; exact (gt_of gg c1).1, c4, c5⟩)
  have HEN := hid (show enN l hold = wtN cc hold ∧ enL l hold paid = withC l (enC cc hold paid) from by
    refine ⟨?_, ?_⟩
    · unfold enN; rw [if_pos Qe1.out, Qi1.out, c4]
    · unfold enL; rw [if_pos Qe1.out, Qi1.out, c4])
  clear gg c1 c2 c3 c4 c5
  go_wp2_with fail
  with_reducible refine (refGet10_any _ _ _ l i1 _ (HSL.out _ HB)).mono ?_
  rw [HC.out.2.1, HC.out.2.2.1]
  rintro e w2 ⟨v, rfl, hv, hb⟩
  replace HB := bel_call HB hb
  clear hb
  have HW := hid (HWL.out _ HC.out.1)
  obtain ⟨A1a, n1a, c1a, rfl, hs1a⟩ := hv.read
  have hw1 : ChnWf cc := HW.out.1
  clear hv
  have hba := bel_alloc (Below.refl w2.heap.size w2) (Obj.cells #[.int .u64 cc.Id, .int .u64 cc.Local, .int .u64 cc.Remote, .int .u64 cc.Reserve, .int .u64 cc.Most, .slice A1a n1a c1a, .bool cc.Open] 26)
  have B1 : Box (w2.alloc (Obj.cells #[.int .u64 cc.Id, .int .u64 cc.Local, .int .u64 cc.Remote, .int .u64 cc.Reserve, .int .u64 cc.Most, .slice A1a n1a c1a, .bool cc.Open] 26)) w2.heap.size 26 [.int .u64 cc.Id, .int .u64 cc.Local, .int .u64 cc.Remote, .int .u64 cc.Reserve, .int .u64 cc.Most, .slice A1a n1a c1a, .bool cc.Open] := Box.new w2 _ _
  have S1a := Sl.call hs1a hba
  replace HB := bel_call HB hba
  clear hba hs1a
  go_upto_region 5 with (fail)
  generalize w2.alloc (Obj.cells #[.int .u64 cc.Id, .int .u64 cc.Local, .int .u64 cc.Remote, .int .u64 cc.Reserve, .int .u64 cc.Most, .slice A1a n1a c1a, .bool cc.Open] 26) = W1 at *
  generalize hg : w2.heap.size = g1 at *
  clear hg
  have K1 := hid (fun (W : World) (h : Below W1.heap.size W1 W) => (show W.cell? ⟨g1, 0, none⟩ = some (.int .u64 cc.Id) ∧ W.cell? ⟨g1, 1, none⟩ = some (.int .u64 cc.Local) ∧ W.cell? ⟨g1, 2, none⟩ = some (.int .u64 cc.Remote) ∧ W.cell? ⟨g1, 3, none⟩ = some (.int .u64 cc.Reserve) ∧ W.cell? ⟨g1, 4, none⟩ = some (.int .u64 cc.Most) ∧ W.cell? ⟨g1, 5, none⟩ = some (.slice A1a n1a c1a) ∧ W.cell? ⟨g1, 6, none⟩ = some (.bool cc.Open) from ⟨(B1.call h).at_ 0 rfl, (B1.call h).at_ 1 rfl, (B1.call h).at_ 2 rfl, (B1.call h).at_ 3 rfl, (B1.call h).at_ 4 rfl, (B1.call h).at_ 5 rfl, (B1.call h).at_ 6 rfl⟩))
  have P1 := hid (fun (W : World) (h : Below W1.heap.size W1 W) => (show lay_Channel.rep W (· < W.heap.size) cc #[.int .u64 cc.Id, .int .u64 cc.Local, .int .u64 cc.Remote, .int .u64 cc.Reserve, .int .u64 cc.Most, .slice A1a n1a c1a, .bool cc.Open].toList from chan_in hw1 S1a h))
  have HB1 := Below.refl W1.heap.size W1
  clear B1 S1a
  obtain ⟨n2, hn2⟩ : ∃ z, wtN cc hold = z := ⟨_, rfl⟩
  have Qn2 := hid hn2
  clear hn2
  obtain ⟨d2, hd2⟩ : ∃ z, faC cc hold = z := ⟨_, rfl⟩
  have Qd2 := hid hd2
  clear hd2
  obtain ⟨p1x0, p1x1, p1x2, p1x3, p1x4, p1x5, p1x6⟩ := K1.out _ HB1
  go_wp2_with fail
  with_reducible refine (refFail9_any _ cc hold _ (P1.out _ HB1)).mono ?_
  rw [Qn2.out, Qd2.out, HC.out.2.2.2]
  rintro e w3 ⟨v, rfl, hv, hb⟩
  replace HB := bel_call HB hb
  replace HB1 := bel_call HB1 hb
  clear p1x0 p1x1 p1x2 p1x3 p1x4 p1x5 p1x6
  clear hb
  have HGS := hid HB.size
  obtain ⟨A2a, n2a, c2a, rfl, hs2a⟩ := hv.read
  have hw2 : ChnWf d2 := (by rw [← Qd2.out]; exact fa_wf HW.out.1 HW.out.2)
  clear hv
  have hba := bel_alloc (Below.refl w3.heap.size w3) (Obj.cells #[.int .u64 d2.Id, .int .u64 d2.Local, .int .u64 d2.Remote, .int .u64 d2.Reserve, .int .u64 d2.Most, .slice A2a n2a c2a, .bool d2.Open] 26)
  have B2 : Box (w3.alloc (Obj.cells #[.int .u64 d2.Id, .int .u64 d2.Local, .int .u64 d2.Remote, .int .u64 d2.Reserve, .int .u64 d2.Most, .slice A2a n2a c2a, .bool d2.Open] 26)) w3.heap.size 26 [.int .u64 d2.Id, .int .u64 d2.Local, .int .u64 d2.Remote, .int .u64 d2.Reserve, .int .u64 d2.Most, .slice A2a n2a c2a, .bool d2.Open] := Box.new w3 _ _
  have S2a := Sl.call hs2a hba
  replace HB := bel_call HB hba
  replace HB1 := bel_call HB1 hba
  clear hba hs2a
  go_upto_region 6 with (fail)
  generalize w3.alloc (Obj.cells #[.int .u64 d2.Id, .int .u64 d2.Local, .int .u64 d2.Remote, .int .u64 d2.Reserve, .int .u64 d2.Most, .slice A2a n2a c2a, .bool d2.Open] 26) = W2 at *
  generalize hg : w3.heap.size = g2 at *
  clear hg
  have K2 := hid (fun (W : World) (h : Below W2.heap.size W2 W) => (show W.cell? ⟨g2, 0, none⟩ = some (.int .u64 d2.Id) ∧ W.cell? ⟨g2, 1, none⟩ = some (.int .u64 d2.Local) ∧ W.cell? ⟨g2, 2, none⟩ = some (.int .u64 d2.Remote) ∧ W.cell? ⟨g2, 3, none⟩ = some (.int .u64 d2.Reserve) ∧ W.cell? ⟨g2, 4, none⟩ = some (.int .u64 d2.Most) ∧ W.cell? ⟨g2, 5, none⟩ = some (.slice A2a n2a c2a) ∧ W.cell? ⟨g2, 6, none⟩ = some (.bool d2.Open) from ⟨(B2.call h).at_ 0 rfl, (B2.call h).at_ 1 rfl, (B2.call h).at_ 2 rfl, (B2.call h).at_ 3 rfl, (B2.call h).at_ 4 rfl, (B2.call h).at_ 5 rfl, (B2.call h).at_ 6 rfl⟩))
  have P2 := hid (fun (W : World) (h : Below W2.heap.size W2 W) => (show lay_Channel.rep W (· < W.heap.size) d2 #[.int .u64 d2.Id, .int .u64 d2.Local, .int .u64 d2.Remote, .int .u64 d2.Reserve, .int .u64 d2.Most, .slice A2a n2a c2a, .bool d2.Open].toList from chan_in hw2 S2a h))
  have HB2 := Below.refl W2.heap.size W2
  have KB2 := hid (fun (W : World) (h : Below W2.heap.size W2 W) => B2.call h)
  clear B2 S2a
  have HG2 := HGS
  have HOK := hid (show (enC cc hold paid).Holds.length ≤ 1000 from ok_holds (en_is HW.out.1 HW.out.2 HC.out.2.2.2).2.1)
  have hn : n ≤ 500 := by have := HG.out.1; rw [HL.out] at this; omega
  cases paid with
  | false =>
    have HD := hid (show enC cc hold false = d2 from Qd2.out)
    rw [HD.out] at HOK HEN
    obtain ⟨p2x0, p2x1, p2x2, p2x3, p2x4, p2x5, p2x6⟩ := K2.out _ HB2
    have HS := hid HB.size
    go_wp2_with fail
    with_reducible refine (refWith10_any _ _ _ l _ d2 _ (HSL.out _ HB) (P2.out _ HB2) hn ⟨fun c hc => lg_holds HG.out hc, HOK.out⟩).mono ?_
    rintro e w4 ⟨v, rfl, hv, hb⟩
    replace HB := bel_call HB hb
    replace HB1 := bel_call HB1 hb
    replace HB2 := bel_call HB2 hb
    clear p2x0 p2x1 p2x2 p2x3 p2x4 p2x5 p2x6
    clear hb
    have HV := hid (hv.lows (base' := w.heap.size) (lo' := w.heap.size) HS.out HS.out)
    clear hv
    go_wp2
    go_ret3
    exact ⟨_, by rw [HEN.out.1, Qe1.out, Qn2.out]; rfl, by rw [HEN.out.2]; exact HV.out, HB⟩
  | true =>
    obtain ⟨d3, hd3⟩ : ∃ z, seC cc hold = z := ⟨_, rfl⟩
    have Qd3 := hid hd3
    clear hd3
    have HD := hid (show enC cc hold true = d3 from Qd3.out)
    rw [HD.out] at HOK HEN
    have hw3 : ChnWf d3 := (by rw [← Qd3.out]; exact se_wf HW.out.1 HW.out.2)
    have HGW := hid ((KB2.out _ HB2).lt)
    obtain ⟨p1x0, p1x1, p1x2, p1x3, p1x4, p1x5, p1x6⟩ := K1.out _ HB1
    go_wp2_with fail
    with_reducible refine (refSettle9_any _ cc hold _ (P1.out _ HB1)).mono ?_
    rw [Qn2.out, Qd3.out, HC.out.2.2.2]
    rintro e w4 ⟨v, rfl, hv, hb⟩
    replace HB := bel_call HB hb
    replace HB1 := bel_call HB1 hb
    replace HB2 := bel_call HB2 hb
    clear p1x0 p1x1 p1x2 p1x3 p1x4 p1x5 p1x6
    clear hb
    obtain ⟨u, rfl, ho3⟩ := hv
    obtain ⟨A3, n3, c3, rfl, hs3⟩ := ho3.read
    clear hs3
    have B2 := KB2.out _ HB2
    obtain ⟨p2x0, p2x1, p2x2, p2x3, p2x4, p2x5, p2x6⟩ := K2.out _ HB2
    have f0 := B2.f 0
    have f1 := B2.f 1
    have f2 := B2.f 2
    have f3 := B2.f 3
    have f4 := B2.f 4
    have f5 := B2.f 5
    have f6 := B2.f 6
    have B3 : Box (((((((w4.setCell ⟨g2, 0, none⟩ (.int .u64 d3.Id)).setCell ⟨g2, 1, none⟩ (.int .u64 d3.Local)).setCell ⟨g2, 2, none⟩ (.int .u64 d3.Remote)).setCell ⟨g2, 3, none⟩ (.int .u64 d3.Reserve)).setCell ⟨g2, 4, none⟩ (.int .u64 d3.Most)).setCell ⟨g2, 5, none⟩ (.slice A3 n3 c3)).setCell ⟨g2, 6, none⟩ (.bool d3.Open)) g2 26 [.int .u64 d3.Id, .int .u64 d3.Local, .int .u64 d3.Remote, .int .u64 d3.Reserve, .int .u64 d3.Most, .slice A3 n3 c3, .bool d3.Open] := B2.all_ (vs := [.int .u64 d3.Id, .int .u64 d3.Local, .int .u64 d3.Remote, .int .u64 d3.Reserve, .int .u64 d3.Most, .slice A3 n3 c3, .bool d3.Open]) rfl
    have HO3 : OwnL lay_Hold (((((((w4.setCell ⟨g2, 0, none⟩ (.int .u64 d3.Id)).setCell ⟨g2, 1, none⟩ (.int .u64 d3.Local)).setCell ⟨g2, 2, none⟩ (.int .u64 d3.Remote)).setCell ⟨g2, 3, none⟩ (.int .u64 d3.Reserve)).setCell ⟨g2, 4, none⟩ (.int .u64 d3.Most)).setCell ⟨g2, 5, none⟩ (.slice A3 n3 c3)).setCell ⟨g2, 6, none⟩ (.bool d3.Open)) _ _ _ _ _ := OwnL.all_ (g := g2) (Nat.lt_of_lt_of_le HGW.out (Nat.le_refl _)) (Nat.lt_of_lt_of_le HGW.out (Nat.le_refl _)) [.int .u64 d3.Id, .int .u64 d3.Local, .int .u64 d3.Remote, .int .u64 d3.Reserve, .int .u64 d3.Most, .slice A3 n3 c3, .bool d3.Open] 0 _ ho3
    have HB9 : Below w.heap.size w (((((((w4.setCell ⟨g2, 0, none⟩ (.int .u64 d3.Id)).setCell ⟨g2, 1, none⟩ (.int .u64 d3.Local)).setCell ⟨g2, 2, none⟩ (.int .u64 d3.Remote)).setCell ⟨g2, 3, none⟩ (.int .u64 d3.Reserve)).setCell ⟨g2, 4, none⟩ (.int .u64 d3.Most)).setCell ⟨g2, 5, none⟩ (.slice A3 n3 c3)).setCell ⟨g2, 6, none⟩ (.bool d3.Open)) := Below.all_ HG2.out [.int .u64 d3.Id, .int .u64 d3.Local, .int .u64 d3.Remote, .int .u64 d3.Reserve, .int .u64 d3.Most, .slice A3 n3 c3, .bool d3.Open] 0 _ HB
    clear ho3 B2
    go_upto_region 8 with (fail)
    generalize (((((((w4.setCell ⟨g2, 0, none⟩ (.int .u64 d3.Id)).setCell ⟨g2, 1, none⟩ (.int .u64 d3.Local)).setCell ⟨g2, 2, none⟩ (.int .u64 d3.Remote)).setCell ⟨g2, 3, none⟩ (.int .u64 d3.Reserve)).setCell ⟨g2, 4, none⟩ (.int .u64 d3.Most)).setCell ⟨g2, 5, none⟩ (.slice A3 n3 c3)).setCell ⟨g2, 6, none⟩ (.bool d3.Open)) = W6 at *
    obtain ⟨A9, n9, c9, e9, hs9⟩ := HO3.read
    injection e9 with e91 e92 e93
    subst e91 e92 e93
    have P3 := (show lay_Channel.rep W6 (· < W6.heap.size) d3 #[.int .u64 d3.Id, .int .u64 d3.Local, .int .u64 d3.Remote, .int .u64 d3.Reserve, .int .u64 d3.Most, .slice A3 n3 c3, .bool d3.Open].toList from rep_Channel.2 ⟨_, _, _, rfl, hw3, hs9⟩)
    have q0 : W6.cell? ⟨g2, 0, none⟩ = some (.int .u64 d3.Id) := B3.at_ 0 rfl
    have q1 : W6.cell? ⟨g2, 1, none⟩ = some (.int .u64 d3.Local) := B3.at_ 1 rfl
    have q2 : W6.cell? ⟨g2, 2, none⟩ = some (.int .u64 d3.Remote) := B3.at_ 2 rfl
    have q3 : W6.cell? ⟨g2, 3, none⟩ = some (.int .u64 d3.Reserve) := B3.at_ 3 rfl
    have q4 : W6.cell? ⟨g2, 4, none⟩ = some (.int .u64 d3.Most) := B3.at_ 4 rfl
    have q5 : W6.cell? ⟨g2, 5, none⟩ = some (.slice A3 n3 c3) := B3.at_ 5 rfl
    have q6 : W6.cell? ⟨g2, 6, none⟩ = some (.bool d3.Open) := B3.at_ 6 rfl
    clear HB HB1 HB2 f0 f1 f2 f3 f4 f5 f6 p2x0 p2x1 p2x2 p2x3 p2x4 p2x5 p2x6
    have HB := HB9
    clear HB9
    have HS := hid HB.size
    go_wp2_with fail
    with_reducible refine (refWith10_any _ _ _ l _ d3 _ (HSL.out _ HB) P3 hn ⟨fun c hc => lg_holds HG.out hc, HOK.out⟩).mono ?_
    rintro e w5 ⟨v, rfl, hv, hb⟩
    replace HB := bel_call HB hb
    clear hb
    have HV := hid (hv.lows (base' := w.heap.size) (lo' := w.heap.size) HS.out HS.out)
    clear hv
    go_wp2
    go_ret3
    exact ⟨_, by rw [HEN.out.1, Qe1.out, Qn2.out]; rfl, by rw [HEN.out.2]; exact HV.out, HB⟩

set_option maxRecDepth 100000 in
set_option maxHeartbeats 4000000 in
theorem refOpen10_any (A : Option Addr) (n k : Nat) (l : List Chn) (s : Array Value) (c : Chn) (w : World) (h : Sl lay_Channel w (· < w.heap.size) A n k l) (r : lay_Channel.rep w (· < w.heap.size) c s.toList) :
    Calls Try.prog 13 #[.slice A n k, .agg s] w fun e w' => ∃ v, e = .returned (.tuple #[v, .int .i64 (opE l c)]) ∧ OwnL lay_Channel w' w.heap.size (some w.heap.size) 26 v (opL l c) ∧ Below w.heap.size w w' := by
  obtain ⟨A0a, n0a, c0a, rfl, hw0, hs0a⟩ := agg_Channel r
  clear r
  have HN := hid hs0a.len
  have HL := hid h.len
  have hcap := h.cap
  have hcap0 := hs0a.cap
  unfold maxLen at hcap hcap0
  have HSL := hid (fun (W : World) (h' : Below w.heap.size w W) => Sl.call h h')
  have HWL := hid (sl_chns h)
  have HB := Below.refl w.heap.size w
  have HNO := hid (show ∀ e, opE l c = e → e ≠ 0 → opL l c = [] from fun e he h0 => if_neg (by rw [he]; exact h0))
  have HBAD := hid (show ¬ (LgOk l ∧ ChOk c ∧ c.Open = true ∧ c.Holds = []) → opE l c = 1 from fun q => if_neg q)
  go_enter Try.func13, Try.ntmps13
  have hba := bel_alloc (Below.refl w.heap.size w) (Obj.cells #[.int .u64 c.Id, .int .u64 c.Local, .int .u64 c.Remote, .int .u64 c.Reserve, .int .u64 c.Most, .slice A0a n0a c0a, .bool c.Open] 26)
  have B0 : Box (w.alloc (Obj.cells #[.int .u64 c.Id, .int .u64 c.Local, .int .u64 c.Remote, .int .u64 c.Reserve, .int .u64 c.Most, .slice A0a n0a c0a, .bool c.Open] 26)) w.heap.size 26 [.int .u64 c.Id, .int .u64 c.Local, .int .u64 c.Remote, .int .u64 c.Reserve, .int .u64 c.Most, .slice A0a n0a c0a, .bool c.Open] := Box.new w _ _
  have S0a := Sl.call hs0a hba
  replace HB := bel_call HB hba
  clear hba hs0a
  go_upto_region 1 with (fail)
  generalize w.alloc (Obj.cells #[.int .u64 c.Id, .int .u64 c.Local, .int .u64 c.Remote, .int .u64 c.Reserve, .int .u64 c.Most, .slice A0a n0a c0a, .bool c.Open] 26) = W0 at *
  have K0 := hid (fun (W : World) (h : Below W0.heap.size W0 W) => (show W.cell? ⟨w.heap.size, 0, none⟩ = some (.int .u64 c.Id) ∧ W.cell? ⟨w.heap.size, 1, none⟩ = some (.int .u64 c.Local) ∧ W.cell? ⟨w.heap.size, 2, none⟩ = some (.int .u64 c.Remote) ∧ W.cell? ⟨w.heap.size, 3, none⟩ = some (.int .u64 c.Reserve) ∧ W.cell? ⟨w.heap.size, 4, none⟩ = some (.int .u64 c.Most) ∧ W.cell? ⟨w.heap.size, 5, none⟩ = some (.slice A0a n0a c0a) ∧ W.cell? ⟨w.heap.size, 6, none⟩ = some (.bool c.Open) from ⟨(B0.call h).at_ 0 rfl, (B0.call h).at_ 1 rfl, (B0.call h).at_ 2 rfl, (B0.call h).at_ 3 rfl, (B0.call h).at_ 4 rfl, (B0.call h).at_ 5 rfl, (B0.call h).at_ 6 rfl⟩))
  have P0 := hid (fun (W : World) (h : Below W0.heap.size W0 W) => (show lay_Channel.rep W (· < W.heap.size) c #[.int .u64 c.Id, .int .u64 c.Local, .int .u64 c.Remote, .int .u64 c.Reserve, .int .u64 c.Most, .slice A0a n0a c0a, .bool c.Open].toList from chan_in hw0 S0a h))
  have HB0 := Below.refl W0.heap.size W0
  clear B0 S0a
  obtain ⟨e1, he1⟩ : ∃ z, lgE l = z := ⟨_, rfl⟩
  have Qe1 := hid he1
  clear he1
  obtain ⟨e2, he2⟩ : ∃ z, chE c = z := ⟨_, rfl⟩
  have Qe2 := hid he2
  clear he2
  obtain ⟨p0x0, p0x1, p0x2, p0x3, p0x4, p0x5, p0x6⟩ := K0.out _ HB0
  go_wp2_with fail
  with_reducible refine (refCheck10_any _ _ _ l _ (HSL.out _ HB)).mono ?_
  rw [Qe1.out]
  rintro e w1 ⟨rfl, hb⟩
  replace HB := bel_call HB hb
  replace HB0 := bel_call HB0 hb
  clear p0x0 p0x1 p0x2 p0x3 p0x4 p0x5 p0x6
  clear hb
  by_cases hz : e1 = 0
  rotate_left
  · have dz : (e1 != 0) = true := by simpa using hz
    have HX := hid (HBAD.out (fun q => hz (by rw [← Qe1.out]; exact if_pos q.1)))
    go_wp2
    go_ret2
    exact ⟨_, by rw [HX.out]; rfl, by rw [HNO.out _ HX.out (by decide)]; exact OwnL.nil _ _ _ _ _, HB⟩
  subst hz
  have HG := hid (show LgOk l from by
    rcases lg_is (l := l) with ⟨g, -⟩ | ⟨-, e⟩
    · exact g
    · rw [Qe1.out] at e; cases e)
  obtain ⟨p0x0, p0x1, p0x2, p0x3, p0x4, p0x5, p0x6⟩ := K0.out _ HB0
  go_wp2_with fail
  with_reducible refine (refCheck9_any _ c _ (P0.out _ HB0)).mono ?_
  rw [Qe2.out]
  rintro e w2 ⟨rfl, hb⟩
  replace HB := bel_call HB hb
  replace HB0 := bel_call HB0 hb
  clear p0x0 p0x1 p0x2 p0x3 p0x4 p0x5 p0x6
  clear hb
  by_cases hz : e2 = 0
  rotate_left
  · obtain ⟨p0x0, p0x1, p0x2, p0x3, p0x4, p0x5, p0x6⟩ := K0.out _ HB0
    have dz : (e2 != 0) = true := by simpa using hz
    have HX := hid (HBAD.out (fun q => hz (by rw [← Qe2.out]; exact if_pos q.2.1)))
    go_wp2
    go_ret2
    exact ⟨_, by rw [HX.out]; rfl, by rw [HNO.out _ HX.out (by decide)]; exact OwnL.nil _ _ _ _ _, HB⟩
  subst hz
  have HCO := hid (show ChOk c from by
    rcases ch_is (c := c) with ⟨g, -⟩ | ⟨-, e⟩
    · exact g
    · rw [Qe2.out] at e; cases e)
  by_cases ho : c.Open = true
  rotate_left
  · have ho2 : c.Open = false := by simpa using ho
    obtain ⟨p0x0, p0x1, p0x2, p0x3, p0x4, p0x5, p0x6⟩ := K0.out _ HB0
    rw [ho2] at p0x6
    have HX := hid (HBAD.out (fun q => ho q.2.2.1))
    go_wp2
    go_ret2
    exact ⟨_, by rw [HX.out]; rfl, by rw [HNO.out _ HX.out (by decide)]; exact OwnL.nil _ _ _ _ _, HB⟩
  have HOP := hid ho
  clear ho
  by_cases hz : n0a = 0
  rotate_left
  · obtain ⟨p0x0, p0x1, p0x2, p0x3, p0x4, p0x5, p0x6⟩ := K0.out _ HB0
    rw [HOP.out] at p0x6
    have dn : decide ((0 : Int) < (n0a : Int)) = true := by simp; omega
    have dn2 : decide (0 < n0a) = true := by simp; omega
    have HX := hid (HBAD.out (fun q => hz (by rw [← HN.out, q.2.2.2]; rfl)))
    go_wp2
    go_ret2
    exact ⟨_, by rw [HX.out]; rfl, by rw [HNO.out _ HX.out (by decide)]; exact OwnL.nil _ _ _ _ _, HB⟩
  subst hz
  have HHD := hid (show c.Holds = [] from List.eq_nil_of_length_eq_zero HN.out)
  have HOE := hid (show opE l c = (if (chanF l c.Id).isSome = true then 6 else if l.length = 32 then 7 else if mMax < sumC (withC l c) then 8 else 0) from if_pos ⟨HG.out, HCO.out, HOP.out, HHD.out⟩)
  obtain ⟨p0x0, p0x1, p0x2, p0x3, p0x4, p0x5, p0x6⟩ := K0.out _ HB0
  rw [HOP.out] at p0x6
  go_wp2_with fail
  with_reducible refine (refFind10_any _ _ _ l c.Id _ (HSL.out _ HB)).mono ?_
  rintro e w3 ⟨i, rfl, hf, hb⟩
  replace HB := bel_call HB hb
  replace HB0 := bel_call HB0 hb
  clear p0x0 p0x1 p0x2 p0x3 p0x4 p0x5 p0x6
  clear hb
  rcases hf with ⟨j, hj, rfl, hc⟩ | ⟨rfl, hc⟩
  · have d0 : decide ((0 : Int) ≤ (j : Int)) = true := by simp
    have HX := hid (show opE l c = 6 from by rw [HOE.out, hc]; rfl)
    clear hc
    go_wp2
    go_ret2
    exact ⟨_, by rw [HX.out]; rfl, by rw [HNO.out _ HX.out (by decide)]; exact OwnL.nil _ _ _ _ _, HB⟩
  rw [hc] at HOE
  clear hc
  by_cases h32 : n = 32
  · have HX := hid (show opE l c = 7 from by rw [HOE.out, if_neg (by simp), if_pos (by rw [HL.out]; exact h32)])
    subst h32
    go_wp2
    go_ret2
    exact ⟨_, by rw [HX.out]; rfl, by rw [HNO.out _ HX.out (by decide)]; exact OwnL.nil _ _ _ _ _, HB⟩
  have HOE2 := hid (show opE l c = if mMax < sumC (withC l c) then 8 else 0 from by rw [HOE.out, if_neg (by simp), if_neg (by rw [HL.out]; exact h32)])
  clear HOE
  have d32 : ((n : Int) == 32) = false := by simp; omega
  have hn : n ≤ 500 := by have := HG.out.1; rw [HL.out] at this; omega
  have HS := hid HB.size
  obtain ⟨p0x0, p0x1, p0x2, p0x3, p0x4, p0x5, p0x6⟩ := K0.out _ HB0
  rw [HOP.out] at p0x6
  have PP := P0.out _ HB0
  rw [HOP.out] at PP
  go_wp2_with fail
  with_reducible refine (refWith10_any _ _ _ l _ c _ (HSL.out _ HB) PP hn ⟨fun x hx => lg_holds HG.out hx, ok_holds HCO.out⟩).mono ?_
  rintro e w4 ⟨v, rfl, hv, hb⟩
  replace HB := bel_call HB hb
  replace HB0 := bel_call HB0 hb
  clear p0x0 p0x1 p0x2 p0x3 p0x4 p0x5 p0x6
  clear hb
  have HV := hid (hv.lows (base' := w.heap.size) (lo' := w.heap.size) HS.out HS.out)
  clear hv
  obtain ⟨A9, n9, c9, rfl, hs9⟩ := HV.out.read
  have HV9 := HV.out
  have HB9 := Below.refl w4.heap.size w4
  obtain ⟨av, hav⟩ : ∃ z, allV (withC l c) = z := ⟨_, rfl⟩
  have Qav := hid hav
  clear hav
  go_wp2_with fail
  with_reducible refine (refAll10_any _ _ _ (withC l c) _ hs9).mono ?_
  rw [Qav.out]
  rintro e w5 ⟨rfl, hb⟩
  replace HB := bel_call HB hb
  replace HB0 := bel_call HB0 hb
  replace HB9 := bel_call HB9 hb
  clear hb
  by_cases hq : allB (withC l c)
  rotate_left
  · rw [decide_eq_false hq]
    have HX := hid (show opE l c = 8 from by rw [HOE2.out, if_pos (by unfold allB at hq; omega)])
    go_wp2
    go_ret2
    exact ⟨_, by rw [HX.out]; rfl, by rw [HNO.out _ HX.out (by decide)]; exact OwnL.nil _ _ _ _ _, HB⟩
  rw [decide_eq_true hq]
  have HX := hid (show opE l c = 0 from by rw [HOE2.out, if_neg (by unfold allB at hq; omega)])
  have HXL := hid (show opL l c = withC l c from if_pos HX.out)
  have HVE := hid (HV9.keep HB9)
  go_wp2
  go_ret2
  exact ⟨_, by rw [HX.out]; rfl, by rw [HXL.out]; exact HVE.out, HB⟩
end Go.Proofs.Ytanlpcndbfmkiaa
