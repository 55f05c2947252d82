/-
  The contracts of the document's Same, find, and all, of layer 10.
  The contracts of the document's where, and Copy, of layer 10.
  The contract of the document's with of layer 10.
  The contract of the document's Check of layer 10.
  The contracts of the document's Get, Where and Ours of layer 10.
  The contracts of the document's Close, Push, Hold and End of layer 10.
-/
import Derived.Test.YtpkfejfdbjoehaaLedgerKeepsWalk
import Derived.Test.YtpkfejfdbjoehaaPackCR
import Derived.StillTailTactics
import Derived.Test.YtpkfejfdbjoehaaAnyH
import Derived.Deep.QuietTactic
import Derived.Deep.CutRange
import Derived.Test.YtpkfejfdbjoehaaBox
namespace Go.Proofs.Ytpkfejfdbjoehaa
open Go.RowKit Go.WalkArith

theorem take_sameC {l o : List Chn} {j : Nat} (hx : j < l.length) (hy : j < o.length) (h : l.take j = o.take j) (e : l[j] = o[j]) : l.take (j + 1) = o.take (j + 1) := by
  rw [List.take_succ_eq_append_getElem hx, List.take_succ_eq_append_getElem hy, h, e]

theorem chanF_first {l : List Chn} {id : Int} {j : Nat} (hj : j < l.length) (h : ∀ i (hi : i < l.length), i < j → l[i].Id ≠ id) (e : l[j].Id = id) : chanF l id = some l[j] := by
  unfold chanF
  rw [List.find?_eq_some_iff_getElem]
  refine ⟨by simpa using e, j, hj, rfl, fun i hi => ?_⟩
  have := h i (by omega) hi
  simpa using this
theorem chanF_never {l : List Chn} {id : Int} (h : ∀ i (hi : i < l.length), l[i].Id ≠ id) : chanF l id = none := by
  refine List.find?_eq_none.2 fun x hx => ?_
  obtain ⟨i, hi, rfl⟩ := List.getElem_of_mem hx
  simpa using h i hi
/-- Where a channel is. -/
def FindC (l : List Chn) (id i : Int) : Prop := (∃ (j : Nat) (hj : j < l.length), i = j ∧ chanF l id = some l[j]) ∨ (i = -1 ∧ chanF l id = none)

theorem aa_le {c : Chn} : aaV c ≤ mMax := by
  unfold aaV
  split
  · rename_i h; exact h.2.2.2.2.2.2.2.2.2.2
  · decide
def allB (l : List Chn) : Prop := sumC l ≤ mMax
noncomputable instance (l : List Chn) : Decidable (allB l) := Classical.propDecidable _
noncomputable def allV (l : List Chn) : Int := if allB l then sumC l else 0

set_option maxRecDepth 100000 in
set_option maxHeartbeats 2000000 in
theorem refAll10_any (A : Option Addr) (n k : Nat) (l : List Chn) (w : World) (h : Sl lay_Channel w (· < w.heap.size) A n k l) :
    Calls Try.prog 54 #[.slice A n k] w fun e w' => e = .returned (.tuple #[.int .u64 (allV l), .bool (decide (allB l))]) ∧ Below w.heap.size w w' := by
  have HL := hid h.len
  have hcap := h.cap
  unfold maxLen at hcap
  have hwl := sl_chns h
  go_enter Try.func54, Try.ntmps54
  go_wp2
  go_loopw [4, 13] (fun sm i wr => ∃ j : Nat, j ≤ n ∧ i = .int .i64 j ∧ sm = .int .u64 (sumM ((l.take j).map aaV)) ∧ Hid (sumM ((l.take j).map aaV) ≤ mMax) ∧ Below w.heap.size w wr) (fun _ i _ => n - (intOf i).toNat)
  case atStart => exact ⟨0, Nat.zero_le _, rfl, rfl, hid (by simp [sumM, mMax]), Below.refl _ _⟩
  case round =>
  obtain ⟨j, hj, rfl, rfl, HM, hbel⟩ := hrel
  by_cases hlt : j < n
  · obtain ⟨b1, o1, A', n', c', hx1, rfl, hb1, t0, t1, t2, t3, t4, t5, t6, hw, hs⟩ := chn_at (Sl.call h hbel) hlt
    have hba := bel_alloc (Below.refl wr.heap.size wr) (Obj.cells #[.int .u64 l[j].Id, .int .u64 l[j].Local, .int .u64 l[j].Remote, .int .u64 l[j].Reserve, .int .u64 l[j].Most, .slice A' n' c', .bool l[j].Open] 28)
    have HA := hid (refAll9_any _ l[j] _ (chan_in hw hs hba))
    have HS := hid (sum_takeC hx1)
    have s1 := (sum_take_bd hwl j).1
    have s2 := sum_take_bd hwl (j + 1)
    have s3 := HM.out
    have s4 := aa_nonneg (hwl _ (List.getElem_mem hx1)).1 (hwl _ (List.getElem_mem hx1)).2
    have s5 : aaV l[j] ≤ mMax := aa_le
    have hm : mMax = 4611686018427387904 := rfl
    obtain ⟨av, hav⟩ : ∃ z, aaV l[j] = z := ⟨_, rfl⟩
    obtain ⟨sv, hsv⟩ : ∃ z, sumM ((l.take j).map aaV) = z := ⟨_, rfl⟩
    rw [hav] at HA HS s4 s5
    rw [hsv] at HS s1 s3 ⊢
    have wav : (Lit.int .u64 av).wf = true := wf_u64 (by omega)
    have wsv : (Lit.int .u64 sv).wf = true := wf_u64 (by omega)
    have HC := hid (addE_cases2 sv av)
    have HBad := hid (show mMax < sv + av → ¬ allB l from fun q k => by
      have k' : sumC l ≤ mMax := k
      have := s2.2
      rw [HS.out] at this
      omega)
    clear s1 s2 s3 hs hav hsv
    generalize chE l[j] = ce at *
    go_wp2_with fail
    refine HA.out.mono ?_
    rintro e w5 ⟨rfl, hb5⟩
    have HB5 := bel_call hbel (bel_call hba hb5)
    have R2 := rd_twoB w5 sv av w5.heap.size rfl wsv wav
    have HB6 := bel_alloc HB5 (Obj.cells #[.int .u64 sv, .int .u64 av] 24)
    clear t0 t1 t2 t3 t4 t5 t6 hba hb5
    go_wp2_with fail
    refine (rmAdd_any _ _ _ _ _ _ R2).mono ?_
    by_cases q : sv + av ≤ mMax
    · have e1 := add_ok (l := [sv, av]) (by rw [allLe_iff]; intro x hx; simp at hx; rcases hx with rfl | rfl <;> omega) (by simp [sumM]; omega)
      rw [e1.1, e1.2, show sumM [sv, av] = sv + av from by simp [sumM]]
      rintro e w6 ⟨rfl, rfl⟩
      have HQ := hid (show sumM ((l.take (j + 1)).map aaV) ≤ mMax from by rw [HS.out]; exact q)
      clear q e1 R2
      go_wp2
      go_roundw
      case rel => exact ⟨j + 1, by omega, by go_num, by rw [HS.out], HQ, HB6⟩
      case measure => simp [intOf]; omega
    · have e1 : addE [sv, av] ≠ 0 := fun e => by
        have := (add_nums e).2.1
        simp [sumM] at this
        omega
      obtain ⟨ae, hae⟩ : ∃ z, addE [sv, av] = z := ⟨_, rfl⟩
      rw [hae] at e1 ⊢
      have dz : (ae != 0) = true := by simpa using e1
      have HE := hid (show allV l = 0 ∧ decide (allB l) = false from ⟨if_neg (HBad.out (by omega)), decide_eq_false (HBad.out (by omega))⟩)
      clear q e1 R2 hae
      generalize addN [sv, av] = an at *
      rintro e w6 ⟨rfl, rfl⟩
      go_wp2
      go_ret2
      exact ⟨by rw [HE.out.1, HE.out.2]; rfl, HB6⟩
  · have HT := hid (show l.take j = l from List.take_of_length_le (by rw [HL.out]; omega))
    have HE := hid (show sumM ((l.take j).map aaV) = allV l ∧ decide (allB l) = true from by
      have := HM.out
      rw [HT.out] at this ⊢
      exact ⟨(show allV l = sumC l from if_pos this).symm, decide_eq_true this⟩)
    rw [HE.out.1]
    go_wp2
    go_ret2
    exact ⟨by rw [HE.out.2]; rfl, hbel⟩
end Go.Proofs.Ytpkfejfdbjoehaa
namespace Go.Proofs.Ytpkfejfdbjoehaa
open Go.RowKit Go.WalkArith

theorem whereF_first {l : List Chn} {hold : Int} {j : Nat} (hj : j < l.length) (h : ∀ i (hi : i < l.length), i < j → holdF l[i].Holds hold = none) (e : (holdF l[j].Holds hold).isSome = true) : whereF l hold = some l[j] := by
  unfold whereF
  rw [List.find?_eq_some_iff_getElem]
  refine ⟨e, j, hj, rfl, fun i hi => ?_⟩
  have := h i (by omega) hi
  rw [this]
  rfl
theorem whereF_never {l : List Chn} {hold : Int} (h : ∀ i (hi : i < l.length), holdF l[i].Holds hold = none) : whereF l hold = none := by
  refine List.find?_eq_none.2 fun x hx => ?_
  obtain ⟨i, hi, rfl⟩ := List.getElem_of_mem hx
  rw [h i hi]
  decide
/-- Which channel has a hold. -/
def FindW (l : List Chn) (hold i : Int) : Prop := (∃ (j : Nat) (hj : j < l.length), i = j ∧ whereF l hold = some l[j]) ∨ (i = -1 ∧ whereF l hold = none)

set_option maxRecDepth 100000 in
set_option maxHeartbeats 2000000 in
theorem refWhereI_any (A : Option Addr) (n k : Nat) (l : List Chn) (hold : Int) (w : World) (h : Sl lay_Channel w (· < w.heap.size) A n k l) :
    Calls Try.prog 53 #[.slice A n k, .int .u64 hold] w fun e w' => ∃ i, e = .returned (.int .i64 i) ∧ FindW l hold i ∧ Below w.heap.size w w' := by
  have HL := hid h.len
  have hcap := h.cap
  unfold maxLen at hcap
  go_enter Try.func53, Try.ntmps53
  go_wp2
  go_loopw [11] (fun i wr => ∃ j : Nat, j ≤ n ∧ i = .int .i64 j ∧ Hid (∀ i (hi : i < l.length), i < j → holdF l[i].Holds hold = none) ∧ Below w.heap.size w wr) (fun i _ => n - (intOf i).toNat)
  case atStart => exact ⟨0, Nat.zero_le _, rfl, hid fun i hi h => absurd h (by omega), Below.refl _ _⟩
  case round =>
  obtain ⟨j, hj, rfl, HP, hbel⟩ := hrel
  by_cases hlt : j < n
  rotate_left
  · have HF := hid (show FindW l hold (-1) from .inr ⟨rfl, whereF_never fun i hi => HP.out i hi (by rw [HL.out] at hi; omega)⟩)
    go_wp2
    go_ret
    exact ⟨_, rfl, HF.out, hbel⟩
  obtain ⟨b1, o1, A', n', c', hx1, rfl, -, t0, t1, t2, t3, t4, t5, t6, -, hs⟩ := chn_at (Sl.call h hbel) hlt
  have hba := bel_alloc (Below.refl wr.heap.size wr) (Obj.cells #[.int .u64 l[j].Id, .int .u64 l[j].Local, .int .u64 l[j].Remote, .int .u64 l[j].Reserve, .int .u64 l[j].Most, .slice A' n' c', .bool l[j].Open] 28)
  have hs5 := Sl.call hs hba
  have HB5 := bel_call hbel hba
  have hcap5 := hs.cap
  have HL5 := hid hs.len
  unfold maxLen at hcap5
  clear hs
  go_wp2
  generalize wr.alloc (Obj.cells #[.int .u64 l[j].Id, .int .u64 l[j].Local, .int .u64 l[j].Remote, .int .u64 l[j].Reserve, .int .u64 l[j].Most, .slice A' n' c', .bool l[j].Open] 28) = W5 at *
  clear t0 t1 t2 t3 t4 t5 t6 hba hbel
  obtain ⟨wo, hwo⟩ : ∃ z, z = wr := ⟨_, rfl⟩
  subst hwo
  go_loopw [19] (fun i ws => ∃ m : Nat, m ≤ n' ∧ i = .int .i64 m ∧ Hid (∀ i (hi : i < l[j].Holds.length), i < m → l[j].Holds[i].Id ≠ hold) ∧ Below W5.heap.size W5 ws) (fun i _ => n' - (intOf i).toNat)
  case atStart => exact ⟨0, Nat.zero_le _, rfl, hid fun i hi h => absurd h (by omega), Below.refl _ _⟩
  case round =>
  obtain ⟨m, hm, rfl, HQ, hbs⟩ := hrel
  by_cases hl : m < n'
  · obtain ⟨b2, f2, hx2, rfl, -, u1, u2, -⟩ := hld_at (Sl.call hs5 hbs) hl
    have hbn := bel_alloc hbs (Obj.cells #[.int .u64 l[j].Holds[m].Id, .int .u64 l[j].Holds[m].N] 83)
    by_cases he : l[j].Holds[m].Id = hold
    · have de : (l[j].Holds[m].Id == hold) = true := by simpa using he
      have HF := hid (show FindW l hold (j : Int) from .inl ⟨j, hx1, rfl, whereF_first hx1 HP.out (holdF_is.2 ⟨_, List.getElem_mem hx2, he⟩)⟩)
      have HBE := hid (bel_call HB5 hbn)
      clear he
      go_wp2
      go_ret
      exact ⟨_, rfl, HF.out, HBE.out⟩
    · have de : (l[j].Holds[m].Id == hold) = false := by simpa using he
      have HN := hid (show ∀ i (hi : i < l[j].Holds.length), i < m + 1 → l[j].Holds[i].Id ≠ hold from fun i hi h => by
        by_cases hij : i < m
        · exact HQ.out i hi hij
        · have e : i = m := by omega
          subst e; exact he)
      clear he
      go_wp2
      go_roundw
      case rel => exact ⟨m + 1, by omega, by go_num, HN, hbn⟩
      case measure => simp [intOf]; omega
  · have HN := hid (show ∀ i (hi : i < l.length), i < j + 1 → holdF l[i].Holds hold = none from fun i hi h => by
      by_cases hij : i < j
      · exact HP.out i hi hij
      · have e : i = j := by omega
        subst e
        exact holdF_never fun q hq => HQ.out q hq (by rw [HL5.out] at hq; omega))
    have HBE := hid (bel_call HB5 hbs)
    go_wp2
    go_roundw
    case rel => exact ⟨j + 1, by omega, by go_num, HN, HBE.out⟩
    case measure => simp [intOf]; omega

theorem Try.infoChn : (Try.prog.info? 28).map (fun i => (i.zero, i.size, i.bytes)) = some (some (.agg #[.int .u64 0, .int .u64 0, .int .u64 0, .int .u64 0, .int .u64 0, .slice none 0 0, .bool false]), lay_Channel.size, 72) := by kernel_rfl

end Go.Proofs.Ytpkfejfdbjoehaa
namespace Go.Proofs.Ytpkfejfdbjoehaa
open Go.RowKit Go.WalkArith

theorem filter_takeC {p : Chn → Bool} {l : List Chn} {j : Nat} (hj : j < l.length) : (l.take (j + 1)).filter p = (l.take j).filter p ++ (if p l[j] = true then [l[j]] else []) := by
  rw [List.take_succ_eq_append_getElem hj, List.filter_append]
  congr 1
  by_cases h : p l[j] = true
  · rw [if_pos h]; simp [h]
  · rw [if_neg h]; simp [h]
theorem filter_lenC {p : Chn → Bool} (l : List Chn) (j : Nat) : ((l.take j).filter p).length ≤ l.length := by
  have h1 := List.length_filter_le p (l.take j)
  rw [List.length_take] at h1
  omega

end Go.Proofs.Ytpkfejfdbjoehaa
namespace Go.Proofs.Ytpkfejfdbjoehaa
open Go.RowKit Go.WalkArith

theorem lg_bad1 {l : List Chn} {j : Nat} (hj : j < l.length) (h : chE l[j] ≠ 0) : lgE l = 1 := if_neg fun q => h (if_pos (q.2.1 _ (List.getElem_mem hj)))
theorem lg_bad2 {l : List Chn} {k j : Nat} (hj : j < l.length) (hk : k < j) (h : l[j].Id ≤ l[k].Id) : lgE l = 1 := if_neg fun q => by
  have := List.pairwise_iff_getElem.1 q.2.2.1 k j (by omega) hj hk
  omega
theorem lg_bad3 {l : List Chn} {j : Nat} (hj : j < l.length) {x : Hld} (hx : x ∈ l[j].Holds) (h : whereF (l.take j) x.Id ≠ none) : lgE l = 1 := if_neg fun q => by
  cases hf : whereF (l.take j) x.Id with
  | none => exact h hf
  | some c =>
    have h1 := List.mem_of_find?_eq_some hf
    have h2 := List.find?_some hf
    obtain ⟨i, hi, rfl⟩ := List.getElem_of_mem h1
    rw [List.length_take] at hi
    rw [List.getElem_take] at h2
    cases hg : holdF l[i].Holds x.Id with
    | none => rw [hg] at h2; cases h2
    | some y =>
      have h3 := List.mem_of_find?_eq_some hg
      have h4 := List.find?_some hg
      exact List.pairwise_iff_getElem.1 q.2.2.2.1 i j (by omega) hj (by omega) y h3 x hx (by simpa using h4)
theorem Try.elemChn : Try.prog.elem 22 = 28 := by kernel_rfl
/-- What the loop over channels knows. -/
def PreL (l : List Chn) (j : Nat) : Prop := (∀ c ∈ l.take j, ChOk c) ∧ LUp (l.take j) ∧ HApart (l.take j)
theorem pre_step {l : List Chn} {j : Nat} (hj : j < l.length) (h : PreL l j) (h1 : chE l[j] = 0) (h2 : ∀ k (hk : k < l.length), k + 1 = j → l[k].Id < l[j].Id) (h3 : ∀ x ∈ l[j].Holds, whereF (l.take j) x.Id = none) : PreL l (j + 1) := by
  obtain ⟨a1, a2, a3⟩ := h
  have hc : ChOk l[j] := by
    by_cases q : ChOk l[j]
    · exact q
    · exact absurd (show chE l[j] = 1 from if_neg q) (by rw [h1]; decide)
  unfold PreL
  rw [List.take_succ_eq_append_getElem hj]
  refine ⟨fun c hcm => ?_, ?_, ?_⟩
  · rcases List.mem_append.1 hcm with q | q
    · exact a1 c q
    · simp at q; subst q; exact hc
  · unfold LUp
    rw [List.pairwise_append]
    refine ⟨a2, List.pairwise_singleton _ _, fun a ha b hb => ?_⟩
    simp only [List.mem_singleton] at hb
    subst hb
    obtain ⟨i, hi, rfl⟩ := List.getElem_of_mem ha
    rw [List.length_take] at hi
    rw [List.getElem_take]
    rcases Nat.lt_or_ge (i + 1) j with q | q
    · have g1 := List.pairwise_iff_getElem.1 a2 i (j - 1) (by rw [List.length_take]; omega) (by rw [List.length_take]; omega) (by omega)
      rw [List.getElem_take, List.getElem_take] at g1
      have g2 := h2 (j - 1) (by omega) (by omega)
      omega
    · exact h2 i (by omega) (by omega)
  · unfold HApart
    rw [List.pairwise_append]
    refine ⟨a3, List.pairwise_singleton _ _, fun a ha b hb y hy x hx e => ?_⟩
    simp only [List.mem_singleton] at hb
    subst hb
    have := List.find?_eq_none.1 (h3 x hx) a ha
    refine this ?_
    rw [holdF_is]
    exact ⟨y, hy, e⟩

set_option maxRecDepth 100000 in
set_option maxHeartbeats 4000000 in
theorem refCheck10_any (A : Option Addr) (n k : Nat) (l : List Chn) (w : World) (h : Sl lay_Channel w (· < w.heap.size) A n k l) :
    Calls Try.prog 35 #[.slice A n k] w fun e w' => e = .returned (.int .i64 (lgE l)) ∧ Below w.heap.size w w' := by
  have HL := hid h.len
  have hcap := h.cap
  unfold maxLen at hcap
  by_cases hbig : 32 < n
  · have HN := hid (show lgE l = 1 from if_neg fun k => by have := k.1; rw [HL.out] at this; omega)
    have d1 : decide ((32 : Int) < (n : Int)) = true := by simp; omega
    go_enter Try.func35, Try.ntmps35
    go_wp2
    go_ret
    exact ⟨ret_num HN.out.symm, Below.refl _ _⟩
  have d1 : decide ((32 : Int) < (n : Int)) = false := by simp; omega
  have HSL := hid (fun (W : World) (h' : Below w.heap.size w W) => Sl.call h h')
  go_enter Try.func35, Try.ntmps35
  go_wp2
  go_loopw [14] (fun i wr => ∃ j : Nat, j ≤ n ∧ i = .int .i64 j ∧ Hid (PreL l j) ∧ Below w.heap.size w wr) (fun i _ => n - (intOf i).toNat)
  case atStart => exact ⟨0, Nat.zero_le _, rfl, hid ⟨by simp, by simp [LUp], by simp [HApart]⟩, Below.refl _ _⟩
  case round =>
  obtain ⟨j, hj, rfl, HP, hbel⟩ := hrel
  by_cases hlt : j < n
  rotate_left
  · have HT := hid (show l.take j = l from List.take_of_length_le (by rw [HL.out]; omega))
    have HE := hid (show lgE l = if allB l then 0 else 1 from by
      have hp := HP.out
      unfold PreL at hp
      rw [HT.out] at hp
      unfold lgE
      by_cases q : allB l
      · rw [if_pos q, if_pos ⟨by rw [HL.out]; omega, hp.1, hp.2.1, hp.2.2, q⟩]
      · rw [if_neg q, if_neg fun g => q g.2.2.2.2])
    have HA := hid (refAll10_any A n k l wr (HSL.out _ hbel))
    by_cases q : allB l
    · rw [decide_eq_true q] at HA
      rw [if_pos q] at HE
      clear q
      generalize allV l = av at *
      go_wp2_with fail
      with_reducible refine HA.out.mono ?_
      rintro e w5 ⟨rfl, hb5⟩
      go_wp2
      go_ret
      exact ⟨ret_num HE.out.symm, bel_call hbel hb5⟩
    · rw [decide_eq_false q] at HA
      rw [if_neg q] at HE
      clear q
      generalize allV l = av at *
      go_wp2_with fail
      with_reducible refine HA.out.mono ?_
      rintro e w5 ⟨rfl, hb5⟩
      go_wp2
      go_ret
      exact ⟨ret_num HE.out.symm, bel_call hbel hb5⟩
  obtain ⟨b1, o1, A', n', c', hx1, hA, hb1, t0, t1, t2, t3, t4, t5, t6, hw, hs⟩ := chn_at (Sl.call h hbel) hlt
  have hbw := bel_alloc (Below.refl wr.heap.size wr) (Obj.cells #[.int .u64 l[j].Id, .int .u64 l[j].Local, .int .u64 l[j].Remote, .int .u64 l[j].Reserve, .int .u64 l[j].Most, .slice A' n' c', .bool l[j].Open] 28)
  have hba := bel_call hbel hbw
  have BB := BoxC.new wr l[j] A' n' c'
  have HCK := hid (fun (W : World) (h' : Below (wr.alloc (Obj.cells #[.int .u64 l[j].Id, .int .u64 l[j].Local, .int .u64 l[j].Remote, .int .u64 l[j].Reserve, .int .u64 l[j].Most, .slice A' n' c', .bool l[j].Open] 28)).heap.size (wr.alloc (Obj.cells #[.int .u64 l[j].Id, .int .u64 l[j].Local, .int .u64 l[j].Remote, .int .u64 l[j].Reserve, .int .u64 l[j].Most, .slice A' n' c', .bool l[j].Open] 28)) W) => refCheck9_any _ l[j] W (chan_in hw hs (bel_call hbw h')))
  have HSX := hid (fun (W : World) (h' : Below (wr.alloc (Obj.cells #[.int .u64 l[j].Id, .int .u64 l[j].Local, .int .u64 l[j].Remote, .int .u64 l[j].Reserve, .int .u64 l[j].Most, .slice A' n' c', .bool l[j].Open] 28)).heap.size (wr.alloc (Obj.cells #[.int .u64 l[j].Id, .int .u64 l[j].Local, .int .u64 l[j].Remote, .int .u64 l[j].Reserve, .int .u64 l[j].Most, .slice A' n' c', .bool l[j].Open] 28)) W) => Sl.call hs (bel_call hbw h'))
  have KB := hid (fun (W : World) (h' : Below (wr.alloc (Obj.cells #[.int .u64 l[j].Id, .int .u64 l[j].Local, .int .u64 l[j].Remote, .int .u64 l[j].Reserve, .int .u64 l[j].Most, .slice A' n' c', .bool l[j].Open] 28)).heap.size (wr.alloc (Obj.cells #[.int .u64 l[j].Id, .int .u64 l[j].Local, .int .u64 l[j].Remote, .int .u64 l[j].Reserve, .int .u64 l[j].Most, .slice A' n' c', .bool l[j].Open] 28)) W) => (BB.call h').all)
  have hsl := run_uptoL (P := Try.prog) 22 28 .i64 Try.underlying22 Try.elemChn Try.infoChn A n k j (by omega)
  by_cases hc : chE l[j] = 0
  rotate_left
  · have HE := hid (lg_bad1 hx1 hc)
    obtain ⟨ce, hce⟩ : ∃ z, chE l[j] = z := ⟨_, rfl⟩
    rw [hce] at HCK hc
    have dz : (ce != 0) = true := by simpa using hc
    clear hc hce hs hw BB
    subst hA
    go_upto_region 6 with (fail)
    generalize wr.alloc (Obj.cells #[.int .u64 l[j].Id, .int .u64 l[j].Local, .int .u64 l[j].Remote, .int .u64 l[j].Reserve, .int .u64 l[j].Most, .slice A' n' c', .bool l[j].Open] 28) = W1 at *
    generalize wr.heap.size = gr at *
    clear t0 t1 t2 t3 t4 t5 t6
    refine wp_region_held (S := fun w' : World => w'.cell? ⟨gr, 0, none⟩ = some (.int .u64 l[j].Id) ∧ w'.cell? ⟨gr, 1, none⟩ = some (.int .u64 l[j].Local) ∧ w'.cell? ⟨gr, 2, none⟩ = some (.int .u64 l[j].Remote) ∧ w'.cell? ⟨gr, 3, none⟩ = some (.int .u64 l[j].Reserve) ∧ w'.cell? ⟨gr, 4, none⟩ = some (.int .u64 l[j].Most) ∧ w'.cell? ⟨gr, 5, none⟩ = some (.slice A' n' c') ∧ w'.cell? ⟨gr, 6, none⟩ = some (.bool l[j].Open)) (by kernel_rfl) ?_
    have hS0 : (fun w' : World => w'.cell? ⟨gr, 0, none⟩ = some (.int .u64 l[j].Id) ∧ w'.cell? ⟨gr, 1, none⟩ = some (.int .u64 l[j].Local) ∧ w'.cell? ⟨gr, 2, none⟩ = some (.int .u64 l[j].Remote) ∧ w'.cell? ⟨gr, 3, none⟩ = some (.int .u64 l[j].Reserve) ∧ w'.cell? ⟨gr, 4, none⟩ = some (.int .u64 l[j].Most) ∧ w'.cell? ⟨gr, 5, none⟩ = some (.slice A' n' c') ∧ w'.cell? ⟨gr, 6, none⟩ = some (.bool l[j].Open)) (W1.drewN 1) := KB.out _ (bel_drewN (Below.refl W1.heap.size W1) 1)
    change wpAnyH _ _ _ _ _ 18 (Array.replicate 18 false) _ (W1.drewN 1)
    rw [show Array.replicate 18 false = #[false, false, false, false, false, false, false, false, false, false, false, false, false, false, false, false, false, false] from rfl]
    refine wpAnyH_yes 0 (some 19) (.agg #[.int .u64 l[j].Id, .int .u64 l[j].Local, .int .u64 l[j].Remote, .int .u64 l[j].Reserve, .int .u64 l[j].Most, .slice A' n' c', .bool l[j].Open]) rfl rfl (by kernel_rfl) (by kernel_rfl) (by kernel_rfl) (fun _ _ _ h => h) (by rfl) (fun w' hS => by have s0 := hS; obtain ⟨s0, s1, s2, s3, s4, s5, s6⟩ := s0; go_simp) hS0 ?_
    simp only [Act.put, List.setIfInBounds_toArray, List.set_cons_zero, List.set_cons_succ]
    refine wpAnyH_step 1 _ (by kernel_rfl) rfl (by rfl) ?_
    go_simp
    refine (HCK.out _ (Below.refl W1.heap.size W1).drew).mono ?_
    rintro e w6 ⟨rfl, hb6⟩
    have HH6 := bel_call (Below.refl W1.heap.size W1).drew hb6
    have hS6 := KB.out _ HH6
    refine ⟨hS6, ?_⟩
    try simp only [Act.put, List.setIfInBounds_toArray, List.set_cons_zero, List.set_cons_succ]
    refine wpAnyH_yes 2 (some 21) (.bool true) rfl rfl (by kernel_rfl) (by kernel_rfl) (by kernel_rfl) (fun _ _ _ h => h) (by rfl) (fun w' hS => by go_simp) hS6 ?_
    simp only [Act.put, List.setIfInBounds_toArray, List.set_cons_zero, List.set_cons_succ]
    refine wpAnyH_yes 3 (some 22) (.bool true) rfl rfl (by kernel_rfl) (by kernel_rfl) (by kernel_rfl) (fun _ _ _ h => h) (by rfl) (fun w' hS => by go_simp) hS6 ?_
    simp only [Act.put, List.setIfInBounds_toArray, List.set_cons_zero, List.set_cons_succ]
    refine wpAnyH_no 4 (some 23) rfl rfl (by kernel_rfl) (by kernel_rfl) (by kernel_rfl) (fun _ _ _ h => h) (by rfl) hS6 ?_
    simp only [Act.put, List.setIfInBounds_toArray, List.set_cons_zero, List.set_cons_succ]
    refine wpAnyH_no 5 (some 24) rfl rfl (by kernel_rfl) (by kernel_rfl) (by kernel_rfl) (fun _ _ _ h => h) (by rfl) hS6 ?_
    simp only [Act.put, List.setIfInBounds_toArray, List.set_cons_zero, List.set_cons_succ]
    refine wpAnyH_no 6 (some 25) rfl rfl (by kernel_rfl) (by kernel_rfl) (by kernel_rfl) (fun _ _ _ h => h) (by rfl) hS6 ?_
    simp only [Act.put, List.setIfInBounds_toArray, List.set_cons_zero, List.set_cons_succ]
    refine wpAnyH_no 7 (some 26) rfl rfl (by kernel_rfl) (by kernel_rfl) (by kernel_rfl) (fun _ _ _ h => h) (by rfl) hS6 ?_
    simp only [Act.put, List.setIfInBounds_toArray, List.set_cons_zero, List.set_cons_succ]
    refine wpAnyH_no 8 (some 27) rfl rfl (by kernel_rfl) (by kernel_rfl) (by kernel_rfl) (fun _ _ _ h => h) (by rfl) hS6 ?_
    simp only [Act.put, List.setIfInBounds_toArray, List.set_cons_zero, List.set_cons_succ]
    refine wpAnyH_no 9 (some 28) rfl rfl (by kernel_rfl) (by kernel_rfl) (by kernel_rfl) (fun _ _ _ h => h) (by rfl) hS6 ?_
    simp only [Act.put, List.setIfInBounds_toArray, List.set_cons_zero, List.set_cons_succ]
    refine wpAnyH_no 10 (some 29) rfl rfl (by kernel_rfl) (by kernel_rfl) (by kernel_rfl) (fun _ _ _ h => h) (by rfl) hS6 ?_
    simp only [Act.put, List.setIfInBounds_toArray, List.set_cons_zero, List.set_cons_succ]
    refine wpAnyH_no 11 (some 30) rfl rfl (by kernel_rfl) (by kernel_rfl) (by kernel_rfl) (fun _ _ _ h => h) (by rfl) hS6 ?_
    simp only [Act.put, List.setIfInBounds_toArray, List.set_cons_zero, List.set_cons_succ]
    refine wpAnyH_no 12 (some 31) rfl rfl (by kernel_rfl) (by kernel_rfl) (by kernel_rfl) (fun _ _ _ h => h) (by rfl) hS6 ?_
    simp only [Act.put, List.setIfInBounds_toArray, List.set_cons_zero, List.set_cons_succ]
    refine wpAnyH_no 13 (some 32) rfl rfl (by kernel_rfl) (by kernel_rfl) (by kernel_rfl) (fun _ _ _ h => h) (by rfl) hS6 ?_
    simp only [Act.put, List.setIfInBounds_toArray, List.set_cons_zero, List.set_cons_succ]
    refine wpAnyH_no 14 (some 33) rfl rfl (by kernel_rfl) (by kernel_rfl) (by kernel_rfl) (fun _ _ _ h => h) (by rfl) hS6 ?_
    simp only [Act.put, List.setIfInBounds_toArray, List.set_cons_zero, List.set_cons_succ]
    refine wpAnyH_no 15 (some 34) rfl rfl (by kernel_rfl) (by kernel_rfl) (by kernel_rfl) (fun _ _ _ h => h) (by rfl) hS6 ?_
    simp only [Act.put, List.setIfInBounds_toArray, List.set_cons_zero, List.set_cons_succ]
    refine wpAnyH_no 16 (some 35) rfl rfl (by kernel_rfl) (by kernel_rfl) (by kernel_rfl) (fun _ _ _ h => h) (by rfl) hS6 ?_
    simp only [Act.put, List.setIfInBounds_toArray, List.set_cons_zero, List.set_cons_succ]
    refine wpAnyH_yes 17 (some 36) (.bool true) rfl rfl (by kernel_rfl) (by kernel_rfl) (by kernel_rfl) (fun _ _ _ h => h) (by rfl) (fun w' hS => by go_simp) hS6 ?_
    simp only [Act.put, List.setIfInBounds_toArray, List.set_cons_zero, List.set_cons_succ]
    refine wpAnyH_done (by kernel_rfl) ?_ _
    go_wp2
    go_ret
    exact ⟨ret_num HE.out.symm, bel_call hba HH6⟩
  have HCE := hid hc
  rw [hc] at HCK
  clear hc
  by_cases hz : j = 0
  · have HSTEP := hid (fun h3 => pre_step hx1 HP.out HCE.out (fun k hk e => by omega) h3)
    have d2 : decide ((0 : Int) < (j : Int)) = false := by simp; omega
    have d2' : decide (0 < j) = false := by simp; omega
    clear hs hw BB hz
    subst hA
    go_upto_region 6 with (fail)
    generalize wr.alloc (Obj.cells #[.int .u64 l[j].Id, .int .u64 l[j].Local, .int .u64 l[j].Remote, .int .u64 l[j].Reserve, .int .u64 l[j].Most, .slice A' n' c', .bool l[j].Open] 28) = W1 at *
    generalize wr.heap.size = gr at *
    clear t0 t1 t2 t3 t4 t5 t6
    refine wp_region_held (S := fun w' : World => w'.cell? ⟨gr, 0, none⟩ = some (.int .u64 l[j].Id) ∧ w'.cell? ⟨gr, 1, none⟩ = some (.int .u64 l[j].Local) ∧ w'.cell? ⟨gr, 2, none⟩ = some (.int .u64 l[j].Remote) ∧ w'.cell? ⟨gr, 3, none⟩ = some (.int .u64 l[j].Reserve) ∧ w'.cell? ⟨gr, 4, none⟩ = some (.int .u64 l[j].Most) ∧ w'.cell? ⟨gr, 5, none⟩ = some (.slice A' n' c') ∧ w'.cell? ⟨gr, 6, none⟩ = some (.bool l[j].Open)) (by kernel_rfl) ?_
    have hS0 : (fun w' : World => w'.cell? ⟨gr, 0, none⟩ = some (.int .u64 l[j].Id) ∧ w'.cell? ⟨gr, 1, none⟩ = some (.int .u64 l[j].Local) ∧ w'.cell? ⟨gr, 2, none⟩ = some (.int .u64 l[j].Remote) ∧ w'.cell? ⟨gr, 3, none⟩ = some (.int .u64 l[j].Reserve) ∧ w'.cell? ⟨gr, 4, none⟩ = some (.int .u64 l[j].Most) ∧ w'.cell? ⟨gr, 5, none⟩ = some (.slice A' n' c') ∧ w'.cell? ⟨gr, 6, none⟩ = some (.bool l[j].Open)) (W1.drewN 1) := KB.out _ (bel_drewN (Below.refl W1.heap.size W1) 1)
    change wpAnyH _ _ _ _ _ 18 (Array.replicate 18 false) _ (W1.drewN 1)
    rw [show Array.replicate 18 false = #[false, false, false, false, false, false, false, false, false, false, false, false, false, false, false, false, false, false] from rfl]
    refine wpAnyH_yes 0 (some 19) (.agg #[.int .u64 l[j].Id, .int .u64 l[j].Local, .int .u64 l[j].Remote, .int .u64 l[j].Reserve, .int .u64 l[j].Most, .slice A' n' c', .bool l[j].Open]) rfl rfl (by kernel_rfl) (by kernel_rfl) (by kernel_rfl) (fun _ _ _ h => h) (by rfl) (fun w' hS => by have s0 := hS; obtain ⟨s0, s1, s2, s3, s4, s5, s6⟩ := s0; go_simp) hS0 ?_
    simp only [Act.put, List.setIfInBounds_toArray, List.set_cons_zero, List.set_cons_succ]
    refine wpAnyH_step 1 _ (by kernel_rfl) rfl (by rfl) ?_
    go_simp
    refine (HCK.out _ (Below.refl W1.heap.size W1).drew).mono ?_
    rintro e w6 ⟨rfl, hb6⟩
    have HH6 := bel_call (Below.refl W1.heap.size W1).drew hb6
    have hS6 := KB.out _ HH6
    refine ⟨hS6, ?_⟩
    try simp only [Act.put, List.setIfInBounds_toArray, List.set_cons_zero, List.set_cons_succ]
    refine wpAnyH_yes 2 (some 21) (.bool false) rfl rfl (by kernel_rfl) (by kernel_rfl) (by kernel_rfl) (fun _ _ _ h => h) (by rfl) (fun w' hS => by go_simp) hS6 ?_
    simp only [Act.put, List.setIfInBounds_toArray, List.set_cons_zero, List.set_cons_succ]
    refine wpAnyH_yes 3 (some 22) (.bool false) rfl rfl (by kernel_rfl) (by kernel_rfl) (by kernel_rfl) (fun _ _ _ h => h) (by rfl) (fun w' hS => by go_simp) hS6 ?_
    simp only [Act.put, List.setIfInBounds_toArray, List.set_cons_zero, List.set_cons_succ]
    refine wpAnyH_yes 4 (some 23) (.int .i64 j) rfl rfl (by kernel_rfl) (by kernel_rfl) (by kernel_rfl) (fun _ _ _ h => h) (by rfl) (fun w' hS => by go_simp) hS6 ?_
    simp only [Act.put, List.setIfInBounds_toArray, List.set_cons_zero, List.set_cons_succ]
    refine wpAnyH_yes 5 (some 24) (.bool false) rfl rfl (by kernel_rfl) (by kernel_rfl) (by kernel_rfl) (fun _ _ _ h => h) (by rfl) (fun w' hS => by go_simp) hS6 ?_
    simp only [Act.put, List.setIfInBounds_toArray, List.set_cons_zero, List.set_cons_succ]
    refine wpAnyH_yes 6 (some 25) (.bool false) rfl rfl (by kernel_rfl) (by kernel_rfl) (by kernel_rfl) (fun _ _ _ h => h) (by rfl) (fun w' hS => by go_simp) hS6 ?_
    simp only [Act.put, List.setIfInBounds_toArray, List.set_cons_zero, List.set_cons_succ]
    refine wpAnyH_no 7 (some 26) rfl rfl (by kernel_rfl) (by kernel_rfl) (by kernel_rfl) (fun _ _ _ h => h) (by rfl) hS6 ?_
    simp only [Act.put, List.setIfInBounds_toArray, List.set_cons_zero, List.set_cons_succ]
    refine wpAnyH_no 8 (some 27) rfl rfl (by kernel_rfl) (by kernel_rfl) (by kernel_rfl) (fun _ _ _ h => h) (by rfl) hS6 ?_
    simp only [Act.put, List.setIfInBounds_toArray, List.set_cons_zero, List.set_cons_succ]
    refine wpAnyH_no 9 (some 28) rfl rfl (by kernel_rfl) (by kernel_rfl) (by kernel_rfl) (fun _ _ _ h => h) (by rfl) hS6 ?_
    simp only [Act.put, List.setIfInBounds_toArray, List.set_cons_zero, List.set_cons_succ]
    refine wpAnyH_no 10 (some 29) rfl rfl (by kernel_rfl) (by kernel_rfl) (by kernel_rfl) (fun _ _ _ h => h) (by rfl) hS6 ?_
    simp only [Act.put, List.setIfInBounds_toArray, List.set_cons_zero, List.set_cons_succ]
    refine wpAnyH_no 11 (some 30) rfl rfl (by kernel_rfl) (by kernel_rfl) (by kernel_rfl) (fun _ _ _ h => h) (by rfl) hS6 ?_
    simp only [Act.put, List.setIfInBounds_toArray, List.set_cons_zero, List.set_cons_succ]
    refine wpAnyH_no 12 (some 31) rfl rfl (by kernel_rfl) (by kernel_rfl) (by kernel_rfl) (fun _ _ _ h => h) (by rfl) hS6 ?_
    simp only [Act.put, List.setIfInBounds_toArray, List.set_cons_zero, List.set_cons_succ]
    refine wpAnyH_no 13 (some 32) rfl rfl (by kernel_rfl) (by kernel_rfl) (by kernel_rfl) (fun _ _ _ h => h) (by rfl) hS6 ?_
    simp only [Act.put, List.setIfInBounds_toArray, List.set_cons_zero, List.set_cons_succ]
    refine wpAnyH_no 14 (some 33) rfl rfl (by kernel_rfl) (by kernel_rfl) (by kernel_rfl) (fun _ _ _ h => h) (by rfl) hS6 ?_
    simp only [Act.put, List.setIfInBounds_toArray, List.set_cons_zero, List.set_cons_succ]
    refine wpAnyH_no 15 (some 34) rfl rfl (by kernel_rfl) (by kernel_rfl) (by kernel_rfl) (fun _ _ _ h => h) (by rfl) hS6 ?_
    simp only [Act.put, List.setIfInBounds_toArray, List.set_cons_zero, List.set_cons_succ]
    refine wpAnyH_yes 16 (some 35) (.bool false) rfl rfl (by kernel_rfl) (by kernel_rfl) (by kernel_rfl) (fun _ _ _ h => h) (by rfl) (fun w' hS => by go_simp) hS6 ?_
    simp only [Act.put, List.setIfInBounds_toArray, List.set_cons_zero, List.set_cons_succ]
    refine wpAnyH_yes 17 (some 36) (.bool false) rfl rfl (by kernel_rfl) (by kernel_rfl) (by kernel_rfl) (fun _ _ _ h => h) (by rfl) (fun w' hS => by go_simp) hS6 ?_
    simp only [Act.put, List.setIfInBounds_toArray, List.set_cons_zero, List.set_cons_succ]
    refine wpAnyH_done (by kernel_rfl) ?_ _
    have QB := KB.out _ HH6
    obtain ⟨p0, p1, p2, p3, p4, p5, p6⟩ := QB
    have HBX := hid (bel_call hba HH6)
    have hs6 := HSX.out _ HH6
    have HL6 := hid hs6.len
    have hcap6 := hs6.cap
    unfold maxLen at hcap6
    go_wp2
    clear p0 p1 p2 p3 p4 p5 p6
    obtain ⟨wo, hwo⟩ : ∃ z, z = wr := ⟨_, rfl⟩
    subst hwo
    go_loopw [40] (fun i ws => ∃ m : Nat, m ≤ n' ∧ i = .int .i64 m ∧ Hid (∀ i (hi : i < l[j].Holds.length), i < m → whereF (l.take j) l[j].Holds[i].Id = none) ∧ Below w6.heap.size w6 ws) (fun i _ => n' - (intOf i).toNat)
    case atStart => exact ⟨0, Nat.zero_le _, rfl, hid fun i hi h => absurd h (by omega), Below.refl _ _⟩
    case round =>
    obtain ⟨m, hm, rfl, HQ, hbs⟩ := hrel
    by_cases hl : m < n'
    · obtain ⟨b2, f2, hx2, rfl, hb2, u1, u2, -⟩ := hld_at (Sl.call hs6 hbs) hl
      have hbn := bel_alloc (Below.refl wr.heap.size wr) (Obj.cells #[.int .u64 l[j].Holds[m].Id, .int .u64 l[j].Holds[m].N] 83)
      have BH := BoxH.new wr l[j].Holds[m]
      have HB7 := bel_call (bel_call HBX.out hbs) hbn
      have HBN := hid (bel_call hbs hbn)
      have HHW := hid (fun (W : World) (h' : Below (wr.alloc (Obj.cells #[.int .u64 l[j].Holds[m].Id, .int .u64 l[j].Holds[m].N] 83)).heap.size (wr.alloc (Obj.cells #[.int .u64 l[j].Holds[m].Id, .int .u64 l[j].Holds[m].N] 83)) W) => refWhereI_any _ j k (l.take j) l[j].Holds[m].Id W (Sl.upto (HSL.out W (bel_call HB7 h')) (i := j) (by omega)))
      have HBad := hid (fun i (hf : FindW (l.take j) l[j].Holds[m].Id i) (h0 : 0 ≤ i) => lg_bad3 hx1 (List.getElem_mem hx2) (by
        rcases hf with ⟨q, hq, -, hw⟩ | ⟨rfl, -⟩
        · rw [hw]; simp
        · omega))
      have HNext := hid (fun (hf : FindW (l.take j) l[j].Holds[m].Id (-1)) => (show ∀ i (hi : i < l[j].Holds.length), i < m + 1 → whereF (l.take j) l[j].Holds[i].Id = none from fun i hi h => by
        by_cases hij : i < m
        · exact HQ.out i hi hij
        · have e : i = m := by omega
          subst e
          rcases hf with ⟨q, hq, h2, -⟩ | ⟨-, h2⟩
          · omega
          · exact h2))
      go_upto_region 11 with (fail)
      generalize hgd : wr.alloc (Obj.cells #[.int .u64 l[j].Holds[m].Id, .int .u64 l[j].Holds[m].N] 83) = W7 at *
      generalize wr.heap.size = gh at *
      clear hgd
      have KH := hid (fun (W : World) (h' : Below W7.heap.size W7 W) => (BH.call h').c0)
      have HH := Below.refl W7.heap.size W7
      have r0 := KH.out _ HH
      go_region_held3 (fun W => W.cell? ⟨gh, 0, none⟩ = some (.int .u64 l[j].Holds[m].Id))
        (first | exact KH.out _ HH | exact KH.out _ HH.drew | exact KH.out _ HH8)
        (first
          | (go_at_call 53; (with_reducible refine (HHW.out _ HH.drew).mono ?_); rintro e w8 ⟨i8, rfl, hf8, hb8⟩; have HH8 := bel_call HH.drew hb8)
          | (go_at_call 53; (with_reducible refine (HHW.out _ HH).mono ?_); rintro e w8 ⟨i8, rfl, hf8, hb8⟩; have HH8 := bel_call HH hb8))
      all_goals
        rcases hf8 with ⟨q8, hq8, rfl, hw8⟩ | ⟨rfl, hw8⟩
        · have HE := hid (HBad.out _ (.inl ⟨q8, hq8, rfl, hw8⟩) (by omega))
          have d8 : decide ((0 : Int) ≤ (q8 : Int)) = true := by simp
          clear hw8
          go_wp2
          go_ret
          exact ⟨ret_num HE.out.symm, bel_call HB7 HH8⟩
        · have HN2 := hid (HNext.out (.inr ⟨rfl, hw8⟩))
          clear hw8
          go_wp2
          go_roundw
          case rel => exact ⟨m + 1, by omega, by go_num, HN2, bel_call HBN.out HH8⟩
          case measure => simp [intOf]; omega
    · have HN3 := hid (HSTEP.out (fun x hx => by
        obtain ⟨i, hi, rfl⟩ := List.getElem_of_mem hx
        exact HQ.out i hi (by rw [HL6.out] at hi; omega)))
      have HBE := hid (bel_call HBX.out hbs)
      go_wp2
      go_roundw
      case rel => exact ⟨j + 1, by omega, by go_num, HN3, HBE.out⟩
      case measure => simp [intOf]; omega
  · obtain ⟨q, hq⟩ : ∃ q : Nat, q + 1 = j := ⟨j - 1, by omega⟩
    have hqn : (j : Int) - 1 = (q : Int) := by omega
    have hwq : IntKind.i64.wrap (q : Int) = (q : Int) := IntWalk.i64_in _ (by omega)
    have d2 : decide ((0 : Int) < (j : Int)) = true := by simp; omega
    have d2' : decide (0 < j) = true := by simp; omega
    obtain ⟨b2, o2, -, -, -, hx2, hA2, hb2, u0, -⟩ := chn_at (Sl.call h hbel) (show q < n by omega)
    rw [hA] at hA2
    injection hA2 with hA2
    injection hA2 with e1 e2
    subst e1 e2
    have hql : q < j := by omega
    have iq : (0 : Int) ≤ (q : Int) ∧ (q : Int) < (n : Int) := by omega
    have KU := hid (fun (W : World) (h' : Below (wr.alloc (Obj.cells #[.int .u64 l[j].Id, .int .u64 l[j].Local, .int .u64 l[j].Remote, .int .u64 l[j].Reserve, .int .u64 l[j].Most, .slice A' n' c', .bool l[j].Open] 28)).heap.size (wr.alloc (Obj.cells #[.int .u64 l[j].Id, .int .u64 l[j].Local, .int .u64 l[j].Remote, .int .u64 l[j].Reserve, .int .u64 l[j].Most, .slice A' n' c', .bool l[j].Open] 28)) W) => ((bel_call hbw h').cell (p := ⟨b1, o1 + q * 7, none⟩) hb1).trans u0)
    by_cases hup : l[q].Id < l[j].Id
    · have d3 : decide (l[j].Id ≤ l[q].Id) = false := by simp; omega
      have HSTEP := hid (fun h3 => pre_step hx1 HP.out HCE.out (fun k' hk' e => by
        have : k' = q := by omega
        subst this
        exact hup) h3)
      clear hs hw BB hz hup u0
      subst hA
      go_upto_region 6 with (fail)
      generalize wr.alloc (Obj.cells #[.int .u64 l[j].Id, .int .u64 l[j].Local, .int .u64 l[j].Remote, .int .u64 l[j].Reserve, .int .u64 l[j].Most, .slice A' n' c', .bool l[j].Open] 28) = W1 at *
      generalize wr.heap.size = gr at *
      clear t0 t1 t2 t3 t4 t5 t6
      have HH := Below.refl W1.heap.size W1
      obtain ⟨r0, r1, r2, r3, r4, r5, r6⟩ := KB.out _ HH
      have ru := KU.out _ HH
      go_region_held3 (fun w' => w'.cell? ⟨b1, o1 + q * 7, none⟩ = some (.int .u64 l[q].Id) ∧ w'.cell? ⟨gr, 0, none⟩ = some (.int .u64 l[j].Id) ∧ w'.cell? ⟨gr, 1, none⟩ = some (.int .u64 l[j].Local) ∧ w'.cell? ⟨gr, 2, none⟩ = some (.int .u64 l[j].Remote) ∧ w'.cell? ⟨gr, 3, none⟩ = some (.int .u64 l[j].Reserve) ∧ w'.cell? ⟨gr, 4, none⟩ = some (.int .u64 l[j].Most) ∧ w'.cell? ⟨gr, 5, none⟩ = some (.slice A' n' c') ∧ w'.cell? ⟨gr, 6, none⟩ = some (.bool l[j].Open))
        (first | exact ⟨KU.out _ HH, KB.out _ HH⟩ | exact ⟨KU.out _ HH.drew, KB.out _ HH.drew⟩ | exact ⟨KU.out _ HH6, KB.out _ HH6⟩)
        (first
          | (go_at_call 52; (with_reducible refine (HCK.out _ HH.drew).mono ?_); rintro e w6 ⟨rfl, hb6⟩; have HH6 := bel_call HH.drew hb6)
          | (go_at_call 52; (with_reducible refine (HCK.out _ HH).mono ?_); rintro e w6 ⟨rfl, hb6⟩; have HH6 := bel_call HH hb6))
      clear r0 r1 r2 r3 r4 r5 r6 ru
      have QB := KB.out _ HH6
      obtain ⟨p0, p1, p2, p3, p4, p5, p6⟩ := QB
      have HBX := hid (bel_call hba HH6)
      have hs6 := HSX.out _ HH6
      have HL6 := hid hs6.len
      have hcap6 := hs6.cap
      unfold maxLen at hcap6
      go_wp2
      clear p0 p1 p2 p3 p4 p5 p6
      obtain ⟨wo, hwo⟩ : ∃ z, z = wr := ⟨_, rfl⟩
      subst hwo
      go_loopw [40] (fun i ws => ∃ m : Nat, m ≤ n' ∧ i = .int .i64 m ∧ Hid (∀ i (hi : i < l[j].Holds.length), i < m → whereF (l.take j) l[j].Holds[i].Id = none) ∧ Below w6.heap.size w6 ws) (fun i _ => n' - (intOf i).toNat)
      case atStart => exact ⟨0, Nat.zero_le _, rfl, hid fun i hi h => absurd h (by omega), Below.refl _ _⟩
      case round =>
      obtain ⟨m, hm, rfl, HQ, hbs⟩ := hrel
      by_cases hl : m < n'
      · obtain ⟨b2, f2, hx2, rfl, hb2, u1, u2, -⟩ := hld_at (Sl.call hs6 hbs) hl
        have hbn := bel_alloc (Below.refl wr.heap.size wr) (Obj.cells #[.int .u64 l[j].Holds[m].Id, .int .u64 l[j].Holds[m].N] 83)
        have BH := BoxH.new wr l[j].Holds[m]
        have HB7 := bel_call (bel_call HBX.out hbs) hbn
        have HBN := hid (bel_call hbs hbn)
        have HHW := hid (fun (W : World) (h' : Below (wr.alloc (Obj.cells #[.int .u64 l[j].Holds[m].Id, .int .u64 l[j].Holds[m].N] 83)).heap.size (wr.alloc (Obj.cells #[.int .u64 l[j].Holds[m].Id, .int .u64 l[j].Holds[m].N] 83)) W) => refWhereI_any _ j k (l.take j) l[j].Holds[m].Id W (Sl.upto (HSL.out W (bel_call HB7 h')) (i := j) (by omega)))
        have HBad := hid (fun i (hf : FindW (l.take j) l[j].Holds[m].Id i) (h0 : 0 ≤ i) => lg_bad3 hx1 (List.getElem_mem hx2) (by
          rcases hf with ⟨q, hq, -, hw⟩ | ⟨rfl, -⟩
          · rw [hw]; simp
          · omega))
        have HNext := hid (fun (hf : FindW (l.take j) l[j].Holds[m].Id (-1)) => (show ∀ i (hi : i < l[j].Holds.length), i < m + 1 → whereF (l.take j) l[j].Holds[i].Id = none from fun i hi h => by
          by_cases hij : i < m
          · exact HQ.out i hi hij
          · have e : i = m := by omega
            subst e
            rcases hf with ⟨q, hq, h2, -⟩ | ⟨-, h2⟩
            · omega
            · exact h2))
        go_upto_region 11 with (fail)
        generalize hgd : wr.alloc (Obj.cells #[.int .u64 l[j].Holds[m].Id, .int .u64 l[j].Holds[m].N] 83) = W7 at *
        generalize wr.heap.size = gh at *
        clear hgd
        have KH := hid (fun (W : World) (h' : Below W7.heap.size W7 W) => (BH.call h').c0)
        have HH := Below.refl W7.heap.size W7
        have r0 := KH.out _ HH
        go_region_held3 (fun W => W.cell? ⟨gh, 0, none⟩ = some (.int .u64 l[j].Holds[m].Id))
          (first | exact KH.out _ HH | exact KH.out _ HH.drew | exact KH.out _ HH8)
          (first
            | (go_at_call 53; (with_reducible refine (HHW.out _ HH.drew).mono ?_); rintro e w8 ⟨i8, rfl, hf8, hb8⟩; have HH8 := bel_call HH.drew hb8)
            | (go_at_call 53; (with_reducible refine (HHW.out _ HH).mono ?_); rintro e w8 ⟨i8, rfl, hf8, hb8⟩; have HH8 := bel_call HH hb8))
        all_goals
          rcases hf8 with ⟨q8, hq8, rfl, hw8⟩ | ⟨rfl, hw8⟩
          · have HE := hid (HBad.out _ (.inl ⟨q8, hq8, rfl, hw8⟩) (by omega))
            have d8 : decide ((0 : Int) ≤ (q8 : Int)) = true := by simp
            clear hw8
            go_wp2
            go_ret
            exact ⟨ret_num HE.out.symm, bel_call HB7 HH8⟩
          · have HN2 := hid (HNext.out (.inr ⟨rfl, hw8⟩))
            clear hw8
            go_wp2
            go_roundw
            case rel => exact ⟨m + 1, by omega, by go_num, HN2, bel_call HBN.out HH8⟩
            case measure => simp [intOf]; omega
      · have HN3 := hid (HSTEP.out (fun x hx => by
          obtain ⟨i, hi, rfl⟩ := List.getElem_of_mem hx
          exact HQ.out i hi (by rw [HL6.out] at hi; omega)))
        have HBE := hid (bel_call HBX.out hbs)
        go_wp2
        go_roundw
        case rel => exact ⟨j + 1, by omega, by go_num, HN3, HBE.out⟩
        case measure => simp [intOf]; omega
    · have d3 : decide (l[j].Id ≤ l[q].Id) = true := by simp; omega
      have HE := hid (lg_bad2 hx1 hql (by omega))
      clear hs hw BB hz hup u0
      subst hA
      go_upto_region 6 with (fail)
      generalize wr.alloc (Obj.cells #[.int .u64 l[j].Id, .int .u64 l[j].Local, .int .u64 l[j].Remote, .int .u64 l[j].Reserve, .int .u64 l[j].Most, .slice A' n' c', .bool l[j].Open] 28) = W1 at *
      generalize wr.heap.size = gr at *
      clear t0 t1 t2 t3 t4 t5 t6
      have HH := Below.refl W1.heap.size W1
      obtain ⟨r0, r1, r2, r3, r4, r5, r6⟩ := KB.out _ HH
      have ru := KU.out _ HH
      go_region_held3 (fun w' => w'.cell? ⟨b1, o1 + q * 7, none⟩ = some (.int .u64 l[q].Id) ∧ w'.cell? ⟨gr, 0, none⟩ = some (.int .u64 l[j].Id) ∧ w'.cell? ⟨gr, 1, none⟩ = some (.int .u64 l[j].Local) ∧ w'.cell? ⟨gr, 2, none⟩ = some (.int .u64 l[j].Remote) ∧ w'.cell? ⟨gr, 3, none⟩ = some (.int .u64 l[j].Reserve) ∧ w'.cell? ⟨gr, 4, none⟩ = some (.int .u64 l[j].Most) ∧ w'.cell? ⟨gr, 5, none⟩ = some (.slice A' n' c') ∧ w'.cell? ⟨gr, 6, none⟩ = some (.bool l[j].Open))
        (first | exact ⟨KU.out _ HH, KB.out _ HH⟩ | exact ⟨KU.out _ HH.drew, KB.out _ HH.drew⟩ | exact ⟨KU.out _ HH6, KB.out _ HH6⟩)
        (first
          | (go_at_call 52; (with_reducible refine (HCK.out _ HH.drew).mono ?_); rintro e w6 ⟨rfl, hb6⟩; have HH6 := bel_call HH.drew hb6)
          | (go_at_call 52; (with_reducible refine (HCK.out _ HH).mono ?_); rintro e w6 ⟨rfl, hb6⟩; have HH6 := bel_call HH hb6))
      all_goals
        clear r0 r1 r2 r3 r4 r5 r6 ru
        go_wp2
        go_ret
        exact ⟨ret_num HE.out.symm, bel_call hba HH6⟩
end Go.Proofs.Ytpkfejfdbjoehaa
namespace Go.Proofs.Ytpkfejfdbjoehaa
open Go.RowKit Go.WalkArith

theorem lg_is {l : List Chn} : (LgOk l ∧ lgE l = 0) ∨ (¬ LgOk l ∧ lgE l = 1) := by
  by_cases g : LgOk l
  · exact .inl ⟨g, if_pos g⟩
  · exact .inr ⟨g, if_neg g⟩
theorem lg_holds {l : List Chn} (g : LgOk l) {c : Chn} (hc : c ∈ l) : c.Holds.length ≤ 1000 := by
  have := (g.2.1 c hc)
  unfold ChOk at this
  omega

theorem lg_take {l : List Chn} (g : LgOk l) (hw : ChnsWf l) (j : Nat) : LgOk (l.take j) :=
  ⟨by rw [List.length_take]; have := g.1; omega, fun c hc => g.2.1 c (List.mem_of_mem_take hc), g.2.2.1.sublist (List.take_sublist _ _), g.2.2.2.1.sublist (List.take_sublist _ _), by
    have h1 := (sum_take_bd hw j).2
    have h2 := g.2.2.2.2
    show sumM ((l.take j).map aaV) ≤ mMax
    omega⟩
theorem ours_take {l : List Chn} {j : Nat} (hj : j < l.length) : ourS (l.take (j + 1)) = ourS (l.take j) + (if l[j].Open = true then l[j].Local else 0) ∧ heldS (l.take (j + 1)) = heldS (l.take j) + heldN l[j] := by
  unfold ourS heldS
  rw [List.take_succ_eq_append_getElem hj, List.map_append, List.map_append, sumM_append, sumM_append]
  simp [sumM]

end Go.Proofs.Ytpkfejfdbjoehaa
namespace Go.Proofs.Ytpkfejfdbjoehaa
open Go.RowKit Go.WalkArith

theorem one_exit1 {l : List Chn} {id : Int} {e : Chn → Int} {d : Chn → Chn} (h : gtE l id ≠ 0) : oneE l id e = gtE l id ∧ oneL l id e d = [] := by
  have : oneE l id e = gtE l id := if_pos h
  exact ⟨this, if_neg (by rw [this]; exact h)⟩
theorem one_exit2 {l : List Chn} {id : Int} {e : Chn → Int} {d : Chn → Chn} (h : gtE l id = 0) (h2 : e (gtC l id) ≠ 0) : oneE l id e = e (gtC l id) ∧ oneL l id e d = [] := by
  have : oneE l id e = e (gtC l id) := if_neg (by simpa using h)
  exact ⟨this, if_neg (by rw [this]; exact h2)⟩
theorem one_in {l : List Chn} {id : Int} {e : Chn → Int} {d : Chn → Chn} (h : gtE l id = 0) (h2 : e (gtC l id) = 0) : oneE l id e = 0 ∧ oneL l id e d = withC l (d (gtC l id)) := by
  have : oneE l id e = e (gtC l id) := if_neg (by simpa using h)
  exact ⟨by rw [this, h2], if_pos (by rw [this]; exact h2)⟩
theorem gt_wf {l : List Chn} (hw : ChnsWf l) (id : Int) : ChnWf (gtC l id) ∧ HldsWf (gtC l id).Holds := by
  by_cases q : gtE l id = 0
  · exact hw _ (gt_is q).2.2.1
  · have : gtC l id = zeroCh := by
      unfold gtC
      by_cases g : LgOk l
      · rw [if_pos g]
        cases hf : chanF l id with
        | none => rfl
        | some z => exact absurd (by unfold gtE; rw [if_pos g, hf]) q
      · rw [if_neg g]
    rw [this]
    exact ⟨zero_wf, fun x hx => by simp [zeroCh] at hx⟩
theorem ok_holds {c : Chn} (h : ChOk c) : c.Holds.length ≤ 1000 := by
  unfold ChOk at h
  omega

end Go.Proofs.Ytpkfejfdbjoehaa
