/-
  Plain laws of octets cut off, and of a record behind.
-/
import Derived.Test.YtajgjalcomhhcaaTlvLaws
namespace Go.Proofs.Ytajgjalcomhhcaa
open Go.RowKit Go.WalkArith

theorem getRA_app (l : List Rec) (hw : ∀ r ∈ l, RecWf r) (acc : List Rec) (hm : MayBe (acc ++ l)) (ys : List Int) (f : Nat) (hf : (octsR l ++ ys).length ≤ f) : ∃ f', getRA f (octsR l ++ ys) acc = getRA f' ys (acc ++ l) ∧ ys.length ≤ f' := by
  induction l generalizing acc f with
  | nil => exact ⟨f, by rw [show octsR [] = [] from rfl]; simp, by simpa [octsR] using hf⟩
  | cons r l ih =>
    have hmr : MayBe (acc ++ [r]) := by
      have : acc ++ r :: l = (acc ++ [r]) ++ l := by simp
      rw [this] at hm
      exact hm.left
    obtain ⟨m1, m2, m3, m4⟩ := MayBe.snoc.1 hmr
    have hrw := hw r (by simp)
    obtain ⟨h1, h2, h3, h4, h5, h6⟩ := octR_rest r hrw m3 (octsR l ++ ys)
    have eq0 : octsR (r :: l) ++ ys = octR r ++ (octsR l ++ ys) := by rw [octsR_cons, List.append_assoc]
    rw [eq0] at hf ⊢
    have hn : recN (octR r ++ (octsR l ++ ys)) = r.V.length := by unfold recN; rw [h5]; rfl
    have hst : stepE (octR r ++ (octsR l ++ ys)) acc = 0 := by
      unfold stepE
      rw [if_neg (by omega), if_neg (by simp [h1]), if_neg (by rw [h2]; have := lastT_lt hmr hrw.1.1; omega), if_neg (by simp [h4]), if_neg (by rw [h5]; omega), if_neg (by rw [h6, hn, List.length_append]; omega)]
    obtain ⟨f', e, hf'⟩ := getRA_step f (octR r ++ (octsR l ++ ys)) acc hf (by simp [octR, oct]) hst
    have hrec : stepRec (octR r ++ (octsR l ++ ys)) = r := by
      unfold stepRec
      rw [h2, h6, hn, List.take_left]
    have hrest : stepRest (octR r ++ (octsR l ++ ys)) = octsR l ++ ys := by
      unfold stepRest
      rw [h6, hn, List.drop_left]
    rw [hrec, hrest] at e
    rw [hrest] at hf'
    obtain ⟨f2, e2, hf2⟩ := ih (fun x hx => hw x (by simp [hx])) (acc ++ [r]) (by simpa using hm) f' hf'
    exact ⟨f2, by rw [e, e2]; simp, hf2⟩

theorem octs_cut (l : List Rec) (k : Nat) (hk : k < (octsR l).length) : ∃ (j : Nat) (hj : j < l.length) (k' : Nat), k' < (octR l[j]).length ∧ (octsR l).take k = octsR (l.take j) ++ (octR l[j]).take k' := by
  induction l generalizing k with
  | nil => simp [octsR] at hk
  | cons r l ih =>
    rw [octsR_cons] at hk ⊢
    rcases Nat.lt_or_ge k (octR r).length with h | h
    · exact ⟨0, by simp, k, h, by rw [List.take_append_of_le_length (by omega)]; simp [octsR]⟩
    · rw [List.length_append] at hk
      obtain ⟨j, hj, k', h1, h2⟩ := ih (k - (octR r).length) (by omega)
      refine ⟨j + 1, by simp; omega, k', by simpa using h1, ?_⟩
      rw [List.take_append, List.take_of_length_le h, h2]
      simp [octsR_cons]

theorem getE_short {n : Int} (k : Nat) (hk : k < (oct n).length) : getE ((oct n).take k) = 3 := by
  rw [oct_len] at hk
  unfold getE
  rw [if_pos]
  rcases Nat.eq_zero_or_pos k with h | h
  · subst h; simp
  · have : nth ((oct n).take k) 0 = fst n := by rw [nth_take _ _ _ h]; rfl
    rw [this, List.length_take]
    omega
theorem step_short {r : Rec} {acc : List Rec} {k : Nat} (hw : RecWf r) (hv : r.V.length ≤ 4096) (ha : acc.length ≠ 64) (hT : lastT acc < r.T) (hk : k < (octR r).length) : stepE ((octR r).take k) acc = 3 := by
  have e0 : octR r = oct r.T ++ (oct r.V.length ++ r.V) := by simp [octR]
  rw [e0] at hk ⊢
  rw [List.length_append, List.length_append] at hk
  rcases Nat.lt_or_ge k (oct r.T).length with h1 | h1
  · rw [List.take_append_of_le_length (by omega)]
    have := getE_short (n := r.T) k h1
    unfold stepE
    rw [if_neg ha, if_pos (by omega), this]
  · rw [List.take_append, List.take_of_length_le h1]
    obtain ⟨g1, g2⟩ := get_put hw.1.1 hw.1.2 ((oct r.V.length ++ r.V).take (k - (oct r.T).length))
    have g3 : rest1 (oct r.T ++ (oct r.V.length ++ r.V).take (k - (oct r.T).length)) = (oct r.V.length ++ r.V).take (k - (oct r.T).length) := by
      unfold rest1
      rw [g2, List.drop_left]
    unfold stepE
    rw [if_neg ha, if_neg (by simp [g1]), if_neg (by rw [g2]; omega), g3]
    unfold rest2 recN
    rw [g3]
    rcases Nat.lt_or_ge (k - (oct r.T).length) (oct r.V.length).length with h2 | h2
    · rw [List.take_append_of_le_length (by omega)]
      have := getE_short (n := (r.V.length : Int)) _ h2
      rw [if_pos (by omega), this]
    · rw [List.take_append, List.take_of_length_le h2]
      obtain ⟨g4, g5⟩ := get_put (n := (r.V.length : Int)) (by omega) (by omega) (r.V.take (k - (oct r.T).length - (oct r.V.length).length))
      rw [if_neg (by simp [g4]), g5, if_neg (by omega), List.drop_left, if_pos]
      rw [List.length_take]
      simp only [Int.toNat_natCast]
      omega

theorem MayBe.at_last {l : List Rec} (h : MayBe l) (hw : ∀ r ∈ l, RecWf r) {j : Nat} (hj : j < l.length) : MayBe (l.take j) ∧ (l.take j).length ≠ 64 ∧ lastT (l.take j) < l[j].T := by
  have e : l.take j ++ [l[j]] = l.take (j + 1) := (List.take_succ_eq_append_getElem hj).symm
  have h1 : MayBe (l.take j ++ [l[j]]) := by
    rw [e]
    have h2 : l = l.take (j + 1) ++ l.drop (j + 1) := (List.take_append_drop _ _).symm
    rw [h2] at h
    exact h.left
  have h3 := MayBe.snoc.1 h1
  exact ⟨h3.1, by omega, lastT_lt h1 (hw _ (List.getElem_mem hj)).1.1⟩

/-- Octets cut off: some of the records, or 'short'. -/
theorem getR_cut {l : List Rec} (hw : ∀ r ∈ l, RecWf r) (hm : MayBe l) (hl : (octsR l).length ≤ 65535) {k : Nat} (hk : k < (octsR l).length) :
    (∃ j, j < l.length ∧ getR ((octsR l).take k) = (l.take j, 0)) ∨ getR ((octsR l).take k) = ([], 3) := by
  obtain ⟨j, hj, k', h1, h2⟩ := octs_cut l k hk
  obtain ⟨m1, m2, m3⟩ := hm.at_last hw hj
  unfold getR
  rw [if_pos (by rw [List.length_take]; omega), h2]
  obtain ⟨f', e, hf⟩ := getRA_app (l.take j) (fun r hr => hw r (List.mem_of_mem_take hr)) [] (by simpa using m1) ((octR l[j]).take k') _ (Nat.le_refl _)
  rw [e]
  rcases Nat.eq_zero_or_pos k' with h | h
  · subst h
    exact .inl ⟨j, hj, by simp [getRA_nil]⟩
  · have hs := step_short (acc := l.take j) (hw _ (List.getElem_mem hj)) (hm.small _ (List.getElem_mem hj)) m2 m3 h1
    refine .inr ?_
    rw [List.nil_append, getRA_bad f' _ _ hf (fun h0 => ?_) (by omega), hs]
    have := congrArg List.length h0
    rw [List.length_take, List.length_nil] at this
    omega

theorem octsR_snoc (l : List Rec) (r : Rec) : octsR (l ++ [r]) = octsR l ++ octR r := by rw [octsR_append]; simp [octsR]
/-- A record behind, whose type does not rise. -/
theorem getR_behind_no {l : List Rec} {r : Rec} (hw : ∀ r ∈ l, RecWf r) (hm : MayBe l) (hr : RecWf r) (h64 : l.length ≠ 64) (hT : r.T ≤ lastT l) (hl : (octsR (l ++ [r])).length ≤ 65535) : getR (octsR (l ++ [r])) = ([], 2) := by
  unfold getR
  rw [if_pos hl, octsR_snoc]
  obtain ⟨f', e, hf⟩ := getRA_app l hw [] (by simpa using hm) (octR r) _ (Nat.le_refl _)
  rw [e, List.nil_append]
  have e0 : octR r = oct r.T ++ (oct r.V.length ++ r.V) := by simp [octR]
  have hs : stepE (octR r) l = 2 := by
    obtain ⟨g1, g2⟩ := get_put hr.1.1 hr.1.2 (oct r.V.length ++ r.V)
    rw [← e0] at g1 g2
    unfold stepE
    rw [if_neg h64, if_neg (by simp [g1]), if_pos (by rw [g2]; exact hT)]
  rw [getRA_bad f' _ _ hf (by simp [octR, oct]) (by omega), hs]
theorem getR_behind {l : List Rec} {r : Rec} (hw : ∀ r ∈ l, RecWf r) (hm : MayBe l) (hr : RecWf r) (h64 : l.length < 64) (hv : r.V.length ≤ 4096) (hT : lastT l < r.T) (hl : (octsR (l ++ [r])).length ≤ 65535) : getR (octsR (l ++ [r])) = (l ++ [r], 0) :=
  getR_put (fun x hx => by
    rcases List.mem_append.1 hx with h | h
    · exact hw x h
    · rw [List.mem_singleton.1 h]; exact hr) (MayBe.snoc.2 ⟨hm, h64, hv, fun _ => hT⟩) hl

/-- How many octets few records have. -/
theorem few_len (l : List Rec) (hv : ∀ r ∈ l, r.V.length ≤ 100 ∨ r.V.length = 4096) : ∃ k, k ≤ l.length ∧ 4096 * k ≤ (octsR l).length ∧ (octsR l).length ≤ 4114 * k + 118 * (l.length - k) := by
  induction l with
  | nil => exact ⟨0, by simp, by simp, by simp [octsR]⟩
  | cons r l ih =>
    obtain ⟨k, h1, h2, h3⟩ := ih fun x hx => hv x (by simp [hx])
    have h4 := oct_len r.T
    have h5 := bhd_le (fst r.T)
    have h6 := oct_len (r.V.length : Int)
    have h7 := bhd_le (fst (r.V.length : Int))
    have h8 : (octR r).length = (oct r.T).length + (oct (r.V.length : Int)).length + r.V.length := by simp [octR]; omega
    rw [octsR_cons, List.length_append, List.length_cons]
    rcases hv r (by simp) with h | h
    · exact ⟨k, by omega, by omega, by omega⟩
    · exact ⟨k + 1, by omega, by omega, by omega⟩
theorem few_more {l : List Rec} {r : Rec} (hv : ∀ r ∈ l, r.V.length ≤ 100 ∨ r.V.length = 4096) (h20 : l.length ≤ 20) (hr : r.V.length ≤ 100) (hl : (octsR l).length ≤ 65535) : (octsR (l ++ [r])).length ≤ 65535 := by
  obtain ⟨k, h1, h2, h3⟩ := few_len l hv
  have h4 := oct_len r.T
  have h5 := bhd_le (fst r.T)
  have h6 := oct_len (r.V.length : Int)
  have h7 := bhd_le (fst (r.V.length : Int))
  have h8 : (octR r).length = (oct r.T).length + (oct (r.V.length : Int)).length + r.V.length := by simp [octR]; omega
  rw [octsR_snoc, List.length_append]
  omega
end Go.Proofs.Ytajgjalcomhhcaa
