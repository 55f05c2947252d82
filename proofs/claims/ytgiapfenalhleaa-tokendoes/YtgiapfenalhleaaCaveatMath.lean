/-
  Caveats, plain: which may be, their octets, what is read, when one holds, all hold, which caps there are, which is tighter.
-/
import Derived.Test.YtgiapfenalhleaaTypes
import Derived.Test.YtgiapfenalhleaaBigsizeLaws
namespace Go.Proofs.Ytgiapfenalhleaa
open Go.RowKit Go.WalkArith

def CavOk (c : Cav) : Prop := 1 ≤ c.Kind ∧ c.Kind ≤ 5 ∧ (c.Kind = 2 → c.A ≤ 65535) ∧ (c.Kind = 3 ∨ c.Kind = 4 → c.A ≤ 4611686018427387904) ∧ (c.Kind ≠ 4 → c.B = 0)
instance (c : Cav) : Decidable (CavOk c) := inferInstanceAs (Decidable (_ ∧ _ ∧ _ ∧ _ ∧ _))
def cavE (c : Cav) : Int := if CavOk c then 0 else 1
def UseOk (u : Usx) : Prop := 0 ≤ u.Method ∧ u.Method ≤ 15 ∧ u.Amount ≤ 4611686018427387904
instance (u : Usx) : Decidable (UseOk u) := inferInstanceAs (Decidable (_ ∧ _ ∧ _))
def useB (u : Usx) : Bool := decide (UseOk u)
/-- The numbers whose octets are a caveat's. -/
def numsC (c : Cav) : List Int := if c.Kind = 4 then [4, c.A, c.B] else [c.Kind, c.A]
def putC (c : Cav) : List Int := if CavOk c then octs (numsC c) else []
def zeroC : Cav := ⟨0, 0, 0⟩
def finC (c : Cav) (rest : List Int) : Cav × Int := if rest = [] ∧ CavOk c then (c, 0) else (zeroC, 2)
/-- What is read behind a kind, and a number. -/
def getC2 (k a : Int) (zs : List Int) : Cav × Int :=
  if k = 4 then (if getE zs = 0 then finC ⟨k, a, rdN zs⟩ (zs.drop (oct (rdN zs)).length) else (zeroC, getE zs)) else finC ⟨k, a, 0⟩ zs
def getC1 (k : Int) (ys : List Int) : Cav × Int :=
  if getE ys = 0 then getC2 k (rdN ys) (ys.drop (oct (rdN ys)).length) else (zeroC, getE ys)
def getC (xs : List Int) : Cav × Int :=
  if getE xs = 0 then (if 1 ≤ rdN xs ∧ rdN xs ≤ 5 then getC1 (rdN xs) (xs.drop (oct (rdN xs)).length) else (zeroC, 2)) else (zeroC, getE xs)

theorem getC_err (xs : List Int) : (getC xs).2 ≠ 0 → (getC xs).1 = zeroC := by
  have f : ∀ c r, (finC c r).2 ≠ 0 → (finC c r).1 = zeroC := fun c r h => by
    unfold finC at h ⊢
    by_cases k : r = [] ∧ CavOk c
    · rw [if_pos k] at h; exact absurd rfl h
    · rw [if_neg k]
  unfold getC getC1 getC2
  intro h
  repeat' split
  all_goals (first | rfl | (apply f; simp_all))

/-! ### What was put is got -/
theorem cav_bd {c : Cav} (hw : CavWf c) : -9223372036854775808 ≤ c.Kind ∧ c.Kind ≤ 9223372036854775807 ∧ 0 ≤ c.A ∧ c.A ≤ 18446744073709551615 ∧ 0 ≤ c.B ∧ c.B ≤ 18446744073709551615 := by
  have h1 := bounds_i64 hw.kind
  have h2 := bounds_u64 hw.a
  have h3 := bounds_u64 hw.b
  omega
theorem get_drop {n : Int} (h0 : 0 ≤ n) (hn : n ≤ 18446744073709551615) (ys : List Int) : getE (oct n ++ ys) = 0 ∧ rdN (oct n ++ ys) = n ∧ (oct n ++ ys).drop (oct n).length = ys := by
  obtain ⟨h1, h2⟩ := get_put h0 hn ys
  exact ⟨h1, h2, by simp⟩
theorem getC_put {c : Cav} (hw : CavWf c) (hc : CavOk c) (ys : List Int) : getC (putC c ++ ys) = finC c ys := by
  have hb := cav_bd hw
  have hk := hc.1
  have hk2 := hc.2.1
  unfold putC
  rw [if_pos hc]
  unfold numsC
  by_cases h4 : c.Kind = 4
  · rw [if_pos h4]
    have e : octs [4, c.A, c.B] ++ ys = oct 4 ++ (oct c.A ++ (oct c.B ++ ys)) := by simp [octs]
    rw [e]
    obtain ⟨a1, a2, a3⟩ := get_drop (n := 4) (by omega) (by omega) (oct c.A ++ (oct c.B ++ ys))
    obtain ⟨b1, b2, b3⟩ := get_drop (n := c.A) (by omega) (by omega) (oct c.B ++ ys)
    obtain ⟨c1, c2, c3⟩ := get_drop (n := c.B) (by omega) (by omega) ys
    unfold getC
    rw [if_pos a1, a2, if_pos (by omega), a3]
    unfold getC1
    rw [if_pos b1, b2, b3]
    unfold getC2
    rw [if_pos rfl, if_pos c1, c2, c3]
    congr 1
    cases c
    simp_all
  · rw [if_neg h4]
    have e : octs [c.Kind, c.A] ++ ys = oct c.Kind ++ (oct c.A ++ ys) := by simp [octs]
    rw [e]
    obtain ⟨a1, a2, a3⟩ := get_drop (n := c.Kind) (by omega) (by omega) (oct c.A ++ ys)
    obtain ⟨b1, b2, b3⟩ := get_drop (n := c.A) (by omega) (by omega) ys
    unfold getC
    rw [if_pos a1, a2, if_pos (by omega), a3]
    unfold getC1
    rw [if_pos b1, b2, b3]
    unfold getC2
    rw [if_neg h4]
    have hz := hc.2.2.2.2 h4
    congr 1
    cases c
    simp_all
/-- What is got, put, is what was read. -/
theorem oct_split {xs : List Int} (hw : ∀ x ∈ xs, 0 ≤ x ∧ x ≤ 255) (he : getE xs = 0) : oct (rdN xs) ++ xs.drop (oct (rdN xs)).length = xs := by
  obtain ⟨h1, h2⟩ := put_get hw he
  have : oct (rdN xs) ++ xs.drop (oct (rdN xs)).length = xs.take (oct (rdN xs)).length ++ xs.drop (oct (rdN xs)).length := by rw [← h1]
  rw [this, List.take_append_drop]
theorem drop_bd {xs : List Int} (hw : ∀ x ∈ xs, 0 ≤ x ∧ x ≤ 255) (k : Nat) : ∀ x ∈ xs.drop k, 0 ≤ x ∧ x ≤ 255 := fun x hx => hw x (List.mem_of_mem_drop hx)
theorem finC_ok {c d : Cav} {r : List Int} (h : finC c r = (d, 0)) : d = c ∧ r = [] ∧ CavOk c := by
  unfold finC at h
  split at h
  · rename_i k
    simp at h
    exact ⟨h.symm, k.1, k.2⟩
  · simp at h
theorem getE_rd {xs : List Int} (hw : ∀ x ∈ xs, 0 ≤ x ∧ x ≤ 255) (he : getE xs = 0) : 0 ≤ rdN xs ∧ rdN xs ≤ 18446744073709551615 := by
  refine rdN_bd xs ?_ hw
  rcases Nat.eq_zero_or_pos xs.length with h | h
  · rw [List.eq_nil_of_length_eq_zero h] at he
    simp [getE] at he
  · exact h
theorem put_getC {xs : List Int} (hw : ∀ x ∈ xs, 0 ≤ x ∧ x ≤ 255) {c : Cav} (h : getC xs = (c, 0)) : CavOk c ∧ putC c = xs ∧ 0 ≤ c.A ∧ c.A ≤ 18446744073709551615 ∧ 0 ≤ c.B ∧ c.B ≤ 18446744073709551615 := by
  unfold getC at h
  split at h
  · rename_i e1
    split at h
    · rename_i hk
      have s1 := oct_split hw e1
      unfold getC1 at h
      split at h
      · rename_i e2
        have hw2 := drop_bd hw (oct (rdN xs)).length
        have s2 := oct_split hw2 e2
        have r2 := getE_rd hw2 e2
        unfold getC2 at h
        split at h
        · rename_i h4
          split at h
          · rename_i e3
            have hw3 := drop_bd hw2 (oct (rdN (xs.drop (oct (rdN xs)).length))).length
            have s3 := oct_split hw3 e3
            have r3 := getE_rd hw3 e3
            obtain ⟨rfl, hr, hok⟩ := finC_ok h
            refine ⟨hok, ?_, r2.1, r2.2, r3.1, r3.2⟩
            unfold putC
            rw [if_pos hok]
            unfold numsC
            rw [if_pos h4]
            rw [hr, List.append_nil] at s3
            simp only [octs, List.flatMap_cons, List.flatMap_nil, List.append_nil]
            rw [s3, s2, ← h4, s1]
          · rename_i e3
            exact absurd (congrArg Prod.snd h) e3
        · rename_i h4
          obtain ⟨rfl, hr, hok⟩ := finC_ok h
          refine ⟨hok, ?_, r2.1, r2.2, Int.le_refl 0, by show (0 : Int) ≤ 18446744073709551615; decide⟩
          unfold putC
          rw [if_pos hok]
          unfold numsC
          rw [if_neg h4]
          rw [hr, List.append_nil] at s2
          simp only [octs, List.flatMap_cons, List.flatMap_nil, List.append_nil]
          rw [s2, s1]
      · rename_i e2
        exact absurd (congrArg Prod.snd h) e2
    · simp at h
  · rename_i e1
    exact absurd (congrArg Prod.snd h) e1
theorem getC_ok_wf {xs : List Int} (hw : ∀ x ∈ xs, 0 ≤ x ∧ x ≤ 255) : CavWf (getC xs).1 := by
  by_cases h : (getC xs).2 = 0
  · obtain ⟨hok, -, h1, h2, h3, h4⟩ := put_getC hw (c := (getC xs).1) (by rw [← h])
    have := hok.1
    have := hok.2.1
    exact ⟨wf_i64 (by omega), wf_u64 (by omega), wf_u64 (by omega)⟩
  · rw [getC_err xs h]
    exact ⟨by decide, by decide, by decide⟩

/-! ### What holds -/
def bitN (n : Int) (i : Nat) : Bool := n / 2 ^ i % 2 == 1
def hldB (c : Cav) (u : Usx) : Bool := if c.Kind = 1 then decide (u.Tick ≤ c.A) else if c.Kind = 2 then bitN c.A u.Method.toNat else if c.Kind = 5 then u.Who == c.A else decide (u.Amount ≤ c.A)
def hlE (c : Cav) (u : Usx) : Int := if CavOk c ∧ UseOk u then 0 else 1
def hlV (c : Cav) (u : Usx) : Bool := decide (CavOk c ∧ UseOk u) && hldB c u
def cavsB (l : List Cav) : Bool := l.all fun c => decide (CavOk c)
def AllOk (l : List Cav) (u : Usx) : Prop := l.length ≤ 16 ∧ UseOk u ∧ cavsB l = true
instance (l : List Cav) (u : Usx) : Decidable (AllOk l u) := inferInstanceAs (Decidable (_ ∧ _ ∧ _))
def alE (l : List Cav) (u : Usx) : Int := if AllOk l u then 0 else 1
def alV (l : List Cav) (u : Usx) : Bool := decide (AllOk l u) && l.all fun c => hldB c u

/-! ### Caps -/
def capStep (k : Int) (o : Option Int) (c : Cav) : Option Int := if c.Kind = 4 ∧ c.B = k then some (match o with | none => c.A | some m => if c.A < m then c.A else m) else o
def capS (l : List Cav) (k : Int) : Option Int := l.foldl (capStep k) none
theorem capS_snoc (l : List Cav) (c : Cav) (k : Int) : capS (l ++ [c]) k = capStep k (capS l k) c := by simp [capS]
def keysStep (ks : List Int) (c : Cav) : List Int := if c.Kind = 4 ∧ c.B ∉ ks then ks ++ [c.B] else ks
def keysN (l : List Cav) : List Int := l.foldl keysStep []
theorem keysN_snoc (l : List Cav) (c : Cav) : keysN (l ++ [c]) = if c.Kind = 4 ∧ c.B ∉ keysN l then keysN l ++ [c.B] else keysN l := by
  rw [keysN, List.foldl_append]
  rfl
theorem keysN_mem (l : List Cav) (k : Int) : k ∈ keysN l ↔ (capS l k).isSome = true := by
  refine snoc_ind (p := fun l => k ∈ keysN l ↔ (capS l k).isSome = true) l (by simp [keysN, capS]) fun l c ih => ?_
  rw [keysN_snoc, capS_snoc]
  unfold capStep
  by_cases h : c.Kind = 4
  · by_cases hk : c.B = k
    · subst hk
      by_cases hm : c.B ∈ keysN l <;> simp [h, hm]
    · have hk' : ¬ k = c.B := fun e => hk e.symm
      by_cases hm : c.B ∈ keysN l <;> simp [h, hm, hk, hk', ih]
  · simp [h, ih]
def CapsOk (l : List Cav) : Prop := l.length ≤ 16 ∧ cavsB l = true
instance (l : List Cav) : Decidable (CapsOk l) := inferInstanceAs (Decidable (_ ∧ _))
def cpE (l : List Cav) : Int := if CapsOk l then 0 else 1
/-- Whose caps are told: none with an error. -/
def cpL (l : List Cav) : List Cav := if CapsOk l then l else []
theorem keysN_one (l : List Cav) (c : Cav) : (keysN l).length ≤ (keysN (l ++ [c])).length ∧ (keysN (l ++ [c])).length ≤ (keysN l).length + 1 := by
  rw [keysN_snoc]
  split <;> simp
theorem capS_one {l : List Cav} {c : Cav} {k n : Int} (h : capS l k = some n) : ∃ m, capS (l ++ [c]) k = some m ∧ m ≤ n ∧ (m ≠ n → c.Kind = 4 ∧ c.B = k ∧ m = c.A) := by
  rw [capS_snoc, h, capStep]
  by_cases hc : c.Kind = 4 ∧ c.B = k
  · rw [if_pos hc]
    by_cases hl : c.A < n
    · exact ⟨c.A, by simp [hl], by omega, fun _ => ⟨hc.1, hc.2, rfl⟩⟩
    · exact ⟨n, by simp [hl], by omega, fun h => absurd rfl h⟩
  · rw [if_neg hc]
    exact ⟨n, rfl, by omega, fun h => absurd rfl h⟩
theorem capS_mem {l : List Cav} {k n : Int} (h : capS l k = some n) : ∃ c ∈ l, c.Kind = 4 ∧ c.B = k ∧ c.A = n := by
  revert n
  refine snoc_ind (p := fun l => ∀ {n : Int}, capS l k = some n → ∃ c ∈ l, c.Kind = 4 ∧ c.B = k ∧ c.A = n) l (fun {n} h => by simp [capS] at h) fun l c ih n h => ?_
  rw [capS_snoc] at h
  unfold capStep at h
  by_cases hc : c.Kind = 4 ∧ c.B = k
  · rw [if_pos hc] at h
    cases ho : capS l k with
    | none =>
      rw [ho] at h
      simp at h
      exact ⟨c, by simp, hc.1, hc.2, h⟩
    | some m =>
      rw [ho] at h
      simp only [Option.some.injEq] at h
      by_cases hl : c.A < m
      · rw [if_pos hl] at h
        exact ⟨c, by simp, hc.1, hc.2, h⟩
      · rw [if_neg hl] at h
        subst h
        obtain ⟨d, hd, r⟩ := ih ho
        exact ⟨d, by simp [hd], r⟩
  · rw [if_neg hc] at h
    obtain ⟨d, hd, r⟩ := ih h
    exact ⟨d, by simp [hd], r⟩

/-! ### Tighter -/
def TightOk (a b : Cav) : Prop := CavOk a ∧ CavOk b ∧ a.Kind = b.Kind ∧ a.B = b.B
instance (a b : Cav) : Decidable (TightOk a b) := inferInstanceAs (Decidable (_ ∧ _ ∧ _ ∧ _))
def tgE (a b : Cav) : Int := if TightOk a b then 0 else 1
def subB (a b : Int) : Bool := (List.range 16).all fun i => !bitN a i || bitN b i
def tgB (a b : Cav) : Bool := if a.Kind = 2 then subB a.A b.A else if a.Kind = 5 then a.A == b.A else decide (a.A ≤ b.A)
def tgV (a b : Cav) : Bool := decide (TightOk a b) && tgB a b
theorem tg_holds {a b : Cav} {u : Usx} (hu : UseOk u) (hk : a.Kind = b.Kind) (ht : tgB a b = true) (hh : hldB a u = true) : hldB b u = true := by
  unfold hldB at *
  unfold tgB at ht
  rw [← hk]
  by_cases k1 : a.Kind = 1
  · rw [if_pos k1] at hh ⊢
    rw [if_neg (by omega), if_neg (by omega)] at ht
    simp at *
    omega
  rw [if_neg k1] at hh ⊢
  by_cases k2 : a.Kind = 2
  · rw [if_pos k2] at hh ht ⊢
    unfold subB at ht
    rw [List.all_eq_true] at ht
    have := ht u.Method.toNat (by have := hu.1; have := hu.2.1; simp; omega)
    rw [hh] at this
    simpa using this
  rw [if_neg k2] at hh ht ⊢
  by_cases k5 : a.Kind = 5
  · rw [if_pos k5] at hh ht ⊢
    simp at *
    omega
  rw [if_neg k5] at hh ht ⊢
  simp at *
  omega
/-- Numbers of so many bits are the same, if their bits are. -/
theorem bits_ext : ∀ (k : Nat) (a b : Int), 0 ≤ a → 0 ≤ b → a < 2 ^ k → b < 2 ^ k → (∀ i, i < k → bitN a i = bitN b i) → a = b
  | 0, a, b, h1, h2, h3, h4, _ => by simp at h3 h4; omega
  | k + 1, a, b, h1, h2, h3, h4, h => by
    have e0 := h 0 (by omega)
    have e1 : a / 2 = b / 2 := by
      refine bits_ext k (a / 2) (b / 2) (by omega) (by omega) (by rw [Int.pow_succ] at h3; omega) (by rw [Int.pow_succ] at h4; omega) fun i hi => ?_
      have := h (i + 1) (by omega)
      unfold bitN at this ⊢
      rw [Int.pow_succ, Int.mul_comm, ← Int.ediv_ediv_of_nonneg (by omega), ← Int.ediv_ediv_of_nonneg (by omega)] at this
      exact this
    unfold bitN at e0
    simp only [Int.pow_zero, Int.ediv_one] at e0
    have e2 : a % 2 = b % 2 := by
      have ha := Int.emod_two_eq a
      have hb := Int.emod_two_eq b
      rcases ha with ha | ha <;> rcases hb with hb | hb <;> rw [ha, hb] at e0 ⊢ <;> simp at e0
    omega
theorem tg_both {a b : Cav} (hw1 : CavWf a) (hw2 : CavWf b) (h : TightOk a b) : (tgB a b && tgB b a) = decide (a = b) := by
  obtain ⟨h1, h2, h3, h4⟩ := h
  have b1 := cav_bd hw1
  have b2 := cav_bd hw2
  have key : (tgB a b && tgB b a) = true ↔ a.A = b.A := by
    unfold tgB
    rw [← h3]
    by_cases k2 : a.Kind = 2
    · rw [if_pos k2, if_pos k2]
      constructor
      · intro h
        rw [Bool.and_eq_true] at h
        unfold subB at h
        rw [List.all_eq_true, List.all_eq_true] at h
        refine bits_ext 16 _ _ (by omega) (by omega) ?_ ?_ fun i hi => ?_
        · have := h1.2.2.1 k2; simp; omega
        · have := h2.2.2.1 (by omega); simp; omega
        · have x := h.1 i (by simpa using hi)
          have y := h.2 i (by simpa using hi)
          cases p : bitN a.A i <;> cases q : bitN b.A i <;> simp_all
      · intro e
        rw [e]
        simp [subB]
    rw [if_neg k2, if_neg k2]
    by_cases k5 : a.Kind = 5
    · rw [if_pos k5, if_pos k5]
      simp
      omega
    · rw [if_neg k5, if_neg k5]
      simp
      omega
  by_cases e : a = b
  · rw [decide_eq_true e, key, e]
  · rw [decide_eq_false e, Bool.eq_false_iff]
    intro k
    have k3 := key.1 k
    exact e (by cases a; cases b; simp_all)
theorem al_no {l : List Cav} {u : Usx} (h : ¬ AllOk l u) : alE l u = 1 ∧ alV l u = false := by
  unfold alE alV
  exact ⟨if_neg h, by rw [decide_eq_false h]; rfl⟩
theorem al_yes {l : List Cav} {u : Usx} (h : AllOk l u) : alE l u = 0 ∧ alV l u = l.all fun c => hldB c u := by
  unfold alE alV
  exact ⟨if_pos h, by rw [decide_eq_true h]; rfl⟩
theorem cavsB_bad {l : List Cav} {j : Nat} (hj : j < l.length) (h : ¬ CavOk l[j]) : cavsB l = false := by
  unfold cavsB
  rw [List.all_eq_false]
  exact ⟨l[j], List.getElem_mem hj, by simpa using h⟩
theorem take_allC {l : List Cav} {j : Nat} {p : Cav → Bool} (hj : j < l.length) : (l.take (j + 1)).all p = ((l.take j).all p && p l[j]) := by
  rw [List.take_succ_eq_append_getElem hj, List.all_append]
  simp
theorem more_laws {l : List Cav} {c : Cav} {u : Usx} (h : l.length ≤ 15) : alE (c :: l) u = alE (l ++ [c]) u ∧ alV (c :: l) u = alV (l ++ [c]) u ∧
    ((alE (l ++ [c]) u = 1 ∧ alV (l ++ [c]) u = false) ∨ (alE (l ++ [c]) u = 0 ∧ alE l u = 0 ∧ hlE c u = 0 ∧ alV (l ++ [c]) u = (alV l u && hlV c u))) := by
  have e1 : AllOk (l ++ [c]) u ↔ AllOk l u ∧ CavOk c := by
    unfold AllOk cavsB
    simp only [List.length_append, List.length_singleton, List.all_append, List.all_cons, List.all_nil, Bool.and_true, Bool.and_eq_true, decide_eq_true_eq]
    constructor
    · rintro ⟨a, b, d, f⟩; exact ⟨⟨by omega, b, d⟩, f⟩
    · rintro ⟨⟨a, b, d⟩, f⟩; exact ⟨by omega, b, d, f⟩
  have e2 : AllOk (c :: l) u ↔ AllOk l u ∧ CavOk c := by
    unfold AllOk cavsB
    simp only [List.length_cons, List.all_cons, Bool.and_eq_true, decide_eq_true_eq]
    constructor
    · rintro ⟨a, b, d, f⟩; exact ⟨⟨by omega, b, f⟩, d⟩
    · rintro ⟨⟨a, b, d⟩, f⟩; exact ⟨by omega, b, f, d⟩
  by_cases k : AllOk l u ∧ CavOk c
  · obtain ⟨y1, y2⟩ := al_yes (e1.2 k)
    obtain ⟨z1, z2⟩ := al_yes (e2.2 k)
    obtain ⟨x1, x2⟩ := al_yes k.1
    have hh : hlE c u = 0 := if_pos ⟨k.2, k.1.2.1⟩
    have hv : hlV c u = hldB c u := by unfold hlV; rw [decide_eq_true ⟨k.2, k.1.2.1⟩]; rfl
    refine ⟨by rw [y1, z1], ?_, .inr ⟨y1, x1, hh, ?_⟩⟩
    · rw [y2, z2]; simp [Bool.and_comm]
    · rw [y2, x2, hv]; simp
  · obtain ⟨y1, y2⟩ := al_no (fun q => k (e1.1 q))
    obtain ⟨z1, z2⟩ := al_no (fun q => k (e2.1 q))
    exact ⟨by rw [y1, z1], by rw [y2, z2], .inl ⟨y1, y2⟩⟩
end Go.Proofs.Ytgiapfenalhleaa
