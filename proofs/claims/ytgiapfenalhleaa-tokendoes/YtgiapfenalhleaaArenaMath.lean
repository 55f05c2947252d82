/-
  Arenas, as plain lists of terms: which may be, where a term is, what is made, found, and told; and that tags are the same just if they were made the same way.
-/
import Derived.Test.YtgiapfenalhleaaTypes
namespace Go.Proofs.Ytgiapfenalhleaa

/-- Where a term is; as many as there are, where it is not. -/
def plc (x : Trm) : List Trm → Nat
  | [] => 0
  | y :: l => if y = x then 0 else plc x l + 1
theorem plc_le (x : Trm) (l : List Trm) : plc x l ≤ l.length := by
  induction l with
  | nil => simp [plc]
  | cons y l ih => simp only [plc, List.length_cons]; split <;> omega
theorem plc_mem {x : Trm} {l : List Trm} : x ∈ l ↔ plc x l < l.length := by
  induction l with
  | nil => simp [plc]
  | cons y l ih =>
    simp only [plc, List.length_cons, List.mem_cons]
    by_cases h : y = x
    · simp [h]
    · rw [if_neg h, ih]
      constructor
      · rintro (h2 | h2)
        · exact absurd h2.symm h
        · omega
      · intro h2
        right
        omega
theorem plc_at {x : Trm} {l : List Trm} (h : plc x l < l.length) : l[plc x l] = x := by
  induction l with
  | nil => simp at h
  | cons y l ih =>
    simp only [plc] at h ⊢
    by_cases hy : y = x
    · simp only [if_pos hy]; exact hy
    · simp only [if_neg hy, List.length_cons] at h ⊢
      simp only [List.getElem_cons_succ]
      exact ih (by omega)
theorem plc_first {x : Trm} {l : List Trm} {k : Nat} (hk : k < l.length) (h : k < plc x l) : l[k] ≠ x := by
  induction l generalizing k with
  | nil => simp at hk
  | cons y l ih =>
    simp only [plc] at h
    by_cases hy : y = x
    · simp [if_pos hy] at h
    · rw [if_neg hy] at h
      cases k with
      | zero => simpa using hy
      | succ k => simpa using ih (by simpa using hk) (by omega)
theorem plc_of {x : Trm} {l : List Trm} {k : Nat} (hk : k < l.length) (hx : l[k] = x) (hn : ∀ i (hi : i < k), l[i] ≠ x) : plc x l = k := by
  have h1 : plc x l < l.length := plc_mem.1 (by rw [← hx]; exact List.getElem_mem hk)
  rcases Nat.lt_trichotomy (plc x l) k with h | h | h
  · exact absurd (plc_at h1) (hn _ h)
  · exact h
  · exact absurd hx (plc_first hk h)
theorem plc_append {x : Trm} {l : List Trm} (h : x ∉ l) : plc x (l ++ [x]) = l.length := by
  refine plc_of (by simp) (by simp) fun i hi => ?_
  rw [List.getElem_append_left hi]
  exact fun e => h (by rw [← e]; exact List.getElem_mem hi)

/-- A term may stand at that place. -/
def Fit (i : Nat) (n : Trm) : Prop := -1 ≤ n.Up ∧ n.Up < i ∧ (0 ≤ n.Up → n.Key = 0) ∧ n.Text.length ≤ 4096
instance (i : Nat) (n : Trm) : Decidable (Fit i n) := inferInstanceAs (Decidable (_ ∧ _ ∧ _ ∧ _))
/-- All terms up to a place may stand where they are, and are no two the same. -/
def ArTo (l : List Trm) (j : Nat) : Prop := ∀ i (hi : i < l.length), i < j → Fit i l[i] ∧ plc l[i] l = i
def ArOk (l : List Trm) : Prop := l.length ≤ 1048576 ∧ ArTo l l.length
noncomputable instance (l : List Trm) : Decidable (ArOk l) := Classical.propDecidable _
noncomputable def arE (l : List Trm) : Int := if ArOk l then 0 else 1
noncomputable def withE (l : List Trm) (n : Trm) : Int :=
  if ArOk l ∧ n.Up < l.length ∧ -1 ≤ n.Up then (if n.Text.length ≤ 4096 then (if n ∈ l then 0 else if l.length = 1048576 then 7 else 0) else 4) else 1
noncomputable def withL (l : List Trm) (n : Trm) : List Trm := if withE l n = 0 then (if n ∈ l then l else l ++ [n]) else []
noncomputable def withI (l : List Trm) (n : Trm) : Int := if withE l n = 0 then plc n l else 0
def rootT (k : Int) (t : List Int) : Trm := ⟨k, -1, t⟩
def nextT (u : Int) (t : List Int) : Trm := ⟨0, u, t⟩
noncomputable def nextE (l : List Trm) (u : Int) (t : List Int) : Int := if u < 0 then 1 else withE l (nextT u t)
noncomputable def nextL (l : List Trm) (u : Int) (t : List Int) : List Trm := if nextE l u t = 0 then withL l (nextT u t) else []
noncomputable def nextI (l : List Trm) (u : Int) (t : List Int) : Int := if nextE l u t = 0 then withI l (nextT u t) else 0
def seat (l : List Trm) (n : Trm) : Int := if n ∈ l then plc n l else -1
def goTo (l : List Trm) : Int → List (List Int) → Int
  | at_, [] => at_
  | at_, t :: ts => goTo l (if 0 ≤ at_ then seat l (nextT at_ t) else at_) ts
def shortT (ts : List (List Int)) : Prop := ∀ t ∈ ts, t.length ≤ 4096
instance (ts : List (List Int)) : Decidable (shortT ts) := inferInstanceAs (Decidable (∀ t ∈ ts, t.length ≤ 4096))
noncomputable def findE (l : List Trm) (k : Int) (t : List Int) (ts : List (List Int)) : Int :=
  if ArOk l then (if shortT (t :: ts) then (if 0 ≤ goTo l (seat l (rootT k t)) ts then 0 else 5) else 4) else 1
noncomputable def findI (l : List Trm) (k : Int) (t : List Int) (ts : List (List Int)) : Int := if findE l k t ts = 0 then goTo l (seat l (rootT k t)) ts else 0
/-- How the term at a place was made: its key, and all texts. -/
def pthK (l : List Trm) (i : Nat) : Int :=
  if h : i < l.length then (if hu : 0 ≤ l[i].Up ∧ l[i].Up < i then pthK l l[i].Up.toNat else l[i].Key) else 0
termination_by i
decreasing_by omega
def pthT (l : List Trm) (i : Nat) : List (List Int) :=
  if h : i < l.length then (if hu : 0 ≤ l[i].Up ∧ l[i].Up < i then pthT l l[i].Up.toNat else []) ++ [l[i].Text] else []
termination_by i
decreasing_by omega
noncomputable def pathE (l : List Trm) (u : Int) : Int := if ArOk l ∧ 0 ≤ u ∧ u < l.length then 0 else 1
noncomputable def pathK (l : List Trm) (u : Int) : Int := if pathE l u = 0 then pthK l u.toNat else 0
noncomputable def pathT (l : List Trm) (u : Int) : List (List Int) := if pathE l u = 0 then pthT l u.toNat else []

section
variable {l : List Trm}
theorem ArOk.fit (h : ArOk l) {i : Nat} (hi : i < l.length) : Fit i l[i] := (h.2 i hi hi).1
theorem ArOk.plc (h : ArOk l) {i : Nat} (hi : i < l.length) : plc l[i] l = i := (h.2 i hi hi).2
theorem ArOk.inj (h : ArOk l) {i j : Nat} (hi : i < l.length) (hj : j < l.length) (e : l[i] = l[j]) : i = j := by
  have := h.plc hi
  rw [e, h.plc hj] at this
  exact this.symm
theorem arTo_succ {j : Nat} (h : ArTo l j) (hj : j < l.length) (hf : Fit j l[j]) (hp : Go.Proofs.Ytgiapfenalhleaa.plc l[j] l = j) : ArTo l (j + 1) := fun i hi hij => by
  rcases Nat.lt_or_ge i j with h1 | h1
  · exact h i hi h1
  · obtain rfl : i = j := by omega
    exact ⟨hf, hp⟩
theorem ArOk.push (h : ArOk l) {n : Trm} (hn : n ∉ l) (hf : Fit l.length n) (hl : l.length < 1048576) : ArOk (l ++ [n]) := by
  refine ⟨by simp; omega, fun i hi _ => ?_⟩
  rcases Nat.lt_or_ge i l.length with h1 | h1
  · rw [List.getElem_append_left h1]
    refine ⟨h.fit h1, plc_of (by simp; omega) (List.getElem_append_left h1) fun k hk => ?_⟩
    rw [List.getElem_append_left (by omega)]
    exact fun e => by have := h.inj (by omega) h1 e; omega
  · have hi' : i = l.length := by simp at hi; omega
    subst hi'
    have e : (l ++ [n])[l.length] = n := by simp
    rw [e]
    exact ⟨hf, plc_append hn⟩

/-! ### How a term was made -/
theorem pthK_root {i : Nat} (hi : i < l.length) (hu : l[i].Up < 0) : pthK l i = l[i].Key := by
  rw [pthK, dif_pos hi, dif_neg (by omega)]
theorem pthT_root {i : Nat} (hi : i < l.length) (hu : l[i].Up < 0) : pthT l i = [l[i].Text] := by
  rw [pthT, dif_pos hi, dif_neg (by omega)]; rfl
theorem pthK_next {i : Nat} (h : ArOk l) (hi : i < l.length) (hu : 0 ≤ l[i].Up) : pthK l i = pthK l l[i].Up.toNat := by
  rw [pthK, dif_pos hi, dif_pos ⟨hu, (h.fit hi).2.1⟩]
theorem pthT_next {i : Nat} (h : ArOk l) (hi : i < l.length) (hu : 0 ≤ l[i].Up) : pthT l i = pthT l l[i].Up.toNat ++ [l[i].Text] := by
  rw [pthT, dif_pos hi, dif_pos ⟨hu, (h.fit hi).2.1⟩]
theorem pthT_ne {i : Nat} (hi : i < l.length) : pthT l i ≠ [] := by
  rw [pthT, dif_pos hi]
  simp
theorem pthT_long {i : Nat} (h : ArOk l) (hi : i < l.length) (hu : 0 ≤ l[i].Up) : 2 ≤ (pthT l i).length := by
  rw [pthT_next h hi hu, List.length_append]
  have h1 := (h.fit hi).2.1
  have h2 : l[i].Up.toNat < l.length := by omega
  have := List.length_pos_iff.2 (pthT_ne h2)
  simp
  omega
/-- Tags are the same just if their keys, and all their texts, are. -/
theorem pth_inj (h : ArOk l) : ∀ {i j : Nat}, i < l.length → j < l.length → pthK l i = pthK l j → pthT l i = pthT l j → i = j := by
  intro i
  induction i using Nat.strongRecOn with
  | _ i ih =>
    intro j hi hj hk ht
    have fi := h.fit hi
    have fj := h.fit hj
    by_cases ui : 0 ≤ l[i].Up
    · by_cases uj : 0 ≤ l[j].Up
      · rw [pthK_next h hi ui, pthK_next h hj uj] at hk
        rw [pthT_next h hi ui, pthT_next h hj uj] at ht
        obtain ⟨t1, t2⟩ := List.append_inj' ht rfl
        have e := ih l[i].Up.toNat (by have := fi.2.1; omega) (by have := fi.2.1; omega) (by have := fj.2.1; omega) hk t1
        refine h.inj hi hj ?_
        have e1 : l[i].Up = l[j].Up := by omega
        have e2 : l[i].Key = l[j].Key := by rw [fi.2.2.1 ui, fj.2.2.1 uj]
        have e3 : l[i].Text = l[j].Text := by simpa using t2
        cases hh : l[i]; cases hh2 : l[j]; simp_all
      · have h1 := pthT_long h hi ui
        rw [ht, pthT_root hj (by omega)] at h1
        simp at h1
    · by_cases uj : 0 ≤ l[j].Up
      · have h1 := pthT_long h hj uj
        rw [← ht, pthT_root hi (by omega)] at h1
        simp at h1
      · rw [pthK_root hi (by omega), pthK_root hj (by omega)] at hk
        rw [pthT_root hi (by omega), pthT_root hj (by omega)] at ht
        refine h.inj hi hj ?_
        have e1 : l[i].Up = l[j].Up := by have := fi.1; have := fj.1; omega
        have e3 : l[i].Text = l[j].Text := by simpa using ht
        cases hh : l[i]; cases hh2 : l[j]; simp_all
theorem pthK_eq {l : List Trm} {i : Nat} (hi : i < l.length) : pthK l i = if 0 ≤ l[i].Up ∧ l[i].Up < i then pthK l l[i].Up.toNat else l[i].Key := by
  rw [pthK, dif_pos hi]
  split <;> rfl
theorem pthT_eq {l : List Trm} {i : Nat} (hi : i < l.length) : pthT l i = (if 0 ≤ l[i].Up ∧ l[i].Up < i then pthT l l[i].Up.toNat else []) ++ [l[i].Text] := by
  rw [pthT, dif_pos hi]
  split <;> rfl
/-- What was made stays. -/
theorem pth_append (h : ArOk l) (o : List Trm) : ∀ {i : Nat}, i < l.length → pthK (l ++ o) i = pthK l i ∧ pthT (l ++ o) i = pthT l i := by
  intro i
  induction i using Nat.strongRecOn with
  | _ i ih =>
    intro hi
    have hi2 : i < (l ++ o).length := by simp; omega
    have e : (l ++ o)[i] = l[i] := List.getElem_append_left hi
    have fi := h.fit hi
    rw [pthK_eq hi2, pthT_eq hi2, pthK_eq hi, pthT_eq hi, e]
    by_cases hu : 0 ≤ l[i].Up ∧ l[i].Up < i
    · obtain ⟨h1, h2⟩ := ih l[i].Up.toNat (by omega) (by omega)
      rw [if_pos hu, if_pos hu, if_pos hu, if_pos hu, h1, h2]
      exact ⟨rfl, rfl⟩
    · rw [if_neg hu, if_neg hu, if_neg hu, if_neg hu]
      exact ⟨rfl, rfl⟩
theorem pth_short (h : ArOk l) : ∀ {i : Nat}, i < l.length → shortT (pthT l i) := by
  intro i
  induction i using Nat.strongRecOn with
  | _ i ih =>
    intro hi
    have fi := h.fit hi
    by_cases hu : 0 ≤ l[i].Up
    · rw [pthT_next h hi hu]
      intro t ht
      rcases List.mem_append.1 ht with ht | ht
      · exact ih l[i].Up.toNat (by have := fi.2.1; omega) (by have := fi.2.1; omega) t ht
      · simp at ht; rw [ht]; exact fi.2.2.2
    · rw [pthT_root hi (by omega)]
      intro t ht
      simp at ht; rw [ht]; exact fi.2.2.2

/-! ### Making one -/
theorem with_cases (n : Trm) : (withE l n = 0 ∧ ArOk l ∧ n.Up < l.length ∧ -1 ≤ n.Up ∧ n.Text.length ≤ 4096 ∧ n ∈ l ∧ withL l n = l ∧ withI l n = plc n l) ∨
    (withE l n = 0 ∧ ArOk l ∧ n.Up < l.length ∧ -1 ≤ n.Up ∧ n.Text.length ≤ 4096 ∧ n ∉ l ∧ l.length < 1048576 ∧ withL l n = l ++ [n] ∧ withI l n = l.length) ∨
    (withE l n = 7 ∧ ArOk l ∧ n.Up < l.length ∧ -1 ≤ n.Up ∧ n.Text.length ≤ 4096 ∧ n ∉ l ∧ l.length = 1048576 ∧ withL l n = [] ∧ withI l n = 0) ∨
    (withE l n = 4 ∧ ArOk l ∧ n.Up < l.length ∧ -1 ≤ n.Up ∧ 4096 < n.Text.length ∧ withL l n = [] ∧ withI l n = 0) ∨
    (withE l n = 1 ∧ ¬ (ArOk l ∧ n.Up < l.length ∧ -1 ≤ n.Up) ∧ withL l n = [] ∧ withI l n = 0) := by
  by_cases h : ArOk l ∧ n.Up < l.length ∧ -1 ≤ n.Up
  · by_cases h2 : n.Text.length ≤ 4096
    · by_cases h3 : n ∈ l
      · have e : withE l n = 0 := by rw [withE, if_pos h, if_pos h2, if_pos h3]
        exact .inl ⟨e, h.1, h.2.1, h.2.2, h2, h3, by rw [withL, if_pos e, if_pos h3], by rw [withI, if_pos e]⟩
      · by_cases h4 : l.length = 1048576
        · have e : withE l n = 7 := by rw [withE, if_pos h, if_pos h2, if_neg h3, if_pos h4]
          exact .inr (.inr (.inl ⟨e, h.1, h.2.1, h.2.2, h2, h3, h4, by rw [withL, e]; rfl, by rw [withI, e]; rfl⟩))
        · have e : withE l n = 0 := by rw [withE, if_pos h, if_pos h2, if_neg h3, if_neg h4]
          have hp : plc n l = l.length := by
            have h5 := plc_le n l
            have h6 : ¬ plc n l < l.length := fun k => h3 (plc_mem.2 k)
            omega
          exact .inr (.inl ⟨e, h.1, h.2.1, h.2.2, h2, h3, by have := h.1.1; omega, by rw [withL, if_pos e, if_neg h3], by rw [withI, if_pos e, hp]⟩)
    · have e : withE l n = 4 := by rw [withE, if_pos h, if_neg h2]
      exact .inr (.inr (.inr (.inl ⟨e, h.1, h.2.1, h.2.2, by omega, by rw [withL, e]; rfl, by rw [withI, e]; rfl⟩)))
  · have e : withE l n = 1 := by rw [withE, if_neg h]
    exact .inr (.inr (.inr (.inr ⟨e, h, by rw [withL, e]; rfl, by rw [withI, e]; rfl⟩)))
/-- What is made is there, behind all that was, and one more at the most. -/
theorem with_made {n : Trm} (h : withE l n = 0) (hk : 0 ≤ n.Up → n.Key = 0) : ∃ (o : List Trm) (i : Nat) (hi : i < (l ++ o).length), withL l n = l ++ o ∧ withI l n = i ∧ ArOk (l ++ o) ∧ (l ++ o)[i] = n ∧ o.length ≤ 1 ∧ (o = [] ∨ i = l.length) := by
  rcases with_cases (l := l) n with ⟨e, h1, h2, h3, h4, h5, h6, h7⟩ | ⟨e, h1, h2, h3, h4, h5, h6, h7, h8⟩ | ⟨e, -⟩ | ⟨e, -⟩ | ⟨e, -⟩
  · have hp := plc_mem.1 h5
    exact ⟨[], plc n l, by simpa using hp, by simpa using h6, h7, by simpa using h1, by simpa using plc_at hp, by simp, .inl rfl⟩
  · exact ⟨[n], l.length, by simp, h7, h8, h1.push h5 ⟨h3, h2, hk, h4⟩ h6, by simp, by simp, .inr rfl⟩
  · rw [h] at e; cases e
  · rw [h] at e; cases e
  · rw [h] at e; cases e
theorem with_there (h : ArOk l) {i : Nat} (hi : i < l.length) : withE l l[i] = 0 ∧ withL l l[i] = l ∧ withI l l[i] = i := by
  have f := h.fit hi
  have hm : l[i] ∈ l := List.getElem_mem hi
  have e : withE l l[i] = 0 := by rw [withE, if_pos ⟨h, by have := f.2.1; omega, f.1⟩, if_pos f.2.2.2, if_pos hm]
  exact ⟨e, by rw [withL, if_pos e, if_pos hm], by rw [withI, if_pos e, h.plc hi]⟩
theorem seat_there (h : ArOk l) {i : Nat} (hi : i < l.length) : seat l l[i] = i := by
  rw [seat, if_pos (List.getElem_mem hi), h.plc hi]
theorem seat_cases (n : Trm) : (seat l n = -1 ∧ n ∉ l) ∨ (∃ (i : Nat) (hi : i < l.length), seat l n = i ∧ l[i] = n) := by
  by_cases h : n ∈ l
  · have hp := plc_mem.1 h
    exact .inr ⟨plc n l, hp, if_pos h, plc_at hp⟩
  · exact .inl ⟨if_neg h, h⟩
theorem seat_bd (n : Trm) : -1 ≤ seat l n ∧ seat l n < l.length := by
  rcases seat_cases (l := l) n with ⟨h, -⟩ | ⟨i, hi, h, -⟩ <;> omega
theorem goTo_bd : ∀ (ts : List (List Int)) {a : Int}, -1 ≤ a → a < l.length → -1 ≤ goTo l a ts ∧ goTo l a ts < l.length
  | [], _, h1, h2 => ⟨h1, h2⟩
  | t :: ts, a, h1, h2 => by
    rw [goTo]
    split
    · exact goTo_bd ts (seat_bd _).1 (seat_bd _).2
    · exact goTo_bd ts h1 h2
theorem goTo_no : ∀ (ts : List (List Int)) {a : Int}, a < 0 → goTo l a ts = a
  | [], _, _ => rfl
  | t :: ts, a, h => by rw [goTo, if_neg (by omega)]; exact goTo_no ts h
theorem goTo_append : ∀ (ts us : List (List Int)) (a : Int), goTo l a (ts ++ us) = goTo l (goTo l a ts) us
  | [], _, _ => rfl
  | t :: ts, us, a => by rw [List.cons_append, goTo, goTo]; exact goTo_append ts us _
/-- What a term was made of finds it. -/
theorem find_back (h : ArOk l) : ∀ {i : Nat}, i < l.length → ∃ t ts, pthT l i = t :: ts ∧ goTo l (seat l (rootT (pthK l i) t)) ts = i := by
  intro i
  induction i using Nat.strongRecOn with
  | _ i ih =>
    intro hi
    have fi := h.fit hi
    by_cases hu : 0 ≤ l[i].Up
    · obtain ⟨t, ts, e1, e2⟩ := ih l[i].Up.toNat (by have := fi.2.1; omega) (by have := fi.2.1; omega)
      refine ⟨t, ts ++ [l[i].Text], by rw [pthT_next h hi hu, e1]; rfl, ?_⟩
      rw [pthK_next h hi hu, goTo_append, e2, goTo, goTo, if_pos (by omega)]
      have : nextT (↑l[i].Up.toNat) l[i].Text = l[i] := by
        have hk := fi.2.2.1 hu
        have hn : ((l[i].Up.toNat : Nat) : Int) = l[i].Up := by omega
        rw [nextT, hn, ← hk]
      rw [this, seat_there h hi]
    · refine ⟨l[i].Text, [], pthT_root hi (by omega), ?_⟩
      rw [goTo, pthK_root hi (by omega)]
      have : rootT l[i].Key l[i].Text = l[i] := by
        have hk : l[i].Up = -1 := by have := fi.1; omega
        rw [rootT, ← hk]
      rw [this, seat_there h hi]
end
end Go.Proofs.Ytgiapfenalhleaa
