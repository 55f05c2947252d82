/-
  Making a tag by its key and all its texts, as plain lists.
-/
import Derived.Test.YtgiapfenalhleaaArenaMath
namespace Go.Proofs.Ytgiapfenalhleaa

structure Mk where
  l : List Trm
  i : Int
  e : Int
noncomputable def stepM (s : Mk) (t : List Int) : Mk := if s.e = 0 then ⟨nextL s.l s.i t, nextI s.l s.i t, nextE s.l s.i t⟩ else s
noncomputable def mkS (l : List Trm) (k : Int) (t : List Int) (ts : List (List Int)) : Mk := ts.foldl stepM ⟨withL l (rootT k t), withI l (rootT k t), withE l (rootT k t)⟩
/-- So far it went well: the tag is there, made that way. -/
def Good (l : List Trm) (s : Mk) (k : Int) (T : List (List Int)) : Prop := s.e = 0 → ∃ (o : List Trm) (i : Nat), i < (l ++ o).length ∧ s.l = l ++ o ∧ s.i = i ∧ ArOk (l ++ o) ∧ pthK (l ++ o) i = k ∧ pthT (l ++ o) i = T ∧ o.length ≤ T.length

theorem next_cases (l : List Trm) (u : Int) (t : List Int) : (nextE l u t = 0 ∧ 0 ≤ u ∧ withE l (nextT u t) = 0 ∧ nextL l u t = withL l (nextT u t) ∧ nextI l u t = withI l (nextT u t)) ∨ (nextE l u t ≠ 0 ∧ nextL l u t = [] ∧ nextI l u t = 0) := by
  by_cases h : nextE l u t = 0
  · left
    have hu : ¬ u < 0 := fun k => by rw [nextE, if_pos k] at h; cases h
    have hw : withE l (nextT u t) = 0 := by rw [nextE, if_neg hu] at h; exact h
    exact ⟨h, by omega, hw, if_pos h, if_pos h⟩
  · exact .inr ⟨h, if_neg h, if_neg h⟩
/-- What comes of a tag. -/
theorem next_made {l : List Trm} {u : Int} {t : List Int} (h : nextE l u t = 0) : ∃ (o : List Trm) (i : Nat), i < (l ++ o).length ∧ nextL l u t = l ++ o ∧ nextI l u t = i ∧ ArOk l ∧ ArOk (l ++ o) ∧ 0 ≤ u ∧ u < l.length ∧ u < i ∧ pthK (l ++ o) i = pthK l u.toNat ∧ pthT (l ++ o) i = pthT l u.toNat ++ [t] ∧ o.length ≤ 1 ∧ (o = [] ∨ i = l.length) ∧ t.length ≤ 4096 := by
  rcases next_cases l u t with ⟨-, h1, h2, h3, h4⟩ | ⟨h1, -⟩
  · obtain ⟨o, i, hi, e1, e2, e3, e4, e5, e6⟩ := with_made h2 (fun _ => rfl)
    have hw : ArOk l ∧ u < l.length ∧ t.length ≤ 4096 := by
      rcases with_cases (l := l) (nextT u t) with ⟨-, q1, q2, -, q4, -⟩ | ⟨-, q1, q2, -, q4, -⟩ | ⟨e, -⟩ | ⟨e, -⟩ | ⟨e, -⟩
      · exact ⟨q1, q2, q4⟩
      · exact ⟨q1, q2, q4⟩
      · rw [h2] at e; cases e
      · rw [h2] at e; cases e
      · rw [h2] at e; cases e
    have hU : (l ++ o)[i].Up = u := by rw [e4]; rfl
    have hT : (l ++ o)[i].Text = t := by rw [e4]; rfl
    have f := (e3.fit hi).2.1
    have hul : u.toNat < l.length := by omega
    obtain ⟨p1, p2⟩ := pth_append hw.1 o hul
    refine ⟨o, i, hi, h3.trans e1, h4.trans e2, hw.1, e3, h1, hw.2.1, by omega, ?_, ?_, e5, e6, hw.2.2⟩
    · rw [pthK_next e3 hi (by omega), hU, p1]
    · rw [pthT_next e3 hi (by omega), hU, hT, p2]
  · exact absurd h h1
theorem root_made {l : List Trm} {k : Int} {t : List Int} (h : withE l (rootT k t) = 0) : ∃ (o : List Trm) (i : Nat), i < (l ++ o).length ∧ withL l (rootT k t) = l ++ o ∧ withI l (rootT k t) = i ∧ ArOk (l ++ o) ∧ pthK (l ++ o) i = k ∧ pthT (l ++ o) i = [t] ∧ o.length ≤ 1 := by
  obtain ⟨o, i, hi, e1, e2, e3, e4, e5, e6⟩ := with_made h (fun h => by simp [rootT] at h)
  have hU : (l ++ o)[i].Up = -1 := by rw [e4]; rfl
  exact ⟨o, i, hi, e1, e2, e3, by rw [pthK_root hi (by omega), e4]; rfl, by rw [pthT_root hi (by omega), e4]; rfl, e5⟩

theorem Good.step {l : List Trm} {s : Mk} {k : Int} {T : List (List Int)} (h : Good l s k T) (t : List Int) : Good l (stepM s t) k (T ++ [t]) := by
  intro he
  by_cases h0 : s.e = 0
  · obtain ⟨o, i, hi, e1, e2, e3, e4, e5, e6⟩ := h h0
    have hs : stepM s t = ⟨nextL s.l s.i t, nextI s.l s.i t, nextE s.l s.i t⟩ := if_pos h0
    rw [hs] at he ⊢
    simp only at he ⊢
    rw [e1, e2] at he ⊢
    obtain ⟨o2, i2, hi2, f1, f2, -, f3, -, -, -, f5, f6, f7, -⟩ := next_made he
    rw [List.append_assoc] at f1 f3 f5 f6 hi2
    have hti : (i : Int).toNat = i := by omega
    rw [hti] at f5 f6
    exact ⟨o ++ o2, i2, hi2, f1, f2, f3, f5.trans e4, by rw [f6, e5], by simp; omega⟩
  · have hs : stepM s t = s := if_neg h0
    rw [hs] at he
    exact absurd he h0
theorem Good.fold {l : List Trm} {k : Int} : ∀ (ts : List (List Int)) {s : Mk} {T : List (List Int)}, Good l s k T → Good l (ts.foldl stepM s) k (T ++ ts)
  | [], s, T, h => by simpa using h
  | t :: ts, s, T, h => by
    have := Good.fold ts (h.step t)
    simpa using this
theorem mk_good (l : List Trm) (k : Int) (t : List Int) (ts : List (List Int)) : Good l (mkS l k t ts) k (t :: ts) := by
  refine Good.fold ts (T := [t]) fun h => ?_
  obtain ⟨o, i, hi, e1, e2, e3, e4, e5, e6⟩ := root_made h
  exact ⟨o, i, hi, e1, e2, e3, e4, e5, by simpa using e6⟩
theorem stepM_no {s : Mk} {t : List Int} (h : s.e ≠ 0) : stepM s t = s := if_neg h

/-- What a tag was made of makes it again. -/
theorem mk_again {l : List Trm} (h : ArOk l) : ∀ {i : Nat}, i < l.length → ∃ t ts, pthT l i = t :: ts ∧ mkS l (pthK l i) t ts = ⟨l, i, 0⟩ := by
  intro i
  induction i using Nat.strongRecOn with
  | _ i ih =>
    intro hi
    have fi := h.fit hi
    obtain ⟨w1, w2, w3⟩ := with_there h hi
    by_cases hu : 0 ≤ l[i].Up
    · obtain ⟨t, ts, e1, e2⟩ := ih l[i].Up.toNat (by have := fi.2.1; omega) (by have := fi.2.1; omega)
      refine ⟨t, ts ++ [l[i].Text], by rw [pthT_next h hi hu, e1]; rfl, ?_⟩
      rw [pthK_next h hi hu, mkS, List.foldl_append]
      have e3 : ts.foldl stepM ⟨withL l (rootT (pthK l l[i].Up.toNat) t), withI l (rootT (pthK l l[i].Up.toNat) t), withE l (rootT (pthK l l[i].Up.toNat) t)⟩ = _ := e2
      rw [e3, List.foldl_cons, List.foldl_nil, stepM, if_pos rfl]
      have hn : nextT (↑l[i].Up.toNat) l[i].Text = l[i] := by
        have hk := fi.2.2.1 hu
        have hn : ((l[i].Up.toNat : Nat) : Int) = l[i].Up := by omega
        rw [nextT, hn, ← hk]
      have hE : nextE l (↑l[i].Up.toNat) l[i].Text = 0 := by rw [nextE, if_neg (by omega), hn, w1]
      have hL : nextL l (↑l[i].Up.toNat) l[i].Text = l := by rw [nextL, if_pos hE, hn, w2]
      have hI : nextI l (↑l[i].Up.toNat) l[i].Text = i := by rw [nextI, if_pos hE, hn, w3]
      rw [hE, hL, hI]
    · refine ⟨l[i].Text, [], pthT_root hi (by omega), ?_⟩
      have hr : rootT l[i].Key l[i].Text = l[i] := by
        have hk : l[i].Up = -1 := by have := fi.1; omega
        rw [rootT, ← hk]
      rw [mkS, List.foldl_nil, pthK_root hi (by omega), hr, w1, w2, w3]
theorem mk_same {l : List Trm} (h : ArOk l) {i : Nat} (hi : i < l.length) {k : Int} {t : List Int} {ts : List (List Int)} (hk : pthK l i = k) (ht : pthT l i = t :: ts) : mkS l k t ts = ⟨l, i, 0⟩ := by
  obtain ⟨t', ts', e1, e2⟩ := mk_again h hi
  rw [ht] at e1
  injection e1 with e1 e3
  rw [← hk, e1, e3]
  exact e2
theorem find_same {l : List Trm} (h : ArOk l) {i : Nat} (hi : i < l.length) {k : Int} {t : List Int} {ts : List (List Int)} (hk : pthK l i = k) (ht : pthT l i = t :: ts) : findE l k t ts = 0 ∧ findI l k t ts = i := by
  obtain ⟨t', ts', e1, e2⟩ := find_back h hi
  have hs := pth_short h hi
  rw [ht] at e1 hs
  injection e1 with e1 e3
  rw [← e1, ← e3, hk] at e2
  have hE : findE l k t ts = 0 := by rw [findE, if_pos h, if_pos hs, e2, if_pos (by omega)]
  exact ⟨hE, by rw [findI, if_pos hE, e2]⟩
theorem path_cases (l : List Trm) (u : Int) : (pathE l u = 0 ∧ ArOk l ∧ 0 ≤ u ∧ u < l.length ∧ pathK l u = pthK l u.toNat ∧ pathT l u = pthT l u.toNat) ∨ (pathE l u = 1 ∧ pathK l u = 0 ∧ pathT l u = [] ∧ ¬ (ArOk l ∧ 0 ≤ u ∧ u < l.length)) := by
  by_cases h : ArOk l ∧ 0 ≤ u ∧ u < l.length
  · have e : pathE l u = 0 := if_pos h
    exact .inl ⟨e, h.1, h.2.1, h.2.2, if_pos e, if_pos e⟩
  · have e : pathE l u = 1 := if_neg h
    exact .inr ⟨e, by rw [pathK, e]; rfl, by rw [pathT, e]; rfl, h⟩
end Go.Proofs.Ytgiapfenalhleaa
