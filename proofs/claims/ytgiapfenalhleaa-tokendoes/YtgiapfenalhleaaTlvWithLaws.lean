/-
  Plain laws of a record put among others.
-/
import Derived.Test.YtgiapfenalhleaaTlvLaws
namespace Go.Proofs.Ytgiapfenalhleaa
open Go.RowKit Go.WalkArith

def Rises (l : List Rec) : Prop := l.Pairwise fun a b => a.T < b.T
theorem MayBe.rises {l : List Rec} (h : MayBe l) : Rises l := by
  unfold Rises
  rw [List.pairwise_iff_getElem]
  intro i j hi hj hij
  induction j with
  | zero => omega
  | succ j ih =>
    have h1 := (h.2 (j + 1) hj hj).2 (by omega)
    simp only [Nat.add_sub_cancel] at h1
    rcases Nat.lt_or_ge i j with h2 | h2
    · have := ih (by omega) h2; omega
    · obtain rfl : i = j := by omega
      exact h1
theorem MayBe.of {l : List Rec} (h : l.length ≤ 64) (hv : ∀ r ∈ l, r.V.length ≤ 4096) (hr : Rises l) : MayBe l := by
  refine ⟨h, fun j hj _ => ⟨hv _ (List.getElem_mem hj), fun h0 => ?_⟩⟩
  exact List.pairwise_iff_getElem.1 hr (j - 1) j (by omega) hj (by omega)

theorem ltT_app (a b : List Rec) (t : Int) : ltT (a ++ b) t = ltT a t ++ ltT b t := List.filter_append _ _
theorem gtT_app (a b : List Rec) (t : Int) : gtT (a ++ b) t = gtT a t ++ gtT b t := List.filter_append _ _
theorem ltT_lt (l : List Rec) (t u : Int) (h : t ≤ u) : ltT (ltT l t) u = ltT l t := by
  unfold ltT
  rw [List.filter_filter]
  exact List.filter_congr fun x _ => by simp; omega
theorem ltT_lt' (l : List Rec) (t u : Int) (h : u ≤ t) : ltT (ltT l t) u = ltT l u := by
  unfold ltT
  rw [List.filter_filter]
  exact List.filter_congr fun x _ => by simp; omega
theorem gtT_gt (l : List Rec) (t u : Int) (h : u ≤ t) : gtT (gtT l t) u = gtT l t := by
  unfold gtT
  rw [List.filter_filter]
  exact List.filter_congr fun x _ => by simp; omega
theorem gtT_gt' (l : List Rec) (t u : Int) (h : t ≤ u) : gtT (gtT l t) u = gtT l u := by
  unfold gtT
  rw [List.filter_filter]
  exact List.filter_congr fun x _ => by simp; omega
theorem ltT_gt (l : List Rec) (t u : Int) (h : u ≤ t) : ltT (gtT l t) u = [] := by
  unfold gtT ltT
  rw [List.filter_filter, List.filter_eq_nil_iff]
  intro x _
  simp
  omega
theorem gtT_lt (l : List Rec) (t u : Int) (h : t ≤ u) : gtT (ltT l t) u = [] := by
  unfold gtT ltT
  rw [List.filter_filter, List.filter_eq_nil_iff]
  intro x _
  simp
  omega
theorem mid_comm (l : List Rec) (t u : Int) : ltT (gtT l t) u = gtT (ltT l u) t := by
  unfold gtT ltT
  rw [List.filter_filter, List.filter_filter]
  exact List.filter_congr fun x _ => Bool.and_comm _ _
theorem ltT_one (r : Rec) (t : Int) : ltT [r] t = if r.T < t then [r] else [] := by
  unfold ltT
  by_cases h : r.T < t <;> simp [h]
theorem gtT_one (r : Rec) (t : Int) : gtT [r] t = if t < r.T then [r] else [] := by
  unfold gtT
  by_cases h : t < r.T <;> simp [h]

theorem putIn_twice (l : List Rec) (r : Rec) : putIn (putIn l r) r = putIn l r := by
  unfold putIn
  rw [ltT_app, ltT_app, gtT_app, gtT_app, ltT_lt _ _ _ (Int.le_refl _), ltT_gt _ _ _ (Int.le_refl _), gtT_gt _ _ _ (Int.le_refl _), gtT_lt _ _ _ (Int.le_refl _), ltT_one, gtT_one, if_neg (by omega)]
  simp
theorem putIn_order1 (l : List Rec) (a b : Rec) (h : a.T < b.T) : putIn (putIn l a) b = putIn (putIn l b) a := by
  unfold putIn
  rw [ltT_app, ltT_app, gtT_app, gtT_app, ltT_app, ltT_app, gtT_app, gtT_app, ltT_lt _ _ _ (by omega), ltT_lt' _ b.T a.T (by omega), gtT_gt' _ a.T b.T (by omega), gtT_gt _ b.T a.T (by omega), ltT_gt _ b.T a.T (by omega), gtT_lt _ a.T b.T (by omega), mid_comm, ltT_one, ltT_one, gtT_one, gtT_one, if_pos h, if_neg (by omega), if_neg (by omega), if_pos h]
  simp
theorem putIn_order (l : List Rec) (a b : Rec) (h : a.T ≠ b.T) : putIn (putIn l a) b = putIn (putIn l b) a := by
  rcases Int.lt_or_gt_of_ne h with h | h
  · exact putIn_order1 l a b h
  · exact (putIn_order1 l b a h).symm

theorem mem_putIn {l : List Rec} {r x : Rec} (h : x ∈ putIn l r) : x ∈ l ∨ x = r := by
  unfold putIn at h
  rcases List.mem_append.1 h with h | h
  · rcases List.mem_append.1 h with h | h
    · exact .inl ((List.mem_filter.1 h).1)
    · exact .inr (List.mem_singleton.1 h)
  · exact .inl ((List.mem_filter.1 h).1)
theorem Rises.putIn {l : List Rec} (h : Rises l) (r : Rec) : Rises (putIn l r) := by
  have hl : ∀ x ∈ ltT l r.T, x.T < r.T := fun x hx => by simpa [ltT] using (List.mem_filter.1 hx).2
  have hg : ∀ x ∈ gtT l r.T, r.T < x.T := fun x hx => by simpa [gtT] using (List.mem_filter.1 hx).2
  unfold Go.Proofs.Ytgiapfenalhleaa.putIn Rises
  rw [List.pairwise_append, List.pairwise_append]
  refine ⟨⟨h.filter _, List.pairwise_singleton _ _, fun a ha b hb => ?_⟩, h.filter _, fun a ha b hb => ?_⟩
  · rw [List.mem_singleton.1 hb]; exact hl a ha
  · rcases List.mem_append.1 ha with ha | ha
    · have := hl a ha; have := hg b hb; omega
    · rw [List.mem_singleton.1 ha]; exact hg b hb
theorem MayBe.putIn {l : List Rec} {r : Rec} (h : MayBe l) (hr : r.V.length ≤ 4096) (hl : (putIn l r).length ≤ 64) : MayBe (putIn l r) :=
  MayBe.of hl (fun x hx => by
    rcases mem_putIn hx with hx | rfl
    · exact h.small x hx
    · exact hr) (h.rises.putIn r)

theorem find_app (a b : List Rec) (t : Int) : findR (a ++ b) t = (findR a t).or (findR b t) := List.find?_append
theorem find_lt (l : List Rec) (u t : Int) : findR (ltT l u) t = if t < u then findR l t else none := by
  unfold findR ltT
  rw [List.find?_filter]
  by_cases h : t < u
  · rw [if_pos h]
    congr 1
    funext x
    by_cases hx : x.T = t
    · simp [hx, h]
    · simp [hx]
  · rw [if_neg h, List.find?_eq_none]
    intro x _
    simp
    omega
theorem find_gt (l : List Rec) (u t : Int) : findR (gtT l u) t = if u < t then findR l t else none := by
  unfold findR gtT
  rw [List.find?_filter]
  by_cases h : u < t
  · rw [if_pos h]
    congr 1
    funext x
    by_cases hx : x.T = t
    · simp [hx, h]
    · simp [hx]
  · rw [if_neg h, List.find?_eq_none]
    intro x _
    simp
    omega
theorem find_putIn (l : List Rec) (r : Rec) : findR (putIn l r) r.T = some r := by
  unfold putIn
  rw [find_app, find_app, find_lt, if_neg (by omega)]
  simp [findR]
theorem find_putIn_ne (l : List Rec) (r : Rec) (t : Int) (h : t ≠ r.T) : findR (putIn l r) t = findR l t := by
  have h1 : findR [r] t = none := by simp [findR]; omega
  unfold putIn
  rw [find_app, find_app, find_lt, find_gt, h1]
  rcases Int.lt_or_gt_of_ne h with h | h
  · rw [if_pos h, if_neg (by omega)]; simp
  · rw [if_neg (by omega), if_pos h]; simp

theorem wE_zero {l : List Rec} {r : Rec} (h : wE l r = 0) : MayBe l ∧ r.V.length ≤ 4096 ∧ wL l r = putIn l r ∧ MayBe (putIn l r) := by
  unfold wE at h
  by_cases h1 : MayBe l ∧ r.V.length ≤ 4096
  · rw [if_pos h1] at h
    unfold woE at h
    by_cases h2 : (putIn l r).length ≤ 64
    · exact ⟨h1.1, h1.2, by unfold wL; rw [if_pos h1]; exact if_pos h2, h1.1.putIn h1.2 h2⟩
    · rw [if_neg h2] at h; omega
  · rw [if_neg h1] at h; omega
theorem wL_err {l : List Rec} {r : Rec} (h : wE l r ≠ 0) : wL l r = [] := by
  unfold wE at h
  unfold wL
  by_cases h1 : MayBe l ∧ r.V.length ≤ 4096
  · rw [if_pos h1] at h ⊢
    unfold woE at h
    by_cases h2 : (putIn l r).length ≤ 64
    · rw [if_pos h2] at h; exact absurd rfl h
    · exact if_neg h2
  · rw [if_neg h1]
theorem wE_ok {l : List Rec} {r : Rec} (h : MayBe l) (hr : r.V.length ≤ 4096) : wE l r = woE l r := if_pos ⟨h, hr⟩
theorem wL_ok {l : List Rec} {r : Rec} (h : MayBe l) (hr : r.V.length ≤ 4096) : wL l r = woL l r := if_pos ⟨h, hr⟩
theorem wE_twice {l : List Rec} {r : Rec} (h : wE l r = 0) : wE (putIn l r) r = 0 ∧ wL (putIn l r) r = putIn l r := by
  obtain ⟨h1, h2, h3, h4⟩ := wE_zero h
  rw [wE_ok h4 h2, wL_ok h4 h2]
  unfold woE woL
  rw [putIn_twice, if_pos h4.1, if_pos h4.1]
  exact ⟨rfl, rfl⟩
theorem w_order {l : List Rec} {a b : Rec} (ha : wE l a = 0) (hb : wE l b = 0) (hne : a.T ≠ b.T) : wE (putIn l a) b = wE (putIn l b) a ∧ wL (putIn l a) b = wL (putIn l b) a ∧ (wE (putIn l a) b = 0 ∨ wE (putIn l a) b = 7) := by
  obtain ⟨h1, h2, h3, h4⟩ := wE_zero ha
  obtain ⟨k1, k2, k3, k4⟩ := wE_zero hb
  rw [wE_ok h4 k2, wL_ok h4 k2, wE_ok k4 h2, wL_ok k4 h2]
  unfold woE woL
  rw [putIn_order l a b hne]
  refine ⟨rfl, rfl, ?_⟩
  split
  · exact .inl rfl
  · exact .inr rfl
theorem find_with {l : List Rec} {r : Rec} (h : wE l r = 0) : fE (putIn l r) r.T = 0 ∧ fV (putIn l r) r.T = r.V := by
  obtain ⟨h1, h2, h3, h4⟩ := wE_zero h
  rw [fE_ok h4, fV_ok h4]
  unfold foE foV
  rw [find_putIn]
  exact ⟨rfl, rfl⟩
theorem find_with_ne {l : List Rec} {r : Rec} {t : Int} (h : wE l r = 0) (hne : t ≠ r.T) : fE (putIn l r) t = fE l t ∧ fV (putIn l r) t = fV l t := by
  obtain ⟨h1, h2, h3, h4⟩ := wE_zero h
  rw [fE_ok h4, fV_ok h4, fE_ok h1, fV_ok h1]
  unfold foE foV
  rw [find_putIn_ne _ _ _ hne]
  exact ⟨rfl, rfl⟩
end Go.Proofs.Ytgiapfenalhleaa
