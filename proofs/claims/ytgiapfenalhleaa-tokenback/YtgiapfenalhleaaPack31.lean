/-
  Plain laws of a record put among others.
  The contracts of package tlv's place, Find, Number.
-/
import Derived.Test.YtgiapfenalhleaaPack1
import Derived.Test.YtgiapfenalhleaaPack2
import Derived.Test.YtgiapfenalhleaaPack3
import Derived.Test.YtgiapfenalhleaaPack4
import Derived.Test.YtgiapfenalhleaaPack5
import Derived.Test.YtgiapfenalhleaaPack6
import Derived.Test.YtgiapfenalhleaaPack7
import Derived.Test.YtgiapfenalhleaaPack8
import Derived.Test.YtgiapfenalhleaaPack9
import Derived.Test.YtgiapfenalhleaaPack10
import Derived.Test.YtgiapfenalhleaaPack11
import Derived.Test.YtgiapfenalhleaaPack12
import Derived.Test.YtgiapfenalhleaaPack13
import Derived.Test.YtgiapfenalhleaaPack14
import Derived.Test.YtgiapfenalhleaaPack15
import Derived.Test.YtgiapfenalhleaaPack16
import Derived.Test.YtgiapfenalhleaaPack17
import Derived.Test.YtgiapfenalhleaaPack18
import Derived.Test.YtgiapfenalhleaaPack19
import Derived.Test.YtgiapfenalhleaaPack20
import Derived.Test.YtgiapfenalhleaaPack21
import Derived.Test.YtgiapfenalhleaaPack22
import Derived.Test.YtgiapfenalhleaaPack23
import Derived.Test.YtgiapfenalhleaaPack24
import Derived.Test.YtgiapfenalhleaaPack25
import Derived.Test.YtgiapfenalhleaaPack26
import Derived.Test.YtgiapfenalhleaaPack27
import Derived.Test.YtgiapfenalhleaaPack28
import Derived.Test.YtgiapfenalhleaaPack29
import Derived.Test.YtgiapfenalhleaaPack30
namespace Go.Proofs.Ytgiapfenalhleaa
open Go.RowKit Go.WalkArith

def Rises (l : List Rec) : Prop := l.Pairwise fun a b => a.T < b.T
theorem MayBe.rises {l : List Rec} (h : MayBe l) : Rises l := by
  unfold Rises
  rw [List.pairwise_iff_getElem]
  intro i j hi hj hij
  induction j with
  | zero => omega
  | succ j ih =>
    have h1 := (h.2 (j + 1) hj hj).2 (by omega)
    simp only [Nat.add_sub_cancel] at h1
    rcases Nat.lt_or_ge i j with h2 | h2
    · have := ih (by omega) h2; omega
    · obtain rfl : i = j := by omega
      exact h1
theorem MayBe.of {l : List Rec} (h : l.length ≤ 64) (hv : ∀ r ∈ l, r.V.length ≤ 4096) (hr : Rises l) : MayBe l := by
  refine ⟨h, fun j hj _ => ⟨hv _ (List.getElem_mem hj), fun h0 => ?_⟩⟩
  exact List.pairwise_iff_getElem.1 hr (j - 1) j (by omega) hj (by omega)

theorem ltT_app (a b : List Rec) (t : Int) : ltT (a ++ b) t = ltT a t ++ ltT b t := List.filter_append _ _
theorem gtT_app (a b : List Rec) (t : Int) : gtT (a ++ b) t = gtT a t ++ gtT b t := List.filter_append _ _
theorem ltT_lt (l : List Rec) (t u : Int) (h : t ≤ u) : ltT (ltT l t) u = ltT l t := by
  unfold ltT
  rw [List.filter_filter]
  exact List.filter_congr fun x _ => by simp; omega
theorem ltT_lt' (l : List Rec) (t u : Int) (h : u ≤ t) : ltT (ltT l t) u = ltT l u := by
  unfold ltT
  rw [List.filter_filter]
  exact List.filter_congr fun x _ => by simp; omega
theorem gtT_gt (l : List Rec) (t u : Int) (h : u ≤ t) : gtT (gtT l t) u = gtT l t := by
  unfold gtT
  rw [List.filter_filter]
  exact List.filter_congr fun x _ => by simp; omega
theorem gtT_gt' (l : List Rec) (t u : Int) (h : t ≤ u) : gtT (gtT l t) u = gtT l u := by
  unfold gtT
  rw [List.filter_filter]
  exact List.filter_congr fun x _ => by simp; omega
theorem ltT_gt (l : List Rec) (t u : Int) (h : u ≤ t) : ltT (gtT l t) u = [] := by
  unfold gtT ltT
  rw [List.filter_filter, List.filter_eq_nil_iff]
  intro x _
  simp
  omega
theorem gtT_lt (l : List Rec) (t u : Int) (h : t ≤ u) : gtT (ltT l t) u = [] := by
  unfold gtT ltT
  rw [List.filter_filter, List.filter_eq_nil_iff]
  intro x _
  simp
  omega
theorem mid_comm (l : List Rec) (t u : Int) : ltT (gtT l t) u = gtT (ltT l u) t := by
  unfold gtT ltT
  rw [List.filter_filter, List.filter_filter]
  exact List.filter_congr fun x _ => Bool.and_comm _ _
theorem ltT_one (r : Rec) (t : Int) : ltT [r] t = if r.T < t then [r] else [] := by
  unfold ltT
  by_cases h : r.T < t <;> simp [h]
theorem gtT_one (r : Rec) (t : Int) : gtT [r] t = if t < r.T then [r] else [] := by
  unfold gtT
  by_cases h : t < r.T <;> simp [h]

theorem putIn_twice (l : List Rec) (r : Rec) : putIn (putIn l r) r = putIn l r := by
  unfold putIn
  rw [ltT_app, ltT_app, gtT_app, gtT_app, ltT_lt _ _ _ (Int.le_refl _), ltT_gt _ _ _ (Int.le_refl _), gtT_gt _ _ _ (Int.le_refl _), gtT_lt _ _ _ (Int.le_refl _), ltT_one, gtT_one, if_neg (by omega)]
  simp
theorem putIn_order1 (l : List Rec) (a b : Rec) (h : a.T < b.T) : putIn (putIn l a) b = putIn (putIn l b) a := by
  unfold putIn
  rw [ltT_app, ltT_app, gtT_app, gtT_app, ltT_app, ltT_app, gtT_app, gtT_app, ltT_lt _ _ _ (by omega), ltT_lt' _ b.T a.T (by omega), gtT_gt' _ a.T b.T (by omega), gtT_gt _ b.T a.T (by omega), ltT_gt _ b.T a.T (by omega), gtT_lt _ a.T b.T (by omega), mid_comm, ltT_one, ltT_one, gtT_one, gtT_one, if_pos h, if_neg (by omega), if_neg (by omega), if_pos h]
  simp
theorem putIn_order (l : List Rec) (a b : Rec) (h : a.T ≠ b.T) : putIn (putIn l a) b = putIn (putIn l b) a := by
  rcases Int.lt_or_gt_of_ne h with h | h
  · exact putIn_order1 l a b h
  · exact (putIn_order1 l b a h).symm

theorem mem_putIn {l : List Rec} {r x : Rec} (h : x ∈ putIn l r) : x ∈ l ∨ x = r := by
  unfold putIn at h
  rcases List.mem_append.1 h with h | h
  · rcases List.mem_append.1 h with h | h
    · exact .inl ((List.mem_filter.1 h).1)
    · exact .inr (List.mem_singleton.1 h)
  · exact .inl ((List.mem_filter.1 h).1)
theorem Rises.putIn {l : List Rec} (h : Rises l) (r : Rec) : Rises (putIn l r) := by
  have hl : ∀ x ∈ ltT l r.T, x.T < r.T := fun x hx => by simpa [ltT] using (List.mem_filter.1 hx).2
  have hg : ∀ x ∈ gtT l r.T, r.T < x.T := fun x hx => by simpa [gtT] using (List.mem_filter.1 hx).2
  unfold Go.Proofs.Ytgiapfenalhleaa.putIn Rises
  rw [List.pairwise_append, List.pairwise_append]
  refine ⟨⟨h.filter _, List.pairwise_singleton _ _, fun a ha b hb => ?_⟩, h.filter _, fun a ha b hb => ?_⟩
  · rw [List.mem_singleton.1 hb]; exact hl a ha
  · rcases List.mem_append.1 ha with ha | ha
    · have := hl a ha; have := hg b hb; omega
    · rw [List.mem_singleton.1 ha]; exact hg b hb
theorem MayBe.putIn {l : List Rec} {r : Rec} (h : MayBe l) (hr : r.V.length ≤ 4096) (hl : (putIn l r).length ≤ 64) : MayBe (putIn l r) :=
  MayBe.of hl (fun x hx => by
    rcases mem_putIn hx with hx | rfl
    · exact h.small x hx
    · exact hr) (h.rises.putIn r)

theorem find_app (a b : List Rec) (t : Int) : findR (a ++ b) t = (findR a t).or (findR b t) := List.find?_append
theorem find_lt (l : List Rec) (u t : Int) : findR (ltT l u) t = if t < u then findR l t else none := by
  unfold findR ltT
  rw [List.find?_filter]
  by_cases h : t < u
  · rw [if_pos h]
    congr 1
    funext x
    by_cases hx : x.T = t
    · simp [hx, h]
    · simp [hx]
  · rw [if_neg h, List.find?_eq_none]
    intro x _
    simp
    omega
theorem find_gt (l : List Rec) (u t : Int) : findR (gtT l u) t = if u < t then findR l t else none := by
  unfold findR gtT
  rw [List.find?_filter]
  by_cases h : u < t
  · rw [if_pos h]
    congr 1
    funext x
    by_cases hx : x.T = t
    · simp [hx, h]
    · simp [hx]
  · rw [if_neg h, List.find?_eq_none]
    intro x _
    simp
    omega
theorem find_putIn (l : List Rec) (r : Rec) : findR (putIn l r) r.T = some r := by
  unfold putIn
  rw [find_app, find_app, find_lt, if_neg (by omega)]
  simp [findR]
theorem find_putIn_ne (l : List Rec) (r : Rec) (t : Int) (h : t ≠ r.T) : findR (putIn l r) t = findR l t := by
  have h1 : findR [r] t = none := by simp [findR]; omega
  unfold putIn
  rw [find_app, find_app, find_lt, find_gt, h1]
  rcases Int.lt_or_gt_of_ne h with h | h
  · rw [if_pos h, if_neg (by omega)]; simp
  · rw [if_neg (by omega), if_pos h]; simp

theorem wE_zero {l : List Rec} {r : Rec} (h : wE l r = 0) : MayBe l ∧ r.V.length ≤ 4096 ∧ wL l r = putIn l r ∧ MayBe (putIn l r) := by
  unfold wE at h
  by_cases h1 : MayBe l ∧ r.V.length ≤ 4096
  · rw [if_pos h1] at h
    unfold woE at h
    by_cases h2 : (putIn l r).length ≤ 64
    · exact ⟨h1.1, h1.2, by unfold wL; rw [if_pos h1]; exact if_pos h2, h1.1.putIn h1.2 h2⟩
    · rw [if_neg h2] at h; omega
  · rw [if_neg h1] at h; omega
theorem wL_err {l : List Rec} {r : Rec} (h : wE l r ≠ 0) : wL l r = [] := by
  unfold wE at h
  unfold wL
  by_cases h1 : MayBe l ∧ r.V.length ≤ 4096
  · rw [if_pos h1] at h ⊢
    unfold woE at h
    by_cases h2 : (putIn l r).length ≤ 64
    · rw [if_pos h2] at h; exact absurd rfl h
    · exact if_neg h2
  · rw [if_neg h1]
theorem wE_ok {l : List Rec} {r : Rec} (h : MayBe l) (hr : r.V.length ≤ 4096) : wE l r = woE l r := if_pos ⟨h, hr⟩
theorem wL_ok {l : List Rec} {r : Rec} (h : MayBe l) (hr : r.V.length ≤ 4096) : wL l r = woL l r := if_pos ⟨h, hr⟩
theorem wE_twice {l : List Rec} {r : Rec} (h : wE l r = 0) : wE (putIn l r) r = 0 ∧ wL (putIn l r) r = putIn l r := by
  obtain ⟨h1, h2, h3, h4⟩ := wE_zero h
  rw [wE_ok h4 h2, wL_ok h4 h2]
  unfold woE woL
  rw [putIn_twice, if_pos h4.1, if_pos h4.1]
  exact ⟨rfl, rfl⟩
theorem w_order {l : List Rec} {a b : Rec} (ha : wE l a = 0) (hb : wE l b = 0) (hne : a.T ≠ b.T) : wE (putIn l a) b = wE (putIn l b) a ∧ wL (putIn l a) b = wL (putIn l b) a ∧ (wE (putIn l a) b = 0 ∨ wE (putIn l a) b = 7) := by
  obtain ⟨h1, h2, h3, h4⟩ := wE_zero ha
  obtain ⟨k1, k2, k3, k4⟩ := wE_zero hb
  rw [wE_ok h4 k2, wL_ok h4 k2, wE_ok k4 h2, wL_ok k4 h2]
  unfold woE woL
  rw [putIn_order l a b hne]
  refine ⟨rfl, rfl, ?_⟩
  split
  · exact .inl rfl
  · exact .inr rfl
theorem find_with {l : List Rec} {r : Rec} (h : wE l r = 0) : fE (putIn l r) r.T = 0 ∧ fV (putIn l r) r.T = r.V := by
  obtain ⟨h1, h2, h3, h4⟩ := wE_zero h
  rw [fE_ok h4, fV_ok h4]
  unfold foE foV
  rw [find_putIn]
  exact ⟨rfl, rfl⟩
theorem find_with_ne {l : List Rec} {r : Rec} {t : Int} (h : wE l r = 0) (hne : t ≠ r.T) : fE (putIn l r) t = fE l t ∧ fV (putIn l r) t = fV l t := by
  obtain ⟨h1, h2, h3, h4⟩ := wE_zero h
  rw [fE_ok h4, fV_ok h4, fE_ok h1, fV_ok h1]
  unfold foE foV
  rw [find_putIn_ne _ _ _ hne]
  exact ⟨rfl, rfl⟩
end Go.Proofs.Ytgiapfenalhleaa
namespace Go.Proofs.Ytgiapfenalhleaa
open Go.RowKit Go.WalkArith

/-- The type of the k-th record, or -1. -/
def tAt (l : List Rec) (k : Nat) : Int := ((l[k]?).map (·.T)).getD (-1)
/-- Ahead of place k are the lesser types, and from there on no lesser ones. -/
def AtT (l : List Rec) (t : Int) (k : Nat) : Prop := k ≤ l.length ∧ (∀ (i : Nat) (h : i < l.length), i < k → l[i].T < t) ∧ ∀ (i : Nat) (h : i < l.length), k ≤ i → t ≤ l[i].T
/-- What a search knows of its two ends. -/
def Ends (l : List Rec) (t : Int) (i j : Nat) : Prop := i ≤ j ∧ j ≤ l.length ∧ (∀ (k : Nat) (h : k < l.length), k < i → l[k].T < t) ∧ ∀ (k : Nat) (h : k < l.length), j ≤ k → t ≤ l[k].T
theorem tAt_get {l : List Rec} {k : Nat} (h : k < l.length) : tAt l k = l[k].T := by simp [tAt, List.getElem?_eq_getElem h]
theorem tAt_out {l : List Rec} {k : Nat} (h : l.length ≤ k) : tAt l k = -1 := by simp [tAt, List.getElem?_eq_none h]
theorem Ends.up {l : List Rec} {t : Int} {i j m : Nat} (h : Ends l t i j) (hr : Rises l) (hm : m < j) (hi : i ≤ m) (hx : m < l.length) (hlt : l[m].T < t) : Ends l t (m + 1) j := by
  refine ⟨by omega, h.2.1, fun k hk hkm => ?_, h.2.2.2⟩
  rcases Nat.lt_or_ge k m with h1 | h1
  · have := List.pairwise_iff_getElem.1 hr k m hk hx h1
    omega
  · obtain rfl : k = m := by omega
    exact hlt
theorem Ends.down {l : List Rec} {t : Int} {i j m : Nat} (h : Ends l t i j) (hr : Rises l) (hi : i ≤ m) (hx : m < l.length) (hlt : ¬ l[m].T < t) : Ends l t i m := by
  refine ⟨hi, by omega, h.2.2.1, fun k hk hmk => ?_⟩
  rcases Nat.lt_or_ge m k with h1 | h1
  · have := List.pairwise_iff_getElem.1 hr m k hx hk h1
    omega
  · obtain rfl : k = m := by omega
    omega
theorem AtT.lt {l : List Rec} {t : Int} {k : Nat} (h : AtT l t k) : ltT l t = l.take k := by
  unfold ltT
  conv => lhs; rw [← List.take_append_drop k l]
  rw [List.filter_append, List.filter_eq_self.2, List.filter_eq_nil_iff.2, List.append_nil]
  · intro r hr
    obtain ⟨i, hi, rfl⟩ := List.getElem_of_mem hr
    rw [List.getElem_drop]
    rw [List.length_drop] at hi
    have := h.2.2 (k + i) (by omega) (by omega)
    simpa using this
  · intro r hr
    obtain ⟨i, hi, rfl⟩ := List.getElem_of_mem hr
    rw [List.getElem_take]
    rw [List.length_take] at hi
    have := h.2.1 i (by omega) (by omega)
    simpa using this
theorem AtT.gt {l : List Rec} {t : Int} {k : Nat} (h : AtT l t k) (hr : Rises l) : gtT l t = l.drop (if tAt l k = t then k + 1 else k) := by
  have key : ∀ m, k ≤ m → (∀ (i : Nat) (h : i < l.length), i < m → ¬ t < l[i].T) → (∀ (i : Nat) (h : i < l.length), m ≤ i → t < l[i].T) → gtT l t = l.drop m := by
    intro m hm h1 h2
    unfold gtT
    conv => lhs; rw [← List.take_append_drop m l]
    rw [List.filter_append, List.filter_eq_nil_iff.2, List.filter_eq_self.2, List.nil_append]
    · intro r hr
      obtain ⟨i, hi, rfl⟩ := List.getElem_of_mem hr
      rw [List.getElem_drop]
      rw [List.length_drop] at hi
      have := h2 (m + i) (by omega) (by omega)
      simpa using this
    · intro r hr
      obtain ⟨i, hi, rfl⟩ := List.getElem_of_mem hr
      rw [List.getElem_take]
      rw [List.length_take] at hi
      have := h1 i (by omega) (by omega)
      simpa using this
  split
  · rename_i he
    rcases Nat.lt_or_ge k l.length with hk | hk
    · rw [tAt_get hk] at he
      refine key (k + 1) (by omega) (fun i hi hik => ?_) fun i hi hik => ?_
      · rcases Nat.lt_or_ge i k with h1 | h1
        · have := h.2.1 i hi h1; omega
        · obtain rfl : i = k := by omega
          omega
      · have := List.pairwise_iff_getElem.1 hr k i hk hi (by omega)
        omega
    · refine key (k + 1) (by omega) (fun i hi hik => ?_) fun i hi hik => by omega
      have := h.2.1 i hi (by omega); omega
  · rename_i he
    refine key k (Nat.le_refl _) (fun i hi hik => by have := h.2.1 i hi hik; omega) fun i hi hik => ?_
    rcases Nat.lt_or_ge k i with h1 | h1
    · have h2 := List.pairwise_iff_getElem.1 hr k i (by omega) hi h1
      have h3 := h.2.2 k (by omega) (Nat.le_refl _)
      omega
    · obtain rfl : i = k := by omega
      rw [tAt_get hi] at he
      have h3 := h.2.2 i hi (Nat.le_refl _)
      omega
theorem AtT.find {l : List Rec} {t : Int} {k : Nat} (h : AtT l t k) (hk : k < l.length) (he : tAt l k = t) : findR l t = some l[k] :=
  NoT.hit (fun i hi hik => by have := h.2.1 i hi hik; omega) hk (by rw [← he, tAt_get hk])
theorem AtT.none {l : List Rec} {t : Int} {k : Nat} (h : AtT l t k) (hr : Rises l) (he : tAt l k ≠ t) : findR l t = Option.none := by
  refine NoT.none fun i hi _ => ?_
  rcases Nat.lt_or_ge i k with h1 | h1
  · have := h.2.1 i hi h1; omega
  · rcases Nat.lt_or_ge k i with h2 | h2
    · have h4 := List.pairwise_iff_getElem.1 hr k i (by omega) hi h2
      have h3 := h.2.2 k (by omega) (Nat.le_refl _)
      omega
    · obtain rfl : i = k := by omega
      rwa [tAt_get hi] at he

set_option maxRecDepth 100000 in
set_option maxHeartbeats 1000000 in
theorem search_any (A : Option Addr) (n c : Nat) (l : List Rec) (t : Int) (w : World) (hr : Sl lay_Record w (· < w.heap.size) A n c l) (hn : n ≤ 64) (hR : Rises l) (h0 : 0 ≤ t) :
    Calls Try.prog 103 #[.slice A n c, .int .u64 t, .func (.func 104) #[] #[]] w fun e w' => ∃ k : Nat, e = .returned (.tuple #[.int .i64 k, .bool (decide (tAt l k = t))]) ∧ AtT l t k ∧ Below w.heap.size w w' := by
  have HL := hid hr.len
  have HR := hid hR
  clear hR
  go_enter Try.func103, Try.ntmps103
  go_wp2
  go_loopw [9, 10] (fun u v wr => ∃ i j : Nat, u = .int .i64 i ∧ v = .int .i64 j ∧ Ends l t i j ∧ Below w.heap.size w wr) (fun u v _ => (intOf v).toNat - (intOf u).toNat)
  case atStart => exact ⟨0, n, rfl, rfl, ⟨Nat.zero_le _, by rw [HL.out]; exact Nat.le_refl _, fun _ _ h => absurd h (by omega), fun k h1 h2 => by rw [HL.out] at h1; omega⟩, Below.refl _ _⟩
  case round =>
    obtain ⟨i, j, rfl, rfl, he, hbel⟩ := hrel
    have hij := he.1
    have hjn : j ≤ n := by rw [← HL.out]; exact he.2.1
    have HE := hid he
    clear he
    by_cases hlt : i < j
    · have hmj : (i + j) / 2 < j := by omega
      have him : i ≤ (i + j) / 2 := by omega
      obtain ⟨b, off, A', n', c', hx, rfl, hb, h1, h2, hTb, hV⟩ := rec_at hr (j := (i + j) / 2) (by omega)
      have q1 := (hbel.cell (p := ⟨b, off + (i + j) / 2 * 2, none⟩) hb).trans h1
      have q2 := (hbel.cell (p := ⟨b, off + (i + j) / 2 * 2 + 1, none⟩) hb).trans h2
      have wm : IntKind.i64.wrap ((i : Int) + (j : Int)) = (i : Int) + (j : Int) := IntWalk.i64_in _ (by omega)
      clear h1 h2
      have PR := hid (show lay_Record.rep wr (· < w.heap.size) l[(i + j) / 2] #[.int .u64 l[(i + j) / 2].T, .slice A' n' c'].toList from rep_Record.2 ⟨A', n', c', rfl, wf_u64 hTb, hV.keep fun _ hp => hbel.cell hp⟩)
      have HUP := hid (fun hc => HE.out.up HR.out hmj him hx hc)
      have HDN := hid (fun hc => HE.out.down HR.out him hx hc)
      generalize hG : l[(i + j) / 2] = r at *
      clear hG
      go_wp2_with fail
      with_reducible refine (place1_any _ _ r t _ PR.out).mono ?_
      rintro e w2 ⟨rfl, hb2⟩
      have HB := hbel.trans (hb2.mono hbel.size)
      by_cases hc : r.T < t
      · have hcm : cmpI r.T t = -1 := by unfold cmpI; rw [if_pos hc]
        have HN := hid (HUP.out hc)
        rw [hcm]
        clear hc hcm
        go_wp2
        go_roundw
        case rel => exact ⟨(i + j) / 2 + 1, j, by go_num, rfl, HN.out, HB⟩
        case measure => simp [intOf]; omega
      · have hcm : decide (cmpI r.T t < 0) = false := by unfold cmpI; simp [hc]; split <;> omega
        have HN := hid (HDN.out (by omega))
        clear hc
        go_wp2
        go_roundw
        case rel => exact ⟨i, (i + j) / 2, rfl, by go_num, HN.out, HB⟩
        case measure => simp [intOf]; omega
    · obtain rfl : i = j := by omega
      have HA := hid (show AtT l t i from ⟨HE.out.2.1, HE.out.2.2.1, HE.out.2.2.2⟩)
      by_cases hin : i < n
      · obtain ⟨b, off, A', n', c', hx, rfl, hb, h1, h2, hTb, hV⟩ := rec_at hr (j := i) hin
        have q1 := (hbel.cell (p := ⟨b, off + i * 2, none⟩) hb).trans h1
        have q2 := (hbel.cell (p := ⟨b, off + i * 2 + 1, none⟩) hb).trans h2
        have PR := hid (show lay_Record.rep wr (· < w.heap.size) l[i] #[.int .u64 l[i].T, .slice A' n' c'].toList from rep_Record.2 ⟨A', n', c', rfl, wf_u64 hTb, hV.keep fun _ hp => hbel.cell hp⟩)
        have HT := hid (show (cmpI l[i].T t == 0) = decide (tAt l i = t) from by
          rw [tAt_get hx]
          unfold cmpI
          by_cases h : l[i].T = t
          · simp [h]
          · rw [decide_eq_false h]
            split
            · rfl
            · split
              · rfl
              · omega)
        clear h1 h2
        go_wp2_with fail
        with_reducible refine (place1_any _ _ l[i] t _ PR.out).mono ?_
        rintro e w2 ⟨rfl, hb2⟩
        have HB := hbel.trans (hb2.mono hbel.size)
        generalize cmpI l[i].T t = cc at *
        go_wp2
        go_ret2
        exact ⟨i, by rw [← HT.out]; rfl, HA.out, HB⟩
      · have hin' : decide ((i : Int) < (n : Int)) = false := by simp; omega
        have HT := hid (show decide (tAt l i = t) = false from decide_eq_false (by rw [tAt_out (by rw [HL.out]; omega)]; omega))
        go_wp2
        go_ret2
        exact ⟨i, by rw [HT.out]; rfl, HA.out, hbel⟩
theorem place_any (A : Option Addr) (n c : Nat) (l : List Rec) (t : Int) (w : World) (hr : Sl lay_Record w (· < w.heap.size) A n c l) (hn : n ≤ 64) (hR : Rises l) (h0 : 0 ≤ t) :
    Calls Try.prog 96 #[.slice A n c, .int .u64 t] w fun e w' => ∃ k : Nat, e = .returned (.tuple #[.int .i64 k, .bool (decide (tAt l k = t))]) ∧ AtT l t k ∧ Below w.heap.size w w' := by
  go_enter Try.func96, Try.ntmps96
  go_wp2_with fail
  with_reducible refine (search_any _ _ _ l t _ hr hn hR h0).mono ?_
  rintro e w2 ⟨k, rfl, hk, hb2⟩
  have HK := hid hk
  clear hk
  obtain ⟨dd, hdd⟩ : ∃ d, decide (tAt l k = t) = d := ⟨_, rfl⟩
  rw [hdd]
  have HD := hid hdd
  clear hdd
  go_wp2
  go_ret2
  exact ⟨k, by rw [HD.out]; rfl, HK.out, hb2⟩

set_option maxRecDepth 100000 in
set_option maxHeartbeats 1000000 in
theorem tlvFind_any (A : Option Addr) (n c : Nat) (l : List Rec) (t : Int) (w : World) (hr : Sl lay_Record w (· < w.heap.size) A n c l) (h0 : 0 ≤ t) :
    Calls Try.prog 82 #[.slice A n c, .int .u64 t] w fun e w' => ∃ v', e = .returned (.tuple #[v', .int .i64 (fE l t)]) ∧ Own w' w.heap.size 5 .u8 v' (fV l t) ∧ Below w.heap.size w w' := by
  have HL := hid hr.len
  by_cases hm : MayBe l
  case neg =>
    have HC := hid (chk_no hm)
    rw [fE_no hm, fV_no hm]
    go_enter Try.func82, Try.ntmps82
    go_wp2_with (go_at_call 79; go_must (refine (tlvCheck_any _ _ _ _ _ hr).mono ?_; rw [HC.out]; rintro e w1 ⟨rfl, hb1⟩))
    go_ret2
    exact ⟨_, rfl, Own.nil _ _ _ _, hb1⟩
  have HC := hid (chk_ok hm)
  have HM := hid hm
  have hn64 : n ≤ 64 := by rw [← HL.out]; exact hm.1
  rw [fE_ok hm, fV_ok hm]
  clear hm
  go_enter Try.func82, Try.ntmps82
  go_wp2_with (go_at_call 79; go_must (refine (tlvCheck_any _ _ _ _ _ hr).mono ?_; rw [HC.out]; rintro e w1 ⟨rfl, hb1⟩))
  with_reducible refine (place_any _ _ _ l t _ (hr.call hb1) hn64 HM.out.rises h0).mono ?_
  rintro e w2 ⟨k, rfl, hk, hb2⟩
  have HB := bel_call hb1 hb2
  have HK := hid hk
  clear hk
  by_cases he : tAt l k = t
  · have hkl : k < l.length := by
      rcases Nat.lt_or_ge k l.length with h | h
      · exact h
      · rw [tAt_out h] at he; omega
    have hkn : k < n := by rw [← HL.out]; exact hkl
    have HF := hid (HK.out.find hkl he)
    have HV := hid (show foV l t = l[k].V from by unfold foV; rw [HF.out]; rfl)
    have HE := hid (show foE l t = 0 from by unfold foE; rw [HF.out]; rfl)
    rw [decide_eq_true he]
    obtain ⟨b, off, A', n', c', hx, rfl, hb, h1, h2, hTb, hV⟩ := rec_at hr (j := k) hkn
    have q2 := (HB.cell (p := ⟨b, off + k * 2 + 1, none⟩) hb).trans h2
    have R := hid ((hV.rd (B := w.heap.size) fun _ h => h).below HB)
    have hn' : n' ≤ 4096 := by rw [← hV.len]; exact HM.out.small _ (List.getElem_mem hx)
    clear h1 h2 hV he
    go_wp2_with fail
    with_reducible refine (clone_any _ _ _ _ l[k].V _ R.out HB.size (by omega)).mono ?_
    rintro e w3 ⟨v3, rfl, hown3, hb3⟩
    go_wp2
    go_ret2
    exact ⟨_, by rw [HE.out]; rfl, by rw [HV.out]; exact hown3.weaken HB.size, bel_call HB hb3⟩
  · have HF := hid (HK.out.none HM.out.rises he)
    have HV := hid (show foV l t = [] from by unfold foV; rw [HF.out]; rfl)
    have HE := hid (show foE l t = 5 from by unfold foE; rw [HF.out]; rfl)
    rw [decide_eq_false he]
    clear he
    go_wp2
    go_ret2
    exact ⟨_, by rw [HE.out]; rfl, by rw [HV.out]; exact Own.nil _ _ _ _, HB⟩

set_option maxRecDepth 100000 in
set_option maxHeartbeats 1000000 in
theorem tlvNumber_any (A : Option Addr) (n c : Nat) (l : List Rec) (t : Int) (w : World) (hr : Sl lay_Record w (· < w.heap.size) A n c l) (h0 : 0 ≤ t) :
    Calls Try.prog 83 #[.slice A n c, .int .u64 t] w fun e w' => e = .returned (.tuple #[.int .u64 (nV l t), .int .i64 (nE l t)]) ∧ Below w.heap.size w w' := by
  unfold nV nE
  have HF := tlvFind_any A n c l t w hr h0
  generalize fE l t = e at *
  generalize fV l t = xs at *
  by_cases he : e = 0
  case neg =>
    rw [if_pos he, if_pos he]
    have hb : (e != 0) = true := by simpa using he
    clear he
    go_enter Try.func83, Try.ntmps83
    go_wp2_with (go_at_call 82; go_must (refine HF.mono ?_; rintro e w1 ⟨v1, rfl, hown1, hb1⟩))
    go_ret2
    exact ⟨rfl, hb1⟩
  subst he
  rw [if_neg (by simp), if_neg (by simp)]
  unfold numV numE
  by_cases he : getE xs = 0
  case neg =>
    rw [if_pos he, if_pos he]
    have HE := hid he
    have hb : (getE xs != 0) = true := by simpa using he
    clear he
    go_enter Try.func83, Try.ntmps83
    go_wp2_with (go_at_call 82; go_must (refine HF.mono ?_; rintro e w1 ⟨v1, rfl, hown1, hb1⟩; obtain ⟨A1, n1, c1, rfl, hr1⟩ := hown1.formN))
    with_reducible refine (get_bad _ _ _ _ xs _ hr1 HE.out).mono ?_
    rintro e w2 ⟨rfl, hb2⟩
    go_wp2
    go_ret2
    exact ⟨rfl, bel_call hb1 hb2⟩
  have hne : ¬ (getE xs ≠ 0) := by simp [he]
  rw [if_neg hne, if_neg hne]
  have HE := hid he
  clear he hne
  by_cases hkk : (oct (rdN xs)).length = xs.length
  all_goals
    have HK := hid hkk
    first | rw [if_pos hkk, if_pos hkk] | rw [if_neg hkk, if_neg hkk]
    clear hkk
    go_enter Try.func83, Try.ntmps83
    go_wp2_with (go_at_call 82; go_must (refine HF.mono ?_; rintro e w1 ⟨v1, rfl, hown1, hb1⟩; obtain ⟨A1, n1, c1, rfl, hr1⟩ := hown1.formN))
    obtain ⟨m, k, hX, hK, hk1, hk9, hkn, hm, -⟩ := num_at hr1 HE.out
    have HL := hid hr1.len
    have X := hid hX
    have K := hid hK
    clear hX hK
    with_reducible refine (get_ok _ _ _ _ xs _ hr1 HE.out).mono ?_
    rw [K.out, X.out]
    rintro e w2 ⟨rfl, hb2⟩
  · have hkk : k = n1 := by rw [← K.out, HK.out, HL.out]
    subst hkk
    go_wp2
    go_ret2
    exact ⟨by rw [X.out]; rfl, bel_call hb1 hb2⟩
  · have hkk : k < n1 := by have h1 : k ≠ n1 := fun h => HK.out (by rw [K.out, HL.out, h]); omega
    have hne : decide ((k : Int) < (n1 : Int)) = true := by simp; omega
    go_wp2
    go_ret2
    exact ⟨rfl, bel_call hb1 hb2⟩
end Go.Proofs.Ytgiapfenalhleaa
