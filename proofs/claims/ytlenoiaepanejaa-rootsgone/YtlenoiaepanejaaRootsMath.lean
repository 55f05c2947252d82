/-
  Roots, plain: which may be, a root's key, roots with one; what follows.
-/
import Derived.Test.YtlenoiaepanejaaTypes
namespace Go.Proofs.Ytlenoiaepanejaa
open Go.RowKit Go.WalkArith

def RtUp (l : List Rtk) : Prop := l.Pairwise fun a b => a.Id < b.Id
def RtKs (l : List Rtk) : Prop := l.Pairwise fun a b => a.Key ≠ b.Key
def RtOk (l : List Rtk) : Prop := l.length ≤ 64 ∧ RtUp l ∧ RtKs l
instance (l : List Rtk) : Decidable (RtUp l) := inferInstanceAs (Decidable (List.Pairwise _ _))
instance (l : List Rtk) : Decidable (RtKs l) := inferInstanceAs (Decidable (List.Pairwise _ _))
instance (l : List Rtk) : Decidable (RtOk l) := inferInstanceAs (Decidable (_ ∧ _ ∧ _))
def rkE (l : List Rtk) : Int := if RtOk l then 0 else 1
def hasK (l : List Rtk) (k : Int) : Bool := l.any fun r => r.Key == k
def rootF (l : List Rtk) (id : Int) : Option Rtk := l.find? fun r => r.Id == id
def kyE (l : List Rtk) (id : Int) : Int := if RtOk l then (match rootF l id with | none => 5 | some r => if r.Gone = true then 13 else 0) else 1
def kyV (l : List Rtk) (id : Int) : Int := if kyE l id = 0 then (match rootF l id with | none => 0 | some r => r.Key) else 0
def withK (l : List Rtk) (r : Rtk) : List Rtk := (l.filter fun x => decide (x.Id < r.Id)) ++ [r] ++ l.filter fun x => decide (r.Id < x.Id)
def adE (l : List Rtk) (id key : Int) : Int := if RtOk l then (if ((rootF l id).isSome || hasK l key) = true then 6 else if l.length = 64 then 7 else 0) else 1
def adL (l : List Rtk) (id key : Int) : List Rtk := if adE l id key = 0 then withK l ⟨id, key, false⟩ else []
def tnE (l : List Rtk) (id key : Int) : Int := if kyE l id ≠ 0 then kyE l id else if hasK l key = true then 6 else 0
def tnL (l : List Rtk) (id key : Int) : List Rtk := if tnE l id key = 0 then withK l ⟨id, key, false⟩ else []
def rvL (l : List Rtk) (id : Int) : List Rtk := if kyE l id = 0 then withK l ⟨id, kyV l id, true⟩ else []

theorem hasK_iff {l : List Rtk} {k : Int} : hasK l k = true ↔ ∃ r ∈ l, r.Key = k := by simp [hasK]
theorem rootF_some {l : List Rtk} {id : Int} {r : Rtk} (h : rootF l id = some r) : r ∈ l ∧ r.Id = id := by
  have h1 := List.mem_of_find?_eq_some h
  have h2 := List.find?_some h
  exact ⟨h1, by simpa using h2⟩
theorem rootF_none {l : List Rtk} {id : Int} (h : rootF l id = none) : ∀ r ∈ l, r.Id ≠ id := fun r hr => by
  have := List.find?_eq_none.1 h r hr
  simpa using this
theorem up_one {l : List Rtk} (h : RtUp l) {a b : Rtk} (ha : a ∈ l) (hb : b ∈ l) (e : a.Id = b.Id) : a = b := by
  obtain ⟨i, hi, rfl⟩ := List.getElem_of_mem ha
  obtain ⟨j, hj, rfl⟩ := List.getElem_of_mem hb
  rcases Nat.lt_trichotomy i j with q | q | q
  · have := List.pairwise_iff_getElem.1 h i j hi hj q; omega
  · subst q; rfl
  · have := List.pairwise_iff_getElem.1 h j i hj hi q; omega
theorem ks_one {l : List Rtk} (h : RtKs l) {a b : Rtk} (ha : a ∈ l) (hb : b ∈ l) (e : a.Key = b.Key) : a = b := by
  obtain ⟨i, hi, rfl⟩ := List.getElem_of_mem ha
  obtain ⟨j, hj, rfl⟩ := List.getElem_of_mem hb
  rcases Nat.lt_trichotomy i j with q | q | q
  · exact absurd e (List.pairwise_iff_getElem.1 h i j hi hj q)
  · subst q; rfl
  · exact absurd e.symm (List.pairwise_iff_getElem.1 h j i hj hi q)
theorem rootF_mem {l : List Rtk} (h : RtUp l) {r : Rtk} (hr : r ∈ l) : rootF l r.Id = some r := by
  cases hf : rootF l r.Id with
  | none => exact absurd rfl (rootF_none hf r hr)
  | some x =>
    obtain ⟨h1, h2⟩ := rootF_some hf
    rw [up_one h h1 hr h2]
/-- Rows that rise are the same if the same are in them. -/
theorem up_ext : ∀ {a b : List Rtk}, RtUp a → RtUp b → (∀ x, x ∈ a ↔ x ∈ b) → a = b
  | [], [], _, _, _ => rfl
  | [], y :: b, _, _, h => by have := (h y).2 (by simp); simp at this
  | x :: a, [], _, _, h => by have := (h x).1 (by simp); simp at this
  | x :: a, y :: b, ha, hb, h => by
    have ha' := List.pairwise_cons.1 ha
    have hb' := List.pairwise_cons.1 hb
    have e : x = y := by
      rcases List.mem_cons.1 ((h x).1 (by simp)) with e | h1
      · exact e
      · rcases List.mem_cons.1 ((h y).2 (by simp)) with e | h2
        · exact e.symm
        · have := hb'.1 x h1
          have := ha'.1 y h2
          omega
    subst e
    rw [up_ext ha'.2 hb'.2 fun z => by
      constructor
      · intro hz
        rcases List.mem_cons.1 ((h z).1 (by simp [hz])) with e | k
        · subst e; have := ha'.1 z hz; omega
        · exact k
      · intro hz
        rcases List.mem_cons.1 ((h z).2 (by simp [hz])) with e | k
        · subst e; have := hb'.1 z hz; omega
        · exact k]
theorem with_mem {l : List Rtk} {r x : Rtk} : x ∈ withK l r ↔ (x ∈ l ∧ x.Id ≠ r.Id) ∨ x = r := by
  unfold withK
  simp only [List.mem_append, List.mem_filter, List.mem_singleton, decide_eq_true_eq]
  constructor
  · rintro ((⟨h1, h2⟩ | h) | ⟨h1, h2⟩)
    · exact .inl ⟨h1, by omega⟩
    · exact .inr h
    · exact .inl ⟨h1, by omega⟩
  · rintro (⟨h1, h2⟩ | h)
    · rcases Int.lt_or_gt_of_ne h2 with q | q
      · exact .inl (.inl ⟨h1, q⟩)
      · exact .inr ⟨h1, q⟩
    · exact .inl (.inr h)
theorem with_up {l : List Rtk} (h : RtUp l) (r : Rtk) : RtUp (withK l r) := by
  unfold withK RtUp
  rw [List.pairwise_append, List.pairwise_append]
  refine ⟨⟨h.filter _, List.pairwise_singleton _ _, fun a ha b hb => ?_⟩, h.filter _, fun a ha b hb => ?_⟩
  · simp only [List.mem_filter, decide_eq_true_eq] at ha
    simp only [List.mem_singleton] at hb
    subst hb; exact ha.2
  · simp only [List.mem_append, List.mem_filter, List.mem_singleton, decide_eq_true_eq] at ha hb
    rcases ha with ⟨_, ha⟩ | rfl
    · omega
    · exact hb.2
theorem up_ks {l : List Rtk} (h : RtUp l) (hk : ∀ a ∈ l, ∀ b ∈ l, a.Key = b.Key → a = b) : RtKs l := by
  refine h.imp_of_mem fun {a b} ha hb hlt e => ?_
  have := hk a ha b hb e
  subst this
  omega
theorem with_ks {l : List Rtk} (h : RtUp l) (hk : RtKs l) {r : Rtk} (hr : ∀ x ∈ l, x.Id ≠ r.Id → x.Key ≠ r.Key) : RtKs (withK l r) := by
  refine up_ks (with_up h r) fun a ha b hb e => ?_
  rcases with_mem.1 ha with ⟨a1, a2⟩ | rfl
  · rcases with_mem.1 hb with ⟨b1, b2⟩ | rfl
    · exact ks_one hk a1 b1 e
    · exact absurd e (hr a a1 a2)
  · rcases with_mem.1 hb with ⟨b1, b2⟩ | rfl
    · exact absurd e.symm (hr b b1 b2)
    · rfl
theorem filters_len (l : List Rtk) (k : Int) : (l.filter fun x => decide (x.Id < k)).length + (l.filter fun x => decide (k < x.Id)).length + (l.filter fun x => x.Id == k).length = l.length := by
  induction l with
  | nil => rfl
  | cons x l ih =>
    simp only [List.filter_cons, List.length_cons]
    rcases Int.lt_trichotomy x.Id k with q | q | q
    · rw [if_pos (by simpa using q), if_neg (by simp; omega), if_neg (by simp; omega)]
      simp only [List.length_cons]; omega
    · rw [if_neg (by simp; omega), if_neg (by simp; omega), if_pos (by simpa using q)]
      simp only [List.length_cons]; omega
    · rw [if_neg (by simp; omega), if_pos (by simpa using q), if_neg (by simp; omega)]
      simp only [List.length_cons]; omega
theorem with_len (l : List Rtk) (r : Rtk) : (withK l r).length + (l.filter fun x => x.Id == r.Id).length = l.length + 1 := by
  have := filters_len l r.Id
  unfold withK
  simp only [List.length_append, List.length_singleton]
  omega
theorem with_len_new {l : List Rtk} {r : Rtk} (h : rootF l r.Id = none) : (withK l r).length = l.length + 1 := by
  have h1 := with_len l r
  have : (l.filter fun x => x.Id == r.Id) = [] := List.filter_eq_nil_iff.2 fun x hx => by have := rootF_none h x hx; simpa using this
  rw [this] at h1
  simpa using h1
theorem with_len_old {l : List Rtk} {r x : Rtk} (h : rootF l r.Id = some x) : (withK l r).length ≤ l.length := by
  have h1 := with_len l r
  obtain ⟨h2, h3⟩ := rootF_some h
  have : 0 < (l.filter fun x => x.Id == r.Id).length := List.length_pos_of_mem (List.mem_filter.2 ⟨h2, by simpa using h3⟩)
  omega
theorem ky_ok {l : List Rtk} {id : Int} (h : kyE l id = 0) : RtOk l ∧ ∃ r, rootF l id = some r ∧ r ∈ l ∧ r.Id = id ∧ r.Gone = false ∧ kyV l id = r.Key := by
  have h' := h
  unfold kyE at h
  by_cases q : RtOk l
  · rw [if_pos q] at h
    cases hf : rootF l id with
    | none => rw [hf] at h; simp at h
    | some r =>
      rw [hf] at h
      obtain ⟨h1, h2⟩ := rootF_some hf
      have hg : r.Gone = false := by
        cases hg : r.Gone with
        | false => rfl
        | true => simp [hg] at h
      exact ⟨q, r, rfl, h1, h2, hg, by unfold kyV; rw [if_pos h', hf]⟩
  · rw [if_neg q] at h; cases h
theorem ky_of {l : List Rtk} (h : RtOk l) {r : Rtk} (hr : r ∈ l) : kyE l r.Id = (if r.Gone = true then 13 else 0) ∧ kyV l r.Id = (if r.Gone = true then 0 else r.Key) := by
  have hf := rootF_mem h.2.1 hr
  have e : kyE l r.Id = (if r.Gone = true then 13 else 0) := by unfold kyE; rw [if_pos h, hf]
  refine ⟨e, ?_⟩
  unfold kyV
  rw [e, hf]
  cases r.Gone <;> simp
theorem ad_ok {l : List Rtk} {id key : Int} (h : adE l id key = 0) : RtOk l ∧ rootF l id = none ∧ hasK l key = false ∧ l.length < 64 ∧ RtOk (withK l ⟨id, key, false⟩) ∧ adL l id key = withK l ⟨id, key, false⟩ := by
  have h' := h
  unfold adE at h
  by_cases q : RtOk l
  · rw [if_pos q] at h
    by_cases q2 : ((rootF l id).isSome || hasK l key) = true
    · rw [if_pos q2] at h; cases h
    · rw [if_neg q2] at h
      by_cases q3 : l.length = 64
      · rw [if_pos q3] at h; cases h
      · simp only [Bool.or_eq_true, not_or, Bool.not_eq_true] at q2
        have hn : rootF l id = none := by simpa using q2.1
        have hl := q.1
        refine ⟨q, hn, q2.2, by omega, ⟨?_, with_up q.2.1 _, with_ks q.2.1 q.2.2 fun x hx _ e => ?_⟩, if_pos h'⟩
        · rw [with_len_new (r := ⟨id, key, false⟩) hn]; omega
        · have : hasK l key = true := hasK_iff.2 ⟨x, hx, e⟩
          rw [q2.2] at this; cases this
  · rw [if_neg q] at h; cases h
theorem tn_ok {l : List Rtk} {id key : Int} (h : tnE l id key = 0) : kyE l id = 0 ∧ hasK l key = false ∧ RtOk (withK l ⟨id, key, false⟩) ∧ tnL l id key = withK l ⟨id, key, false⟩ := by
  have h' := h
  unfold tnE at h
  by_cases q : kyE l id = 0
  · rw [if_neg (by simpa using q)] at h
    by_cases q2 : hasK l key = true
    · rw [if_pos q2] at h; cases h
    · have q2' : hasK l key = false := by simpa using q2
      obtain ⟨h1, r, h2, h3, h4, h5, h6⟩ := ky_ok q
      refine ⟨q, q2', ⟨?_, with_up h1.2.1 _, with_ks h1.2.1 h1.2.2 fun x hx _ e => ?_⟩, if_pos h'⟩
      · have := with_len_old (r := ⟨id, key, false⟩) h2
        have := h1.1
        omega
      · have : hasK l key = true := hasK_iff.2 ⟨x, hx, e⟩
        rw [q2'] at this; cases this
  · rw [if_pos q] at h; exact absurd h q
theorem rv_ok {l : List Rtk} {id : Int} (h : kyE l id = 0) : RtOk (withK l ⟨id, kyV l id, true⟩) ∧ rvL l id = withK l ⟨id, kyV l id, true⟩ := by
  obtain ⟨h1, r, h2, h3, h4, h5, h6⟩ := ky_ok h
  refine ⟨⟨?_, with_up h1.2.1 _, with_ks h1.2.1 h1.2.2 fun x hx hne e => ?_⟩, if_pos h⟩
  · have := with_len_old (r := ⟨id, kyV l id, true⟩) h2
    have := h1.1
    omega
  · have : x = r := ks_one h1.2.2 hx h3 (e.trans h6)
    subst this
    exact hne h4

/-! ### Revoked for good -/
def Revd (m : List Rtk) (id : Int) : Prop := RtOk m ∧ ∃ r ∈ m, r.Id = id ∧ r.Gone = true
theorem Revd.key {m : List Rtk} {id : Int} (h : Revd m id) : kyE m id = 13 ∧ rkE m = 0 := by
  obtain ⟨h1, r, h2, rfl, h4⟩ := h
  have := (ky_of h1 h2).1
  rw [if_pos h4] at this
  exact ⟨this, if_pos h1⟩
theorem revd_first {l : List Rtk} {id : Int} (h : kyE l id = 0) : Revd (rvL l id) id := by
  obtain ⟨h1, h2⟩ := rv_ok h
  rw [h2]
  exact ⟨h1, _, with_mem.2 (.inr rfl), rfl, rfl⟩
theorem Revd.with {m : List Rtk} {id : Int} (h : Revd m id) {r : Rtk} (hr : r.Id ≠ id) (hok : RtOk (withK m r)) : Revd (withK m r) id := by
  obtain ⟨h1, x, h2, h3, h4⟩ := h
  exact ⟨hok, x, with_mem.2 (.inl ⟨h2, by rw [h3]; exact fun e => hr e.symm⟩), h3, h4⟩
theorem Revd.ad {m : List Rtk} {id : Int} (h : Revd m id) {i k : Int} (hE : adE m i k = 0) : Revd (adL m i k) id ∧ i ≠ id := by
  obtain ⟨h1, h2, h3, h4, h5, h6⟩ := ad_ok hE
  have hne : i ≠ id := fun e => by
    obtain ⟨_, x, q1, q2, _⟩ := h
    exact rootF_none h2 x q1 (q2.trans e.symm)
  rw [h6]
  exact ⟨h.with hne h5, hne⟩
theorem Revd.tn {m : List Rtk} {id : Int} (h : Revd m id) {i k : Int} (hE : tnE m i k = 0) : Revd (tnL m i k) id ∧ i ≠ id := by
  obtain ⟨h1, h2, h5, h6⟩ := tn_ok hE
  have hne : i ≠ id := fun e => by
    subst e
    have := h.key.1
    omega
  rw [h6]
  exact ⟨h.with hne h5, hne⟩
theorem Revd.rv {m : List Rtk} {id : Int} (h : Revd m id) {i : Int} (hE : kyE m i = 0) : Revd (rvL m i) id ∧ i ≠ id := by
  obtain ⟨h5, h6⟩ := rv_ok hE
  have hne : i ≠ id := fun e => by
    subst e
    have := h.key.1
    omega
  rw [h6]
  exact ⟨h.with hne h5, hne⟩

/-! ### Each by itself -/
theorem ky_not {l : List Rtk} (h : RtOk l) {id : Int} (hn : ∀ r ∈ l, r.Id ≠ id) : kyE l id = 5 ∧ kyV l id = 0 := by
  have hf : rootF l id = none := List.find?_eq_none.2 fun r hr => by have := hn r hr; simpa using this
  have e : kyE l id = 5 := by unfold kyE; rw [if_pos h, hf]
  exact ⟨e, by unfold kyV; rw [e]; rfl⟩
theorem ky_with {l : List Rtk} (h : RtOk l) {r : Rtk} (hok : RtOk (withK l r)) {other : Int} (hne : other ≠ r.Id) : kyE (withK l r) other = kyE l other ∧ kyV (withK l r) other = kyV l other := by
  by_cases q : ∃ x ∈ l, x.Id = other
  · obtain ⟨x, hx, rfl⟩ := q
    obtain ⟨a1, a2⟩ := ky_of h hx
    obtain ⟨b1, b2⟩ := ky_of hok (with_mem.2 (.inl ⟨hx, hne⟩))
    rw [a1, a2, b1, b2]
    exact ⟨rfl, rfl⟩
  · have q' : ∀ r ∈ l, r.Id ≠ other := fun y hy e => q ⟨y, hy, e⟩
    obtain ⟨a1, a2⟩ := ky_not h q'
    obtain ⟨b1, b2⟩ := ky_not hok (id := other) fun y hy e => by
      rcases with_mem.1 hy with ⟨k1, _⟩ | rfl
      · exact q' y k1 e
      · exact hne e.symm
    rw [a1, a2, b1, b2]
    exact ⟨rfl, rfl⟩
theorem apart_laws {l : List Rtk} {id key : Int} (h : tnE l id key = 0) (other : Int) : kyE l id = 0 ∧ (other ≠ id → kyE (tnL l id key) other = kyE l other ∧ kyV (tnL l id key) other = kyV l other) ∧
    (kyE (tnL l id key) id = 0 ∧ kyV (tnL l id key) id = key) ∧ tnE (tnL l id key) id key = 6 ∧ tnE (tnL l id key) id (kyV l id) = 0 ∧ tnL (tnL l id key) id (kyV l id) = l := by
  obtain ⟨h1, h2, h3, h4⟩ := tn_ok h
  obtain ⟨k1, r, k2, k3, k4, k5, k6⟩ := ky_ok h1
  rw [h4]
  have hm : (⟨id, key, false⟩ : Rtk) ∈ withK l ⟨id, key, false⟩ := with_mem.2 (.inr rfl)
  have hky := ky_of h3 hm
  simp only [Bool.false_eq_true, if_false] at hky
  have hold : hasK (withK l ⟨id, key, false⟩) (kyV l id) = false := by
    rw [Bool.eq_false_iff]
    intro q
    obtain ⟨x, q1, q2⟩ := hasK_iff.1 q
    rcases with_mem.1 q1 with ⟨p1, p2⟩ | rfl
    · exact p2 (by rw [ks_one k1.2.2 p1 k3 (q2.trans k6)]; exact k4)
    · have : hasK l key = true := hasK_iff.2 ⟨r, k3, by rw [← k6]; exact q2.symm⟩
      rw [h2] at this; cases this
  have e5 : tnE (withK l ⟨id, key, false⟩) id (kyV l id) = 0 := by
    unfold tnE
    rw [if_neg (by rw [hky.1]; decide), if_neg (by rw [hold]; decide)]
  refine ⟨h1, fun hne => ky_with k1 h3 hne, hky, ?_, e5, ?_⟩
  · unfold tnE
    rw [if_neg (by rw [hky.1]; decide), if_pos (hasK_iff.2 ⟨_, hm, rfl⟩)]
  · obtain ⟨-, -, g3, g4⟩ := tn_ok e5
    rw [g4]
    refine up_ext g3.2.1 k1.2.1 fun x => ?_
    rw [with_mem, with_mem]
    constructor
    · rintro (⟨(⟨a1, a2⟩ | rfl), a3⟩ | rfl)
      · exact a1
      · exact absurd rfl a3
      · have : (⟨id, kyV l id, false⟩ : Rtk) = r := by rw [k6]; cases r; simp_all
        rw [this]; exact k3
    · intro hx
      by_cases e : x.Id = id
      · right
        have : x = r := up_one k1.2.1 hx k3 (e.trans k4.symm)
        subst this
        rw [k6]; cases x; simp_all
      · exact .inl ⟨.inl ⟨hx, e⟩, e⟩

/-! ### Another order -/
theorem order_roots {l : List Rtk} {id key other more : Int} (h1 : adE l id key = 0) (h2 : adE l other more = 0) (hl : l.length ≤ 62) :
    adE (adL l id key) other more = adE (adL l other more) id key ∧ adL (adL l id key) other more = adL (adL l other more) id key ∧ (adE (adL l id key) other more = 0 ∨ adE (adL l id key) other more = 6) ∧ (adE (adL l id key) other more = 0 ↔ id ≠ other ∧ key ≠ more) := by
  obtain ⟨a1, a2, a3, a4, a5, a6⟩ := ad_ok h1
  obtain ⟨b1, b2, b3, b4, b5, b6⟩ := ad_ok h2
  have gen : ∀ {i k o m : Int}, rootF l o = none → hasK l m = false → rootF l i = none → RtOk (withK l ⟨i, k, false⟩) → adE (withK l ⟨i, k, false⟩) o m = if i ≠ o ∧ k ≠ m then 0 else 6 := by
    intro i k o m q1 q2 q3 q4
    have hm : (⟨i, k, false⟩ : Rtk) ∈ withK l ⟨i, k, false⟩ := with_mem.2 (.inr rfl)
    unfold adE
    rw [if_pos q4]
    by_cases q : i ≠ o ∧ k ≠ m
    · rw [if_pos q, if_neg, if_neg]
      · rw [with_len_new (r := ⟨i, k, false⟩) q3]; omega
      · have n1 : rootF (withK l ⟨i, k, false⟩) o = none := List.find?_eq_none.2 fun x hx => by
          rcases with_mem.1 hx with ⟨p1, _⟩ | rfl
          · have := rootF_none q1 x p1; simpa using this
          · simpa using q.1
        have n2 : hasK (withK l ⟨i, k, false⟩) m = false := by
          rw [Bool.eq_false_iff]
          intro p
          obtain ⟨x, p1, p2⟩ := hasK_iff.1 p
          rcases with_mem.1 p1 with ⟨p3, _⟩ | rfl
          · have : hasK l m = true := hasK_iff.2 ⟨x, p3, p2⟩
            rw [q2] at this; cases this
          · exact q.2 p2
        rw [n1, n2]
        decide
    · rw [if_neg q, if_pos]
      by_cases e : i = o
      · subst e
        rw [show rootF (withK l ⟨i, k, false⟩) i = some ⟨i, k, false⟩ from rootF_mem q4.2.1 hm]
        rfl
      · have e2 : k = m := by
          by_cases e2 : k = m
          · exact e2
          · exact absurd ⟨e, e2⟩ q
        subst e2
        rw [hasK_iff.2 ⟨_, hm, rfl⟩, Bool.or_true]
  rw [a6, b6]
  have g1 := gen b2 b3 a2 a5
  have g2 := gen a2 a3 b2 b5
  rw [g1, g2]
  have hsw : (other ≠ id ∧ more ≠ key) ↔ (id ≠ other ∧ key ≠ more) := ⟨fun h => ⟨fun e => h.1 e.symm, fun e => h.2 e.symm⟩, fun h => ⟨fun e => h.1 e.symm, fun e => h.2 e.symm⟩⟩
  simp only [hsw]
  by_cases q : id ≠ other ∧ key ≠ more
  · rw [if_pos q]
    refine ⟨trivial, ?_, .inl rfl, by simp [q]⟩
    rw [if_pos q] at g1
    rw [if_pos (hsw.2 q)] at g2
    obtain ⟨-, -, -, -, p1, p2⟩ := ad_ok g1
    obtain ⟨-, -, -, -, p3, p4⟩ := ad_ok g2
    rw [p2, p4]
    refine up_ext p1.2.1 p3.2.1 fun x => ?_
    rw [with_mem, with_mem, with_mem, with_mem]
    constructor
    · rintro (⟨(⟨u1, u2⟩ | rfl), u3⟩ | rfl)
      · exact .inl ⟨.inl ⟨u1, u3⟩, u2⟩
      · exact .inr rfl
      · exact .inl ⟨.inr rfl, fun e => q.1 e.symm⟩
    · rintro (⟨(⟨u1, u2⟩ | rfl), u3⟩ | rfl)
      · exact .inl ⟨.inl ⟨u1, u3⟩, u2⟩
      · exact .inr rfl
      · exact .inl ⟨.inr rfl, q.1⟩
  · rw [if_neg q]
    refine ⟨trivial, ?_, .inr rfl, by simp [q]⟩
    rw [if_neg q] at g1
    rw [if_neg (fun k => q (hsw.1 k))] at g2
    unfold adL
    rw [if_neg (by rw [g1]; decide), if_neg (by rw [g2]; decide)]

/-! ### As many as may be -/
def rtFull (fr : Int) (k : Nat) : List Rtk := (List.range k).map fun (i : Nat) => ⟨fr + i, fr + 2 * i, false⟩
theorem rtFull_len (fr : Int) (k : Nat) : (rtFull fr k).length = k := by simp [rtFull]
theorem rtFull_snoc (fr : Int) (k : Nat) : rtFull fr (k + 1) = rtFull fr k ++ [⟨fr + k, fr + 2 * k, false⟩] := by simp [rtFull, List.range_succ]
theorem rtFull_mem {fr : Int} {k : Nat} {r : Rtk} (h : r ∈ rtFull fr k) : ∃ i : Nat, i < k ∧ r = ⟨fr + i, fr + 2 * i, false⟩ := by
  simp only [rtFull, List.mem_map, List.mem_range] at h
  obtain ⟨i, hi, rfl⟩ := h
  exact ⟨i, hi, rfl⟩
theorem rtFull_ok (fr : Int) {k : Nat} (hk : k ≤ 64) : RtOk (rtFull fr k) := by
  refine ⟨by rw [rtFull_len]; exact hk, ?_, ?_⟩
  · unfold RtUp rtFull
    rw [List.pairwise_map]
    exact List.pairwise_lt_range.imp fun {a b} h => by simp; omega
  · unfold RtKs rtFull
    rw [List.pairwise_map]
    exact List.pairwise_lt_range.imp fun {a b} h => by simp; omega
theorem full_add (fr : Int) {k m : Nat} (hk : k ≤ 64) (hm : k ≤ m) : adE (rtFull fr k) (fr + m) (fr + 2 * m) = (if k = 64 then 7 else 0) := by
  unfold adE
  rw [if_pos (rtFull_ok fr hk), if_neg]
  · rw [rtFull_len]
  · have n1 : rootF (rtFull fr k) (fr + m) = none := List.find?_eq_none.2 fun x hx => by
      obtain ⟨i, hi, rfl⟩ := rtFull_mem hx
      simp; omega
    have n2 : hasK (rtFull fr k) (fr + 2 * m) = false := by
      rw [Bool.eq_false_iff]
      intro p
      obtain ⟨x, p1, p2⟩ := hasK_iff.1 p
      obtain ⟨i, hi, rfl⟩ := rtFull_mem p1
      simp at p2; omega
    rw [n1, n2]
    decide
theorem full_next (fr : Int) {k : Nat} (hk : k < 64) : adL (rtFull fr k) (fr + k) (fr + 2 * k) = rtFull fr (k + 1) := by
  have hE : adE (rtFull fr k) (fr + k) (fr + 2 * k) = 0 := by rw [full_add fr (by omega) (Nat.le_refl _), if_neg (by omega)]
  obtain ⟨-, -, -, -, p1, p2⟩ := ad_ok hE
  rw [p2]
  refine up_ext p1.2.1 (rtFull_ok fr (by omega)).2.1 fun x => ?_
  rw [with_mem, rtFull_snoc, List.mem_append, List.mem_singleton]
  constructor
  · rintro (⟨h, _⟩ | h)
    · exact .inl h
    · exact .inr h
  · rintro (h | h)
    · obtain ⟨i, hi, e⟩ := rtFull_mem h
      refine .inl ⟨h, ?_⟩
      rw [e]
      show fr + (i : Int) ≠ fr + (k : Int)
      omega
    · exact .inr h
end Go.Proofs.Ytlenoiaepanejaa
