/-
  Channels together, plain: which may be, which one has a hold, what is opened, closed, pushed, held, and ended.
-/
import Derived.Test.YtpkfejfdbjoehaaChannelLaws
namespace Go.Proofs.Ytpkfejfdbjoehaa
open Go.RowKit Go.WalkArith

def LUp (l : List Chn) : Prop := l.Pairwise fun a b => a.Id < b.Id
/-- No hold's number is in two of them. -/
def HApart (l : List Chn) : Prop := l.Pairwise fun a b => ∀ h ∈ a.Holds, ∀ g ∈ b.Holds, h.Id ≠ g.Id
noncomputable def sumC (l : List Chn) : Int := sumM (l.map aaV)
def LgOk (l : List Chn) : Prop := l.length ≤ 32 ∧ (∀ c ∈ l, ChOk c) ∧ LUp l ∧ HApart l ∧ sumC l ≤ mMax
noncomputable instance (l : List Chn) : Decidable (LgOk l) := Classical.propDecidable _
noncomputable def lgE (l : List Chn) : Int := if LgOk l then 0 else 1
def chanF (l : List Chn) (id : Int) : Option Chn := l.find? fun r => r.Id == id
def whereF (l : List Chn) (hold : Int) : Option Chn := l.find? fun c => (holdF c.Holds hold).isSome
def withC (l : List Chn) (r : Chn) : List Chn := (l.filter fun x => decide (x.Id < r.Id)) ++ [r] ++ l.filter fun x => decide (r.Id < x.Id)
noncomputable def gtE (l : List Chn) (id : Int) : Int := if LgOk l then (match chanF l id with | none => 5 | some _ => 0) else 1
noncomputable def gtC (l : List Chn) (id : Int) : Chn := if LgOk l then (match chanF l id with | none => zeroCh | some c => c) else zeroCh
noncomputable def whE (l : List Chn) (hold : Int) : Int := if LgOk l then (match whereF l hold with | none => 5 | some _ => 0) else 1
noncomputable def whV (l : List Chn) (hold : Int) : Int := if LgOk l then (match whereF l hold with | none => 0 | some c => c.Id) else 0
def ourS (l : List Chn) : Int := sumM (l.map fun c => if c.Open = true then c.Local else 0)
def heldS (l : List Chn) : Int := sumM (l.map heldN)
noncomputable def oursN (l : List Chn) : Int := if LgOk l then ourS l else 0
noncomputable def oursH (l : List Chn) : Int := if LgOk l then heldS l else 0
/-- Open: its error, and the channels. -/
noncomputable def opE (l : List Chn) (c : Chn) : Int :=
  if LgOk l ∧ ChOk c ∧ c.Open = true ∧ c.Holds = [] then (if (chanF l c.Id).isSome = true then 6 else if l.length = 32 then 7 else if mMax < sumC (withC l c) then 8 else 0) else 1
noncomputable def opL (l : List Chn) (c : Chn) : List Chn := if opE l c = 0 then withC l c else []
/-- The error of what is done with a channel: its own, or what is done with it. -/
noncomputable def oneE (l : List Chn) (id : Int) (e : Chn → Int) : Int := if gtE l id ≠ 0 then gtE l id else e (gtC l id)
noncomputable def oneL (l : List Chn) (id : Int) (e : Chn → Int) (d : Chn → Chn) : List Chn := if oneE l id e = 0 then withC l (d (gtC l id)) else []
noncomputable def lclE (l : List Chn) (id : Int) : Int := oneE l id clE
noncomputable def lclL (l : List Chn) (id : Int) : List Chn := oneL l id clE clC
noncomputable def lpuE (l : List Chn) (id n : Int) : Int := oneE l id fun c => puE c n
noncomputable def lpuL (l : List Chn) (id n : Int) : List Chn := oneL l id (fun c => puE c n) fun c => puC c n
noncomputable def lhE (l : List Chn) (hold n : Int) (c : Chn) : Int := if (whereF l hold).isSome = true then 6 else hoE c hold n
noncomputable def lhoE (l : List Chn) (id hold n : Int) : Int := oneE l id (lhE l hold n)
noncomputable def lhoL (l : List Chn) (id hold n : Int) : List Chn := oneL l id (lhE l hold n) fun c => hoC c hold n
noncomputable def enL (l : List Chn) (hold : Int) (paid : Bool) : List Chn := if whE l hold = 0 then withC l (enC (gtC l (whV l hold)) hold paid) else []
noncomputable def enN (l : List Chn) (hold : Int) : Int := if whE l hold = 0 then wtN (gtC l (whV l hold)) hold else 0

theorem chanF_some {l : List Chn} {id : Int} {r : Chn} (h : chanF l id = some r) : r ∈ l ∧ r.Id = id := by
  have h1 := List.mem_of_find?_eq_some h
  have h2 := List.find?_some h
  exact ⟨h1, by simpa using h2⟩
theorem chanF_none {l : List Chn} {id : Int} (h : chanF l id = none) : ∀ r ∈ l, r.Id ≠ id := fun r hr => by
  have := List.find?_eq_none.1 h r hr
  simpa using this
theorem cup_one {l : List Chn} (h : LUp l) {a b : Chn} (ha : a ∈ l) (hb : b ∈ l) (e : a.Id = b.Id) : a = b := by
  obtain ⟨i, hi, rfl⟩ := List.getElem_of_mem ha
  obtain ⟨j, hj, rfl⟩ := List.getElem_of_mem hb
  rcases Nat.lt_trichotomy i j with q | q | q
  · have := List.pairwise_iff_getElem.1 h i j hi hj q; omega
  · subst q; rfl
  · have := List.pairwise_iff_getElem.1 h j i hj hi q; omega
theorem chanF_mem {l : List Chn} (h : LUp l) {r : Chn} (hr : r ∈ l) : chanF l r.Id = some r := by
  cases hf : chanF l r.Id with
  | none => exact absurd rfl (chanF_none hf r hr)
  | some x =>
    obtain ⟨h1, h2⟩ := chanF_some hf
    rw [cup_one h h1 hr h2]
/-- Rows that rise are the same if the same are in them. -/
theorem cup_ext : ∀ {a b : List Chn}, LUp a → LUp b → (∀ x, x ∈ a ↔ x ∈ b) → a = b
  | [], [], _, _, _ => rfl
  | [], y :: b, _, _, h => by have := (h y).2 (by simp); simp at this
  | x :: a, [], _, _, h => by have := (h x).1 (by simp); simp at this
  | x :: a, y :: b, ha, hb, h => by
    have ha' := List.pairwise_cons.1 ha
    have hb' := List.pairwise_cons.1 hb
    have e : x = y := by
      rcases List.mem_cons.1 ((h x).1 (by simp)) with e | h1
      · exact e
      · rcases List.mem_cons.1 ((h y).2 (by simp)) with e | h2
        · exact e.symm
        · have := hb'.1 x h1
          have := ha'.1 y h2
          omega
    subst e
    rw [cup_ext ha'.2 hb'.2 fun z => by
      constructor
      · intro hz
        rcases List.mem_cons.1 ((h z).1 (by simp [hz])) with e | k
        · subst e; have := ha'.1 z hz; omega
        · exact k
      · intro hz
        rcases List.mem_cons.1 ((h z).2 (by simp [hz])) with e | k
        · subst e; have := hb'.1 z hz; omega
        · exact k]
theorem cwith_mem {l : List Chn} {r x : Chn} : x ∈ withC l r ↔ (x ∈ l ∧ x.Id ≠ r.Id) ∨ x = r := by
  unfold withC
  simp only [List.mem_append, List.mem_filter, List.mem_singleton, decide_eq_true_eq]
  constructor
  · rintro ((⟨h1, h2⟩ | h) | ⟨h1, h2⟩)
    · exact .inl ⟨h1, by omega⟩
    · exact .inr h
    · exact .inl ⟨h1, by omega⟩
  · rintro (⟨h1, h2⟩ | h)
    · rcases Int.lt_or_gt_of_ne h2 with q | q
      · exact .inl (.inl ⟨h1, q⟩)
      · exact .inr ⟨h1, q⟩
    · exact .inl (.inr h)
theorem cwith_up {l : List Chn} (h : LUp l) (r : Chn) : LUp (withC l r) := by
  unfold withC LUp
  rw [List.pairwise_append, List.pairwise_append]
  refine ⟨⟨h.filter _, List.pairwise_singleton _ _, fun a ha b hb => ?_⟩, h.filter _, fun a ha b hb => ?_⟩
  · simp only [List.mem_filter, decide_eq_true_eq] at ha
    simp only [List.mem_singleton] at hb
    subst hb; exact ha.2
  · simp only [List.mem_append, List.mem_filter, List.mem_singleton, decide_eq_true_eq] at ha hb
    rcases ha with ⟨_, ha⟩ | rfl
    · omega
    · exact hb.2
theorem cfilters_len (l : List Chn) (k : Int) : (l.filter fun x => decide (x.Id < k)).length + (l.filter fun x => decide (k < x.Id)).length + (l.filter fun x => x.Id == k).length = l.length := by
  induction l with
  | nil => rfl
  | cons x l ih =>
    simp only [List.filter_cons, List.length_cons]
    rcases Int.lt_trichotomy x.Id k with q | q | q
    · rw [if_pos (by simpa using q), if_neg (by simp; omega), if_neg (by simp; omega)]
      simp only [List.length_cons]; omega
    · rw [if_neg (by simp; omega), if_neg (by simp; omega), if_pos (by simpa using q)]
      simp only [List.length_cons]; omega
    · rw [if_neg (by simp; omega), if_pos (by simpa using q), if_neg (by simp; omega)]
      simp only [List.length_cons]; omega
theorem cwith_len (l : List Chn) (r : Chn) : (withC l r).length + (l.filter fun x => x.Id == r.Id).length = l.length + 1 := by
  have := cfilters_len l r.Id
  unfold withC
  simp only [List.length_append, List.length_singleton]
  omega
theorem cwith_len_new {l : List Chn} {r : Chn} (h : chanF l r.Id = none) : (withC l r).length = l.length + 1 := by
  have h1 := cwith_len l r
  have : (l.filter fun x => x.Id == r.Id) = [] := List.filter_eq_nil_iff.2 fun x hx => by have := chanF_none h x hx; simpa using this
  rw [this] at h1
  simpa using h1
theorem cwith_len_old {l : List Chn} {r x : Chn} (h : chanF l r.Id = some x) : (withC l r).length ≤ l.length := by
  have h1 := cwith_len l r
  obtain ⟨h2, h3⟩ := chanF_some h
  have : 0 < (l.filter fun x => x.Id == r.Id).length := List.length_pos_of_mem (List.mem_filter.2 ⟨h2, by simpa using h3⟩)
  omega

/-! ### Sums -/
theorem csum_parts (f : Chn → Int) (l : List Chn) (k : Int) : sumM ((l.filter fun x => decide (x.Id < k)).map f) + sumM ((l.filter fun x => decide (k < x.Id)).map f) + sumM ((l.filter fun x => x.Id == k).map f) = sumM (l.map f) := by
  induction l with
  | nil => rfl
  | cons x l ih =>
    simp only [List.filter_cons, List.map_cons, sumM] at ih ⊢
    rcases Int.lt_trichotomy x.Id k with q | q | q
    · rw [if_pos (by simpa using q), if_neg (by simp; omega), if_neg (by simp; omega)]
      simp only [List.map_cons, sumM]; omega
    · rw [if_neg (by simp; omega), if_neg (by simp; omega), if_pos (by simpa using q)]
      simp only [List.map_cons, sumM]; omega
    · rw [if_neg (by simp; omega), if_pos (by simpa using q), if_neg (by simp; omega)]
      simp only [List.map_cons, sumM]; omega
theorem conly_none {l : List Chn} {id : Int} (h : chanF l id = none) : (l.filter fun x => x.Id == id) = [] := List.filter_eq_nil_iff.2 fun x hx => by have := chanF_none h x hx; simpa using this
theorem conly_one {l : List Chn} (hu : LUp l) {id : Int} {r : Chn} (h : chanF l id = some r) : (l.filter fun x => x.Id == id) = [r] := by
  obtain ⟨h1, h2⟩ := chanF_some h
  refine cup_ext (hu.filter _) (List.pairwise_singleton _ _) fun x => ?_
  rw [List.mem_filter, List.mem_singleton]
  constructor
  · rintro ⟨k1, k2⟩
    exact cup_one hu k1 h1 (by rw [h2]; simpa using k2)
  · rintro rfl
    exact ⟨h1, by simpa using h2⟩
theorem csum_new (f : Chn → Int) {l : List Chn} {r : Chn} (h : chanF l r.Id = none) : sumM ((withC l r).map f) = sumM (l.map f) + f r := by
  have h1 := csum_parts f l r.Id
  rw [conly_none h] at h1
  unfold withC
  simp only [List.map_append, sumM_append, List.map_cons, List.map_nil, sumM] at h1 ⊢
  omega
theorem csum_old (f : Chn → Int) {l : List Chn} (hu : LUp l) {r c : Chn} (h : chanF l r.Id = some c) : sumM ((withC l r).map f) = sumM (l.map f) - f c + f r := by
  have h1 := csum_parts f l r.Id
  rw [conly_one hu h] at h1
  unfold withC
  simp only [List.map_append, sumM_append, List.map_cons, List.map_nil, sumM] at h1 ⊢
  omega
theorem clen_old {l : List Chn} (hu : LUp l) {r c : Chn} (h : chanF l r.Id = some c) : (withC l r).length = l.length := by
  have h1 := cwith_len l r
  rw [conly_one hu h] at h1
  simpa using h1

theorem whereF_some {l : List Chn} {hold : Int} {c : Chn} (h : whereF l hold = some c) : c ∈ l ∧ (holdF c.Holds hold).isSome = true := ⟨List.mem_of_find?_eq_some h, List.find?_some (p := fun c : Chn => (holdF c.Holds hold).isSome) h⟩
theorem whereF_none {l : List Chn} {hold : Int} (h : whereF l hold = none) : ∀ c ∈ l, holdF c.Holds hold = none := fun c hc => by
  have := List.find?_eq_none.1 h c hc
  cases hf : holdF c.Holds hold with
  | none => rfl
  | some x => rw [hf] at this; exact absurd rfl this
theorem holdF_is {l : List Hld} {id : Int} : (holdF l id).isSome = true ↔ ∃ x ∈ l, x.Id = id := by
  constructor
  · intro h
    obtain ⟨x, hx⟩ := Option.isSome_iff_exists.1 h
    obtain ⟨h1, h2⟩ := holdF_some hx
    exact ⟨x, h1, h2⟩
  · rintro ⟨x, h1, h2⟩
    cases hf : holdF l id with
    | none => exact absurd h2 (holdF_none hf x h1)
    | some _ => rfl
/-- Each hold is in one of them. -/
theorem whereF_one {l : List Chn} (ha : HApart l) {c d : Chn} (hc : c ∈ l) (hd : d ∈ l) {hold : Int} (h1 : (holdF c.Holds hold).isSome = true) (h2 : (holdF d.Holds hold).isSome = true) : c = d := by
  obtain ⟨x, x1, x2⟩ := holdF_is.1 h1
  obtain ⟨y, y1, y2⟩ := holdF_is.1 h2
  obtain ⟨i, hi, rfl⟩ := List.getElem_of_mem hc
  obtain ⟨j, hj, rfl⟩ := List.getElem_of_mem hd
  rcases Nat.lt_trichotomy i j with q | q | q
  · exact absurd (x2.trans y2.symm) (List.pairwise_iff_getElem.1 ha i j hi hj q x x1 y y1)
  · subst q; rfl
  · exact absurd (y2.trans x2.symm) (List.pairwise_iff_getElem.1 ha j i hj hi q y y1 x x1)
theorem apart_of {l : List Chn} (hu : LUp l) (h : ∀ a ∈ l, ∀ b ∈ l, a.Id ≠ b.Id → ∀ x ∈ a.Holds, ∀ y ∈ b.Holds, x.Id ≠ y.Id) : HApart l :=
  hu.imp_of_mem fun {a b} ha hb hlt => h a ha b hb (by omega)
theorem apart_to {l : List Chn} (ha : HApart l) {a b : Chn} (h1 : a ∈ l) (h2 : b ∈ l) (hne : a.Id ≠ b.Id) : ∀ x ∈ a.Holds, ∀ y ∈ b.Holds, x.Id ≠ y.Id := fun x hx y hy e => by
  have : a = b := whereF_one ha h1 h2 (hold := x.Id) (holdF_is.2 ⟨x, hx, rfl⟩) (holdF_is.2 ⟨y, hy, e.symm⟩)
  exact hne (by rw [this])
/-- One of them has become another one. -/
theorem with_ok {l : List Chn} (h : LgOk l) {c d : Chn} (hc : chanF l d.Id = some c) (hd : ChOk d) (hall : aaV d = aaV c) (hh : ∀ x ∈ l, x.Id ≠ d.Id → ∀ g ∈ x.Holds, ∀ y ∈ d.Holds, g.Id ≠ y.Id) :
    LgOk (withC l d) ∧ sumC (withC l d) = sumC l ∧ (withC l d).length = l.length := by
  obtain ⟨h1, h2, h3, h4, h5⟩ := h
  have hs : sumC (withC l d) = sumC l := by
    unfold sumC
    rw [csum_old aaV h3 hc, hall]
    omega
  have hl := clen_old h3 hc
  have hu := cwith_up h3 d
  refine ⟨⟨by omega, fun x hx => ?_, hu, apart_of hu fun a ha b hb hne x hx y hy => ?_, by rw [hs]; exact h5⟩, hs, hl⟩
  · rcases cwith_mem.1 hx with ⟨k, -⟩ | rfl
    · exact h2 x k
    · exact hd
  · rcases cwith_mem.1 ha with ⟨k1, k2⟩ | rfl
    · rcases cwith_mem.1 hb with ⟨k3, k4⟩ | rfl
      · exact apart_to h4 k1 k3 hne x hx y hy
      · exact hh a k1 k2 x hx y hy
    · rcases cwith_mem.1 hb with ⟨k3, k4⟩ | rfl
      · exact fun e => hh b k3 k4 y hy x hx e.symm
      · exact absurd rfl hne
theorem gt_is {l : List Chn} {id : Int} (h : gtE l id = 0) : LgOk l ∧ chanF l id = some (gtC l id) ∧ gtC l id ∈ l ∧ (gtC l id).Id = id ∧ ChOk (gtC l id) := by
  unfold gtE at h
  by_cases g : LgOk l
  · rw [if_pos g] at h
    cases hf : chanF l id with
    | none => rw [hf] at h; cases h
    | some c =>
      have e : gtC l id = c := by unfold gtC; rw [if_pos g, hf]
      obtain ⟨h1, h2⟩ := chanF_some hf
      rw [e]
      exact ⟨g, rfl, h1, h2, g.2.1 c h1⟩
  · rw [if_neg g] at h; cases h
theorem gt_of {l : List Chn} (g : LgOk l) {c : Chn} (hc : c ∈ l) : gtE l c.Id = 0 ∧ gtC l c.Id = c := by
  have hf := chanF_mem g.2.2.1 hc
  unfold gtE gtC
  rw [if_pos g, if_pos g, hf]
  exact ⟨rfl, rfl⟩
theorem gt_no {l : List Chn} (g : LgOk l) {id : Int} (h : chanF l id = none) : gtE l id = 5 ∧ gtC l id = zeroCh := by
  unfold gtE gtC
  rw [if_pos g, if_pos g, h]
  exact ⟨rfl, rfl⟩
theorem one_is {l : List Chn} {id : Int} {e : Chn → Int} {d : Chn → Chn} (h : oneE l id e = 0) : gtE l id = 0 ∧ e (gtC l id) = 0 ∧ oneL l id e d = withC l (d (gtC l id)) := by
  have hL : oneL l id e d = withC l (d (gtC l id)) := if_pos h
  unfold oneE at h
  by_cases g : gtE l id = 0
  · rw [if_neg (fun k => k g)] at h
    exact ⟨g, h, hL⟩
  · rw [if_pos g] at h; exact absurd h g
theorem one_no {l : List Chn} {id : Int} {e : Chn → Int} {d : Chn → Chn} (h : oneE l id e ≠ 0) : oneL l id e d = [] := if_neg h
def ChnsWf (l : List Chn) : Prop := ∀ c ∈ l, ChnWf c ∧ HldsWf c.Holds
/-- Where a hold is, its channel is found by its number. -/
theorem wh_is {l : List Chn} {hold : Int} (h : whE l hold = 0) : LgOk l ∧ ∃ c, c ∈ l ∧ whereF l hold = some c ∧ whV l hold = c.Id ∧ gtC l (whV l hold) = c ∧ wtE c hold = 0 := by
  unfold whE at h
  by_cases g : LgOk l
  · rw [if_pos g] at h
    cases hf : whereF l hold with
    | none => rw [hf] at h; cases h
    | some c =>
      obtain ⟨h1, h2⟩ := whereF_some hf
      have hv : whV l hold = c.Id := by unfold whV; rw [if_pos g, hf]
      obtain ⟨x, hx⟩ := Option.isSome_iff_exists.1 h2
      exact ⟨g, c, h1, rfl, hv, by rw [hv]; exact (gt_of g h1).2, (wt_of (g.2.1 c h1) hx).1⟩
  · rw [if_neg g] at h; cases h
theorem wh_of {l : List Chn} (g : LgOk l) {c : Chn} (hc : c ∈ l) {hold : Int} (h : (holdF c.Holds hold).isSome = true) : whE l hold = 0 ∧ whV l hold = c.Id := by
  have hf : whereF l hold = some c := by
    cases hf : whereF l hold with
    | none => have := whereF_none hf c hc; rw [this] at h; cases h
    | some d =>
      obtain ⟨h1, h2⟩ := whereF_some hf
      rw [whereF_one g.2.2.2.1 h1 hc h2 h]
  unfold whE whV
  rw [if_pos g, if_pos g, hf]
  exact ⟨rfl, rfl⟩
theorem wh_none {l : List Chn} (g : LgOk l) {hold : Int} (h : ∀ c ∈ l, holdF c.Holds hold = none) : whE l hold = 5 ∧ whV l hold = 0 := by
  have hf : whereF l hold = none := List.find?_eq_none.2 fun c hc => by rw [h c hc]; decide
  unfold whE whV
  rw [if_pos g, if_pos g, hf]
  exact ⟨rfl, rfl⟩
/-- What is held. -/
theorem lho_ok {l : List Chn} {id hold n : Int} (hw : ChnsWf l) (hn : 0 ≤ n) (h : lhoE l id hold n = 0) :
    LgOk l ∧ gtE l id = 0 ∧ whereF l hold = none ∧ hoE (gtC l id) hold n = 0 ∧ lhoL l id hold n = withC l (hoC (gtC l id) hold n) ∧ (hoC (gtC l id) hold n).Id = id ∧ LgOk (lhoL l id hold n) ∧ sumC (lhoL l id hold n) = sumC l ∧ (lhoL l id hold n).length = l.length ∧ whE (lhoL l id hold n) hold = 0 ∧ whV (lhoL l id hold n) hold = id := by
  obtain ⟨h1, h2, h3⟩ := one_is (d := fun c => hoC c hold n) h
  obtain ⟨g, hf, hm, hi, ok⟩ := gt_is h1
  have hL : lhoL l id hold n = withC l (hoC (gtC l id) hold n) := h3
  unfold lhE at h2
  by_cases q : (whereF l hold).isSome = true
  · rw [if_pos q] at h2; cases h2
  rw [if_neg q] at h2
  have hwn : whereF l hold = none := by
    cases e : whereF l hold with
    | none => rfl
    | some x => rw [e] at q; exact absurd rfl q
  obtain ⟨o1, -, o3, -⟩ := ho_ch (hw _ hm).1 h2 hn
  obtain ⟨-, -, -, -, -, -, -, -, -, e10⟩ := ho_is h2
  have hid : (hoC (gtC l id) hold n).Id = id := by rw [e10]; exact hi
  have key := with_ok g (d := hoC (gtC l id) hold n) (c := gtC l id) (by rw [hid]; exact hf) o1 o3 (fun x hx hne y hy z hz e => by
    rw [hid] at hne
    rw [e10] at hz
    rcases hwith_mem.1 hz with ⟨k1, -⟩ | rfl
    · exact apart_to g.2.2.2.1 hx hm (by rw [hi]; exact hne) y hy z k1 e
    · have := whereF_none hwn x hx
      exact holdF_none this y hy e)
  rw [← hL] at key
  obtain ⟨k1, k2, k3⟩ := key
  have hin : hoC (gtC l id) hold n ∈ lhoL l id hold n := by rw [hL]; exact cwith_mem.2 (.inr rfl)
  obtain ⟨w1, w2⟩ := wh_of k1 hin (hold := hold) (by rw [e10]; exact holdF_is.2 ⟨⟨hold, n⟩, hwith_mem.2 (.inr rfl), rfl⟩)
  exact ⟨g, h1, hwn, h2, hL, hid, k1, k2, k3, w1, by rw [w2, hid]⟩
/-- What is ended. -/
theorem en_ok {l : List Chn} {hold : Int} {paid : Bool} (hw : ChnsWf l) (h : whE l hold = 0) :
    LgOk (enL l hold paid) ∧ sumC (enL l hold paid) = sumC l ∧ (enL l hold paid).length = l.length ∧ whE (enL l hold paid) hold = 5 := by
  obtain ⟨g, c, hc, hf, hv, hg, he⟩ := wh_is h
  have hL : enL l hold paid = withC l (enC c hold paid) := by unfold enL; rw [if_pos h, hg]
  obtain ⟨e1, e2, -⟩ := en_is (yes := paid) (hw c hc).1 (hw c hc).2 he
  have ea : aaV (enC c hold paid) = aaV c := by
    unfold enC
    cases paid
    · exact (fa_is (hw c hc).1 (hw c hc).2 he).2.2.1
    · exact (se_is (hw c hc).1 (hw c hc).2 he).2.2.1
  have hid : (enC c hold paid).Id = c.Id := by rw [e1]
  have hho : (enC c hold paid).Holds = lessH c.Holds hold := by rw [e1]
  have key := with_ok g (d := enC c hold paid) (c := c) (by rw [hid]; exact chanF_mem g.2.2.1 hc) e2 ea (fun x hx hne y hy z hz => by
    rw [hid] at hne
    rw [hho] at hz
    exact apart_to g.2.2.2.1 hx hc hne y hy z (less_mem.1 hz).1)
  rw [← hL] at key
  obtain ⟨k1, k2, k3⟩ := key
  refine ⟨k1, k2, k3, (wh_none k1 fun x hx => ?_).1⟩
  rw [hL] at hx
  rcases cwith_mem.1 hx with ⟨q1, q2⟩ | rfl
  · cases hq : holdF x.Holds hold with
    | none => rfl
    | some y =>
      have : x = c := whereF_one g.2.2.2.1 q1 hc (hold := hold) (by rw [hq]; rfl) (whereF_some hf).2
      exact absurd (by rw [this, hid]) q2
  · rw [hho]; exact less_none
theorem lpu_ok {l : List Chn} {id n : Int} (hw : ChnsWf l) (hn : 0 ≤ n) (h : lpuE l id n = 0) : LgOk (lpuL l id n) ∧ sumC (lpuL l id n) = sumC l ∧ (lpuL l id n).length = l.length := by
  obtain ⟨h1, h2, h3⟩ := one_is (d := fun c => puC c n) h
  obtain ⟨g, hf, hm, hi, ok⟩ := gt_is h1
  have hL : lpuL l id n = withC l (puC (gtC l id) n) := h3
  obtain ⟨-, -, -, e4, e5, e6, -⟩ := pu_is (hw _ hm).1 (hw _ hm).2 hn h2
  rw [hL]
  refine with_ok g (c := gtC l id) (by rw [e4]; rw [hi]; exact hf) e5 e6 fun x hx hne y hy z hz => ?_
  rw [e4] at hne hz
  exact apart_to g.2.2.2.1 hx hm hne y hy z hz
theorem lcl_ok {l : List Chn} {id : Int} (h : lclE l id = 0) : LgOk (lclL l id) ∧ sumC (lclL l id) = sumC l ∧ (lclL l id).length = l.length := by
  obtain ⟨h1, h2, h3⟩ := one_is (d := clC) h
  obtain ⟨g, hf, hm, hi, ok⟩ := gt_is h1
  have hL : lclL l id = withC l (clC (gtC l id)) := h3
  obtain ⟨-, -, e3, e4, e5⟩ := cl_is h2
  rw [hL]
  refine with_ok g (c := gtC l id) (by rw [e4]; rw [hi]; exact hf) e5 ?_ fun x hx hne y hy z hz => ?_
  · unfold aaV
    rw [if_pos e5, if_pos ok, e4]
    rfl
  · rw [e4] at hz
    have hz' : z ∈ (gtC l id).Holds := hz
    rw [e3] at hz'
    simp at hz'
end Go.Proofs.Ytpkfejfdbjoehaa
