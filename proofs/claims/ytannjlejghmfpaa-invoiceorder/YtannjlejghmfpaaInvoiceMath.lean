/-
  Invoices, plain: which may be, what one is, made, cancelled, paid, swept; what follows.
-/
import Derived.Test.YtannjlejghmfpaaKeyed
import Derived.Test.YtannjlejghmfpaaApi2
import Derived.Test.YtannjlejghmfpaaMoneyMath
namespace Go.Proofs.Ytannjlejghmfpaa
open Go.RowKit Go.WalkArith

def InvMay (x : Inv) : Prop := x.N ≠ 0 ∧ x.N ≤ mMax ∧ 1 ≤ x.State ∧ x.State ≤ 3
instance (x : Inv) : Decidable (InvMay x) := inferInstanceAs (Decidable (_ ∧ _ ∧ _ ∧ _))
def InOk (l : List Inv) : Prop := l.length ≤ 256 ∧ UpF Inv.Hash l ∧ ∀ x ∈ l, InvMay x
instance (l : List Inv) : Decidable (UpF Inv.Hash l) := inferInstanceAs (Decidable (List.Pairwise _ _))
instance (l : List Inv) : Decidable (InOk l) := inferInstanceAs (Decidable (_ ∧ _ ∧ _))
def inE (l : List Inv) : Int := if InOk l then 0 else 1
def lateI (x : Inv) (t : Int) : Bool := x.State == 1 && decide (x.Till < t)
def invF (l : List Inv) (h : Int) : Option Inv := fndF Inv.Hash l h
def withI (l : List Inv) (x : Inv) : List Inv := wthF Inv.Hash l x
def stateI (x : Inv) (t : Int) : Int := if lateI x t = true then 4 else x.State
def stE (l : List Inv) (h : Int) : Int := if InOk l then (match invF l h with | none => 5 | some _ => 0) else 1
def stV (l : List Inv) (h t : Int) : Int := if InOk l then (match invF l h with | none => 0 | some x => stateI x t) else 0
def crE (l : List Inv) (h n : Int) : Int := if InOk l ∧ n ≠ 0 ∧ n ≤ mMax then (if (invF l h).isSome = true then 6 else if l.length = 256 then 7 else 0) else 1
def crL (l : List Inv) (h n t : Int) : List Inv := if crE l h n = 0 then withI l ⟨h, n, t, 1⟩ else []
/-- Why one can not be cancelled, nor paid. -/
def onE (l : List Inv) (h t : Int) : Int := if stE l h ≠ 0 then stE l h else if stV l h t = 4 then 13 else if stV l h t ≠ 1 then 10 else 0
def onI (l : List Inv) (h t : Int) : Inv := if onE l h t = 0 then (invF l h).getD ⟨0, 0, 0, 0⟩ else ⟨0, 0, 0, 0⟩
def cnL (l : List Inv) (h t : Int) : List Inv := if onE l h t = 0 then withI l { onI l h t with State := 3 } else []
def pyE (l : List Inv) (h n t : Int) : Int := if onE l h t ≠ 0 then onE l h t else if n < (onI l h t).N then 9 else 0
def pyL (l : List Inv) (h n t : Int) : List Inv := if pyE l h n t = 0 then withI l { onI l h t with State := 2 } else []
def keepI (t : Int) (x : Inv) : Bool := !lateI x t && x.State != 3
def swL (l : List Inv) (t : Int) : List Inv := if InOk l then l.filter (keepI t) else []

theorem late_iff {x : Inv} {t : Int} : lateI x t = true ↔ x.State = 1 ∧ x.Till < t := by simp [lateI]
theorem on_is {l : List Inv} {h t : Int} (e : onE l h t = 0) : InOk l ∧ ∃ x, invF l h = some x ∧ onI l h t = x ∧ x ∈ l ∧ x.Hash = h ∧ x.State = 1 ∧ t ≤ x.Till ∧ stE l h = 0 ∧ stV l h t = 1 := by
  have e0 := e
  unfold onE at e
  by_cases h1 : stE l h = 0
  · rw [if_neg (by simpa using h1)] at e
    by_cases h2 : stV l h t = 4
    · rw [if_pos h2] at e; cases e
    · rw [if_neg h2] at e
      by_cases h3 : stV l h t = 1
      · have g : InOk l := by
          unfold stE at h1
          split at h1
          · assumption
          · cases h1
        cases hf : invF l h with
        | none => unfold stE at h1; rw [if_pos g, hf] at h1; cases h1
        | some x =>
          have hv := h3
          unfold stV at h3
          rw [if_pos g, hf] at h3
          obtain ⟨m1, m2⟩ := fnd_some hf
          have h3 : stateI x t = 1 := h3
          unfold stateI at h3
          split at h3
          · cases h3
          · rename_i hl
            have : ¬ x.Till < t := fun q => hl (late_iff.2 ⟨h3, q⟩)
            exact ⟨g, x, rfl, by unfold onI; rw [if_pos e0, hf]; rfl, m1, m2, h3, by omega, h1, hv⟩
      · rw [if_pos h3] at e; cases e
  · rw [if_pos h1] at e; exact absurd e h1
theorem on_of {l : List Inv} (g : InOk l) {x : Inv} (hx : x ∈ l) (t : Int) : stE l x.Hash = 0 ∧ stV l x.Hash t = stateI x t ∧ onE l x.Hash t = (if lateI x t = true then 13 else if x.State = 1 then 0 else 10) ∧ (onE l x.Hash t = 0 → onI l x.Hash t = x) := by
  have hf : invF l x.Hash = some x := fnd_mem g.2.1 hx
  have e1 : stE l x.Hash = 0 := by unfold stE; rw [if_pos g, hf]
  have e2 : stV l x.Hash t = stateI x t := by unfold stV; rw [if_pos g, hf]
  have hm := g.2.2 x hx
  have e3 : onE l x.Hash t = (if lateI x t = true then 13 else if x.State = 1 then 0 else 10) := by
    unfold onE
    rw [if_neg (by simpa using e1), e2]
    unfold stateI
    by_cases q : lateI x t = true
    · rw [if_pos q, if_pos rfl, if_pos q]
    · rw [if_neg q, if_neg (by have := hm.2.2.2; omega), if_neg q]
      by_cases r : x.State = 1
      · rw [if_neg (by simpa using r), if_pos r]
      · rw [if_pos r, if_neg r]
  exact ⟨e1, e2, e3, fun h0 => by unfold onI; rw [if_pos h0, hf]; rfl⟩
theorem st_bad {l : List Inv} (g : ¬ InOk l) (h t : Int) : stE l h = 1 ∧ stV l h t = 0 := ⟨if_neg g, if_neg g⟩
theorem st_none {l : List Inv} (g : InOk l) {h : Int} (hf : invF l h = none) (t : Int) : stE l h = 5 ∧ stV l h t = 0 := by
  unfold stE stV
  rw [if_pos g, if_pos g, hf]
  exact ⟨rfl, rfl⟩
theorem in_with {l : List Inv} (g : InOk l) {x : Inv} (hx : InvMay x) (hl : (withI l x).length ≤ 256) : InOk (withI l x) :=
  ⟨hl, wth_up g.2.1 x, fun y hy => by
    rcases wth_mem.1 hy with ⟨h1, -⟩ | rfl
    · exact g.2.2 y h1
    · exact hx⟩
theorem in_old {l : List Inv} (g : InOk l) {x y : Inv} (hy : y ∈ l) (e : x.Hash = y.Hash) (hx : InvMay x) : InOk (withI l x) ∧ (withI l x).length = l.length := by
  have hl : (withI l x).length = l.length := wth_len_old g.2.1 (r := x) (x := y) (by rw [e]; exact fnd_mem g.2.1 hy)
  exact ⟨in_with g hx (by rw [hl]; exact g.1), hl⟩
theorem cr_is {l : List Inv} {h n t : Int} (e : crE l h n = 0) : InOk l ∧ n ≠ 0 ∧ n ≤ mMax ∧ invF l h = none ∧ l.length < 256 ∧ crL l h n t = withI l ⟨h, n, t, 1⟩ ∧ InOk (crL l h n t) ∧ (crL l h n t).length = l.length + 1 := by
  have e0 := e
  unfold crE at e
  split at e
  · rename_i q
    split at e
    · cases e
    · rename_i q2
      split at e
      · cases e
      · rename_i q3
        have hn : invF l h = none := by
          cases hf : invF l h with
          | none => rfl
          | some x => rw [hf] at q2; exact absurd rfl q2
        have hL : crL l h n t = withI l ⟨h, n, t, 1⟩ := if_pos e0
        have hlen : (withI l ⟨h, n, t, 1⟩).length = l.length + 1 := wth_len_new (f := Inv.Hash) (r := ⟨h, n, t, 1⟩) hn
        have h256 := q.1.1
        refine ⟨q.1, q.2.1, q.2.2, hn, by omega, hL, ?_, by rw [hL]; exact hlen⟩
        rw [hL]
        exact in_with q.1 ⟨q.2.1, q.2.2, (by decide : (1 : Int) ≤ 1), (by decide : (1 : Int) ≤ 3)⟩ (by rw [hlen]; omega)
  · cases e
theorem cn_is {l : List Inv} {h t : Int} (e : onE l h t = 0) : ∃ x, x ∈ l ∧ x.Hash = h ∧ InOk l ∧ cnL l h t = withI l { x with State := 3 } ∧ InOk (cnL l h t) := by
  obtain ⟨g, x, h1, h2, h3, h4, -⟩ := on_is e
  have hL : cnL l h t = withI l { x with State := 3 } := by unfold cnL; rw [if_pos e, h2]
  have hm := g.2.2 x h3
  refine ⟨x, h3, h4, g, hL, ?_⟩
  rw [hL]
  exact (in_old g h3 (x := { x with State := 3 }) rfl ⟨hm.1, hm.2.1, (by decide : (1 : Int) ≤ 3), (by decide : (3 : Int) ≤ 3)⟩).1
theorem py_is {l : List Inv} {h n t : Int} (e : pyE l h n t = 0) : onE l h t = 0 ∧ ∃ x, x ∈ l ∧ x.Hash = h ∧ InOk l ∧ x.State = 1 ∧ t ≤ x.Till ∧ x.N ≤ n ∧ pyL l h n t = withI l { x with State := 2 } ∧ InOk (pyL l h n t) := by
  have e0 := e
  unfold pyE at e
  by_cases h1 : onE l h t = 0
  · rw [if_neg (by simpa using h1)] at e
    obtain ⟨g, x, k1, k2, k3, k4, k5, k6, -⟩ := on_is h1
    rw [k2] at e
    have hn : ¬ n < x.N := fun q => by rw [if_pos q] at e; cases e
    have hL : pyL l h n t = withI l { x with State := 2 } := by unfold pyL; rw [if_pos e0, k2]
    have hm := g.2.2 x k3
    refine ⟨h1, x, k3, k4, g, k5, k6, by omega, hL, ?_⟩
    rw [hL]
    exact (in_old g k3 (x := { x with State := 2 }) rfl ⟨hm.1, hm.2.1, (by decide : (1 : Int) ≤ 2), (by decide : (2 : Int) ≤ 3)⟩).1
  · rw [if_pos h1] at e; exact absurd e h1
/-- What one is behind a change of its state. -/
theorem set_state {l : List Inv} (g : InOk l) {x : Inv} (hx : x ∈ l) {s : Int} (h2 : 2 ≤ s) (h3 : s ≤ 3) (t n : Int) : stE (withI l { x with State := s }) x.Hash = 0 ∧ stV (withI l { x with State := s }) x.Hash t = s ∧ onE (withI l { x with State := s }) x.Hash t = 10 ∧ pyE (withI l { x with State := s }) x.Hash n t = 10 := by
  have hm := g.2.2 x hx
  obtain ⟨g2, -⟩ := in_old g hx (x := { x with State := s }) rfl ⟨hm.1, hm.2.1, by show 1 ≤ s; omega, h3⟩
  obtain ⟨e1, e2, e3, -⟩ := on_of g2 (x := { x with State := s }) (wth_mem.2 (.inr rfl)) t
  have hl : lateI { x with State := s } t = false := by
    unfold lateI
    have : (s == 1) = false := by simp; omega
    simp only [this, Bool.false_and]
  have e3' : onE (withI l { x with State := s }) x.Hash t = 10 := by
    have h9 : onE (withI l { x with State := s }) x.Hash t = _ := e3
    rw [h9, if_neg (by rw [hl]; simp), if_neg (by show ¬ s = 1; omega)]
  refine ⟨e1, ?_, e3', ?_⟩
  · have : stV (withI l { x with State := s }) x.Hash t = stateI { x with State := s } t := e2
    rw [this]
    unfold stateI
    rw [if_neg (by rw [hl]; simp)]
  · unfold pyE
    rw [if_pos (by rw [e3']; decide), e3']
/-- InvoiceOnce. -/
theorem once_law {l : List Inv} {h n t later : Int} (e : pyE l h n t = 0) : onE l h t = 0 ∧ stE l h = 0 ∧ stV l h t = 1 ∧ stE (pyL l h n t) h = 0 ∧ stV (pyL l h n t) h later = 2 ∧ pyE (pyL l h n t) h n later = 10 ∧ onE (pyL l h n t) h later = 10 ∧ pyE (cnL l h t) h n later = 10 := by
  obtain ⟨h1, x, k1, k2, g, k4, k5, k6, k7, -⟩ := py_is e
  obtain ⟨-, -, -, -, -, -, -, -, q1, q2⟩ := on_is h1
  obtain ⟨y, y1, y2, -, y3, -⟩ := cn_is h1
  have : y = x := upF_one g.2.1 y1 k1 (by rw [y2, k2])
  subst this
  subst k2
  obtain ⟨a1, a2, a3, a4⟩ := set_state g k1 (s := 2) (by decide) (by decide) later n
  obtain ⟨-, -, -, b4⟩ := set_state g k1 (s := 3) (by decide) (by decide) later n
  rw [k7, y3]
  exact ⟨h1, q1, q2, a1, a2, a4, a3, b4⟩
theorem once_more {l : List Inv} {n t : Int} {y : Inv} (hy : y ∈ l) (e : pyE l y.Hash n t = 0) (m big : Int) (hm : m < y.N) (hb : y.Till < big) : y.N ≤ n ∧ t ≤ y.Till ∧ pyE l y.Hash m t = 9 ∧ pyE l y.Hash n big = 13 := by
  obtain ⟨h1, x, k1, k2, g, k4, k5, k6, k7, -⟩ := py_is e
  have : x = y := upF_one g.2.1 k1 hy k2
  subst this
  have hi := (on_of g k1 t).2.2.2 h1
  refine ⟨k6, k5, ?_, ?_⟩
  · unfold pyE
    rw [if_neg (by simpa using h1), hi, if_pos hm]
  · have h9 := (on_of g k1 big).2.2.1
    rw [if_pos (late_iff.2 ⟨k4, hb⟩)] at h9
    unfold pyE
    rw [h9]; rfl
theorem once_no {l : List Inv} {h n t : Int} (e : pyE l h n t ≠ 0) : pyL l h n t = [] ∧ (stE l h ≠ 0 ∨ stV l h t ≠ 1 ∨ pyE l h n t = 9) := by
  refine ⟨if_neg e, ?_⟩
  unfold pyE at e ⊢
  by_cases h1 : onE l h t = 0
  · rw [if_neg (by simpa using h1)] at e ⊢
    split at e
    · exact .inr (.inr (if_pos (by assumption)))
    · exact absurd rfl e
  · unfold onE at h1
    split at h1
    · exact .inl (by assumption)
    · split at h1
      · rename_i q; exact .inr (.inl (by omega))
      · split at h1
        · rename_i q; exact .inr (.inl q)
        · exact absurd rfl h1
theorem sw_ok {l : List Inv} (g : InOk l) (t : Int) : InOk (l.filter (keepI t)) := ⟨Nat.le_trans (List.length_filter_le _ _) g.1, g.2.1.filter _, fun x hx => g.2.2 x (List.mem_filter.1 hx).1⟩
/-- InvoiceSweeps. -/
theorem sweeps_law {l : List Inv} (g : InOk l) (t h : Int) : InOk (swL l t) ∧ swL (swL l t) t = swL l t ∧ ((stE l h ≠ 0 ∨ stV l h t = 4 ∨ stV l h t = 3) → stE (swL l t) h = 5) ∧ ((stE l h = 0 ∧ stV l h t ≠ 4 ∧ stV l h t ≠ 3) → stE (swL l t) h = 0 ∧ stV (swL l t) h t = stV l h t) := by
  have hs : swL l t = l.filter (keepI t) := if_pos g
  have g2 := sw_ok g t
  rw [hs]
  refine ⟨g2, ?_, fun q => ?_, fun q => ?_⟩
  · unfold swL
    rw [if_pos g2, List.filter_filter]
    congr 1
    funext x
    simp
  · cases hf : invF l h with
    | none => exact (st_none g2 (fnd_no fun r hr => fnd_none hf r (List.mem_filter.1 hr).1) t).1
    | some x =>
      obtain ⟨x1, rfl⟩ := fnd_some hf
      obtain ⟨e1, e2, -⟩ := on_of g x1 t
      have hk : keepI t x = false := by
        rcases q with q | q | q
        · exact absurd e1 q
        · rw [e2] at q
          unfold stateI at q
          unfold keepI
          split at q
          · rename_i r; rw [r]; rfl
          · have := (g.2.2 x x1).2.2.2; omega
        · rw [e2] at q
          unfold stateI at q
          unfold keepI
          split at q
          · cases q
          · rw [q]; simp
      refine (st_none g2 (fnd_no fun r hr e => ?_) t).1
      obtain ⟨r1, r2⟩ := List.mem_filter.1 hr
      have : r = x := upF_one g.2.1 r1 x1 e
      rw [this, hk] at r2; cases r2
  · obtain ⟨q1, q2, q3⟩ := q
    cases hf : invF l h with
    | none => rw [(st_none g hf t).1] at q1; cases q1
    | some x =>
      obtain ⟨x1, rfl⟩ := fnd_some hf
      obtain ⟨-, e2, -⟩ := on_of g x1 t
      rw [e2] at q2 q3 ⊢
      have hk : keepI t x = true := by
        unfold stateI at q2 q3
        unfold keepI
        by_cases r : lateI x t = true
        · rw [if_pos r] at q2; exact absurd rfl q2
        · rw [if_neg r] at q3
          have r' : lateI x t = false := by simpa using r
          rw [r']
          simpa using q3
      obtain ⟨f1, f2, -⟩ := on_of g2 (List.mem_filter.2 ⟨x1, hk⟩) t
      exact ⟨f1, f2⟩
/-- InvoiceOthers. -/
theorem others_law {l : List Inv} {h n till t other : Int} (e : crE l h n = 0) : stE (crL l h n till) h = 0 ∧ stV (crL l h n till) h t = (if till < t then 4 else 1) ∧ (other ≠ h → stE (crL l h n till) other = stE l other ∧ stV (crL l h n till) other t = stV l other t) ∧ crE (crL l h n till) h n = 6 ∧ (crL l h n till).length = l.length + 1 := by
  obtain ⟨g, n1, n2, hn, h256, hL, g2, hl⟩ := cr_is (t := till) e
  have hin : (⟨h, n, till, 1⟩ : Inv) ∈ crL l h n till := by rw [hL]; exact wth_mem.2 (.inr rfl)
  obtain ⟨e1, e2, -⟩ := on_of g2 hin t
  refine ⟨e1, ?_, fun ho => ?_, ?_, hl⟩
  · have : stV (crL l h n till) h t = stateI ⟨h, n, till, 1⟩ t := e2
    rw [this]
    unfold stateI
    by_cases q : till < t
    · rw [if_pos (late_iff.2 ⟨rfl, q⟩), if_pos q]
    · rw [if_neg (fun k => q (late_iff.1 k).2), if_neg q]
  · have hf : invF (crL l h n till) other = invF l other := by rw [hL]; exact fnd_wth_other g.2.1 (r := (⟨h, n, till, 1⟩ : Inv)) ho
    unfold stE stV
    rw [if_pos g2, if_pos g, if_pos g2, if_pos g, hf]
    exact ⟨rfl, rfl⟩
  · have hf : invF (crL l h n till) h = some ⟨h, n, till, 1⟩ := fnd_mem g2.2.1 hin
    unfold crE
    rw [if_pos ⟨g2, n1, n2⟩, if_pos (by rw [hf]; rfl)]
/-- InvoiceOrder. -/
theorem order_law {l : List Inv} {a b : Inv} (hab : a.Hash ≠ b.Hash) (e : crE l a.Hash a.N = 0) (f : crE l b.Hash b.N = 0) :
    crE (crL l a.Hash a.N a.Till) b.Hash b.N = crE (crL l b.Hash b.N b.Till) a.Hash a.N ∧ crL (crL l a.Hash a.N a.Till) b.Hash b.N b.Till = crL (crL l b.Hash b.N b.Till) a.Hash a.N a.Till ∧
    ((l.length + 2 ≤ 256 ∧ crE (crL l a.Hash a.N a.Till) b.Hash b.N = 0) ∨ (¬ l.length + 2 ≤ 256 ∧ crE (crL l a.Hash a.N a.Till) b.Hash b.N = 7)) := by
  obtain ⟨g, n1, n2, hn, h256, hL, g2, hl⟩ := cr_is (t := a.Till) e
  obtain ⟨-, m1, m2, hm, -, hM, g3, hk⟩ := cr_is (t := b.Till) f
  have f1 : invF (crL l a.Hash a.N a.Till) b.Hash = none := by rw [hL]; exact (fnd_wth_other g.2.1 (r := (⟨a.Hash, a.N, a.Till, 1⟩ : Inv)) (fun e => hab e.symm)).trans hm
  have f2 : invF (crL l b.Hash b.N b.Till) a.Hash = none := by rw [hM]; exact (fnd_wth_other g.2.1 (r := (⟨b.Hash, b.N, b.Till, 1⟩ : Inv)) hab).trans hn
  have c1 : crE (crL l a.Hash a.N a.Till) b.Hash b.N = if l.length + 1 = 256 then 7 else 0 := by
    unfold crE
    rw [if_pos ⟨g2, m1, m2⟩, if_neg (by rw [f1]; simp), hl]
  have c2 : crE (crL l b.Hash b.N b.Till) a.Hash a.N = if l.length + 1 = 256 then 7 else 0 := by
    unfold crE
    rw [if_pos ⟨g3, n1, n2⟩, if_neg (by rw [f2]; simp), hk]
  refine ⟨by rw [c1, c2], ?_, ?_⟩
  · by_cases q : l.length + 1 = 256
    · have d1 : crL (crL l a.Hash a.N a.Till) b.Hash b.N b.Till = [] := if_neg (by rw [c1, if_pos q]; decide)
      have d2 : crL (crL l b.Hash b.N b.Till) a.Hash a.N a.Till = [] := if_neg (by rw [c2, if_pos q]; decide)
      rw [d1, d2]
    · have d1 : crL (crL l a.Hash a.N a.Till) b.Hash b.N b.Till = withI (crL l a.Hash a.N a.Till) ⟨b.Hash, b.N, b.Till, 1⟩ := if_pos (by rw [c1, if_neg q])
      have d2 : crL (crL l b.Hash b.N b.Till) a.Hash a.N a.Till = withI (crL l b.Hash b.N b.Till) ⟨a.Hash, a.N, a.Till, 1⟩ := if_pos (by rw [c2, if_neg q])
      rw [d1, d2, hL, hM]
      exact wth_comm g.2.1 (a := (⟨a.Hash, a.N, a.Till, 1⟩ : Inv)) (b := ⟨b.Hash, b.N, b.Till, 1⟩) hab
  · rw [c1]
    by_cases q : l.length + 1 = 256
    · exact .inr ⟨by omega, if_pos q⟩
    · exact .inl ⟨by omega, if_neg q⟩
/-- InvoiceLate. -/
theorem late_law {l : List Inv} {h t later : Int} (hle : t ≤ later) : (stE l h ≠ 0 ∧ stV l h t = 0 ∧ stV l h later = 0) ∨ (stE l h = 0 ∧ stV l h t = 1 ∧ (stV l h later = 1 ∨ stV l h later = 4)) ∨ (stE l h = 0 ∧ stV l h t ≠ 1 ∧ stV l h later = stV l h t ∧ 2 ≤ stV l h t ∧ stV l h t ≤ 4) := by
  by_cases g : InOk l
  · cases hf : invF l h with
    | none => exact .inl ⟨by rw [(st_none g hf t).1]; decide, (st_none g hf t).2, (st_none g hf later).2⟩
    | some x =>
      obtain ⟨x1, rfl⟩ := fnd_some hf
      obtain ⟨e1, e2, -⟩ := on_of g x1 t
      obtain ⟨-, e3, -⟩ := on_of g x1 later
      rw [e2, e3]
      have hm := g.2.2 x x1
      unfold stateI
      by_cases q : lateI x t = true
      · have q2 : lateI x later = true := late_iff.2 ⟨(late_iff.1 q).1, by have := (late_iff.1 q).2; omega⟩
        rw [if_pos q, if_pos q2]
        exact .inr (.inr ⟨e1, by decide, rfl, by decide, by decide⟩)
      · rw [if_neg q]
        by_cases r : x.State = 1
        · refine .inr (.inl ⟨e1, r, ?_⟩)
          split
          · exact .inr rfl
          · exact .inl r
        · have q2 : ¬ lateI x later = true := fun k => r (late_iff.1 k).1
          rw [if_neg q2]
          exact .inr (.inr ⟨e1, r, rfl, by have := hm.2.2.1; omega, by have := hm.2.2.2; omega⟩)
  · exact .inl ⟨by rw [(st_bad g h t).1]; decide, (st_bad g h t).2, (st_bad g h later).2⟩
theorem eg12 : crE [] 1 10 = 0 ∧ stE (crL [] 1 10 5) 1 = 0 ∧ stV (crL [] 1 10 5) 1 5 = 1 ∧ stV (crL [] 1 10 5) 1 6 = 4 := by decide
end Go.Proofs.Ytannjlejghmfpaa
