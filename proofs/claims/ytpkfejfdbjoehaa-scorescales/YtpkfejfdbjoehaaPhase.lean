/-
  A region that draws its order, whose last operations wait for all others: the others first, in whatever order, then those. So what the others read need not hold any more behind those (a store into what was read). No program.
-/
import Derived.OrdersHeld
import Derived.StillTail
import Derived.Deep.Quiet
namespace Go.Proofs.Ytpkfejfdbjoehaa
open Go

/-- What is asked behind the head: what follows; at a way out, as ever. -/
def HeadQ (T : Act → World → Prop) (Q : Exit → Act → World → Prop) : Exit → Act → World → Prop
  | .normal, a, w => T a w
  | e, a, w => Q e a w
theorem wp_headQ {P : Program} {o : Oper} {a : Act} {w : World} {K T : Act → World → Prop} {Q : Exit → Act → World → Prop} (h : o.wp P a w K (HeadQ T Q)) : o.wp P a w K Q := by
  unfold Oper.wp at *
  generalize (execOp a.eval o).run P w = r at *
  cases r with
  | ok n w' =>
    cases n <;> simp only [Oper.upon] at h ⊢ <;>
      first
        | exact h
        | exact Calls.mono h (fun e w'' he => by cases e <;> exact he)
  | halt x w' => cases x <;> simp only [Oper.upon] at h ⊢ <;> exact h

def fullL (L : List Bool) (m : Nat) : Array Bool := (L ++ List.replicate m false).toArray
/-- The first n operations wait for earlier ones alone, and for no test; each later one waits for all of them; and those come in one order. -/
def phaseB (l : List Oper) (n : Nat) : Bool :=
  decide (n ≤ l.length) &&
  ((List.range n).all fun i => match l[i]? with
    | some o => o.guard.isNone && o.after.all fun e => decide (e.on < i)
    | none => false) &&
  ((List.range l.length).all fun t => decide (t < n) || (List.range n).all fun i => Region.waitsFor .any l.toArray t i) &&
  Region.seqB .any l.toArray (l.length - n) n (fullL (List.replicate n true) (l.length - n))

section
variable {l : List Oper} {n : Nat}
theorem phase_head (hB : phaseB l n = true) {i : Nat} (hi : i < n) : ∃ o, l[i]? = some o ∧ o.guard = none ∧ ∀ e ∈ o.after, e.on < i := by
  simp only [phaseB, Bool.and_eq_true] at hB
  have h := List.all_eq_true.1 hB.1.1.2 i (List.mem_range.2 hi)
  split at h
  · rename_i o ho
    simp only [Bool.and_eq_true, Option.isNone_iff_eq_none] at h
    exact ⟨o, ho, h.1, fun e he => by simpa using Array.all_eq_true_iff_forall_mem.1 h.2 e he⟩
  · cases h
theorem phase_tail (hB : phaseB l n = true) {t i : Nat} (ht : n ≤ t) (htl : t < l.length) (hi : i < n) : Region.waitsFor .any l.toArray t i = true := by
  simp only [phaseB, Bool.and_eq_true] at hB
  have h := List.all_eq_true.1 hB.1.2 t (List.mem_range.2 htl)
  simp only [Bool.or_eq_true, decide_eq_true_eq] at h
  rcases h with h | h
  · omega
  · exact List.all_eq_true.1 h i (List.mem_range.2 hi)
theorem full_lt {L : List Bool} {m j : Nat} (hj : j < L.length) (d : Bool) : (fullL L m).getD j d = L.toArray.getD j d := by
  simp [fullL, List.getElem?_append_left hj]
theorem take_get {i : Nat} (hi : i < n) : (l.take n).toArray[i]? = l.toArray[i]? := by simp [hi]

/-- As long as one of the head is left, those that may come up are the head's. -/
theorem ready_head (hB : phaseB l n = true) {L : List Bool} (hL : L.length = n) {u : Nat} (hu : L[u]? = some false) {m : Nat} {j : Nat} : j ∈ Region.ready .any l.toArray (fullL L m) ↔ j < n ∧ j ∈ Region.ready .any (l.take n).toArray L.toArray := by
  have hun : u < n := by rw [← hL]; exact (List.getElem?_eq_some_iff.1 hu).1
  have hu2 : (fullL L m).getD u false = false := by
    rw [full_lt (by rw [hL]; exact hun)]
    simp [hu]
  constructor
  · intro h
    obtain ⟨h0, o, ho, hall⟩ := mem_ready.1 h
    have hjl : j < l.length := by simpa using (Array.getElem?_eq_some_iff.1 ho).1
    have hjn : j < n := by
      rcases Nat.lt_or_ge j n with h1 | h1
      · exact h1
      · obtain ⟨o', ho', e, he, hb, hon⟩ := Region.waitsFor_spec (phase_tail hB h1 hjl hun)
        have : o' = o := Option.some.inj (ho'.symm.trans ho)
        subst this
        have := hall e he hb
        rw [hon, hu2] at this
        cases this
    refine ⟨hjn, mem_ready.2 ⟨by rw [← full_lt (m := m) (by rw [hL]; exact hjn)]; exact h0, o, by rw [take_get hjn]; exact ho, fun e he hb => ?_⟩⟩
    obtain ⟨o', ho', _, hlt⟩ := phase_head hB hjn
    have : o' = o := Option.some.inj (ho'.symm.trans (by simpa using ho))
    subst this
    have := hlt e he
    rw [← full_lt (m := m) (by rw [hL]; omega)]
    exact hall e he hb
  · rintro ⟨hjn, h⟩
    obtain ⟨h0, o, ho, hall⟩ := mem_ready.1 h
    rw [take_get hjn] at ho
    refine mem_ready.2 ⟨by rw [full_lt (by rw [hL]; exact hjn)]; exact h0, o, ho, fun e he hb => ?_⟩
    obtain ⟨o', ho', _, hlt⟩ := phase_head hB hjn
    have : o' = o := Option.some.inj (ho'.symm.trans (by simpa using ho))
    subst this
    have := hlt e he
    rw [full_lt (by rw [hL]; omega)]
    exact hall e he hb
/-- And one may. -/
theorem ready_one (hB : phaseB l n = true) {L : List Bool} (hL : L.length = n) : ∀ {u : Nat}, L[u]? = some false → ∃ j, j ∈ Region.ready .any (l.take n).toArray L.toArray := by
  intro u
  induction u using Nat.strongRecOn with
  | _ u ih =>
    intro hu
    have hun : u < n := by rw [← hL]; exact (List.getElem?_eq_some_iff.1 hu).1
    obtain ⟨o, ho, _, hlt⟩ := phase_head hB hun
    by_cases hall : ∀ e ∈ o.after, L.toArray.getD e.on false = true
    · exact ⟨u, mem_ready.2 ⟨by simp [hu], o, by rw [take_get hun]; simpa using ho, fun e he _ => hall e he⟩⟩
    · obtain ⟨e, he⟩ := Classical.not_forall.1 hall
      obtain ⟨he, hf⟩ := Classical.not_imp.1 he
      have hlt' := hlt e he
      refine ih e.on hlt' ?_
      have hel : e.on < L.length := by rw [hL]; omega
      rw [List.getElem?_eq_getElem hel]
      simp [hel] at hf
      rw [hf]
theorem count_set {L : List Bool} {i : Nat} (h : L[i]? = some false) : (L.set i true).count false + 1 = L.count false := by
  induction L generalizing i with
  | nil => simp at h
  | cons x L ih =>
    cases i with
    | zero => simp at h; subst h; simp
    | succ i =>
      simp only [List.getElem?_cons_succ] at h
      have := ih h
      simp only [List.set_cons_succ, List.count_cons]
      omega
theorem count_zero {L : List Bool} (h : L.count false = 0) : L = List.replicate L.length true := by
  induction L with
  | nil => rfl
  | cons x L ih =>
    cases x with
    | false => simp at h
    | true => simp [List.replicate_succ] at h ⊢; exact ih (by simpa using h)
theorem count_some {L : List Bool} {f : Nat} (h : L.count false = f + 1) : ∃ u : Nat, L[u]? = some false := by
  have : false ∈ L := List.count_pos_iff.1 (by omega)
  obtain ⟨u, hu, e⟩ := List.getElem_of_mem this
  exact ⟨u, by rw [List.getElem?_eq_getElem hu, e]⟩

theorem wpAny_phase {P : Program} {Q : Exit → Act → World → Prop} (hB : phaseB l n = true) : ∀ (f : Nat) (L : List Bool) (a : Act) (w : World), L.length = n → L.count false = f →
    wpAny P .any (l.take n).toArray (HeadQ (wpList P l.toArray Q (l.drop n)) Q) f L.toArray a w → wpAny P .any l.toArray Q (f + (l.length - n)) (fullL L (l.length - n)) a w := by
  intro f
  induction f with
  | zero =>
    intro L a w hL hc h
    have e : L = List.replicate n true := by rw [← hL]; exact count_zero hc
    have hs : Region.seqB .any l.toArray (l.length - n) n (fullL (List.replicate n true) (l.length - n)) = true := by
      simp only [phaseB, Bool.and_eq_true] at hB
      exact hB.2
    have := wpAny_of_seq (md := .any) (Q' := Q) (ops := l.toArray) (l.drop n) n (fullL L (l.length - n)) a w (fun j => by simp [List.getElem?_drop]) (by rw [e, List.length_drop]; exact hs) h.2
    rw [List.length_drop] at this
    rw [Nat.zero_add]
    exact this
  | succ f ih =>
    intro L a w hL hc h
    obtain ⟨u, hu⟩ := count_some hc
    rw [show f + 1 + (l.length - n) = f + (l.length - n) + 1 by omega]
    refine ⟨fun h0 => ?_, fun i hi => ?_⟩
    · obtain ⟨j, hj⟩ := ready_one hB hL hu
      have hjn : j < n := by
        obtain ⟨_, o, ho, _⟩ := mem_ready.1 hj
        have := (Array.getElem?_eq_some_iff.1 ho).1
        simp at this
        omega
      have := (ready_head hB hL hu (m := l.length - n)).2 ⟨hjn, hj⟩
      rw [h0] at this
      cases this
    · obtain ⟨hin, hir⟩ := (ready_head hB hL hu).1 hi
      have h1 := h.2 i hir
      obtain ⟨o, ho, hg, _⟩ := phase_head hB hin
      have ho1 : (l.take n).toArray[i]? = some o := by rw [take_get hin]; simpa using ho
      have ho2 : l.toArray[i]? = some o := by simpa using ho
      have hLi : L[i]? = some false := by
        have := (mem_ready.1 hir).1
        have hil : i < L.length := by rw [hL]; exact hin
        rw [List.getElem?_eq_getElem hil]
        simp [hil] at this
        rw [this]
      have hil : i < L.length := by rw [hL]; exact hin
      unfold wpOp at h1 ⊢
      simp only [ho1] at h1
      simp only [ho2]
      rw [if_pos (by simp [Region.wanted, hg])] at h1
      rw [if_pos (by simp [Region.wanted, hg])]
      have hk : ∀ a' w', wpAny P .any (l.take n).toArray (HeadQ (wpList P l.toArray Q (l.drop n)) Q) f (L.toArray.setIfInBounds i true) a' w' → wpAny P .any l.toArray Q (f + (l.length - n)) ((fullL L (l.length - n)).setIfInBounds i true) a' w' := fun a' w' h' => by
        have e1 : (fullL L (l.length - n)).setIfInBounds i true = fullL (L.set i true) (l.length - n) := by
          simp [fullL, List.set_append_left _ _ hil]
        have e2 : L.toArray.setIfInBounds i true = (L.set i true).toArray := by simp
        rw [e1]
        rw [e2] at h'
        exact ih (L.set i true) a' w' (by simpa using hL) (by have := count_set hLi; omega) h'
      rcases h1 with h1 | ⟨h1, a', w', h2⟩
      · exact .inl (Oper.wp_mono hk (wp_headQ h1))
      · exact .inr ⟨h1, a', w', h2⟩

/-- **THE LAW**: the first n in whatever order (under S, for those that read), then the others, one after the other. -/
theorem wp_region_phase {P : Program} {id : Nat} {Q : Exit → Act → World → Prop} {a : Act} {w : World} (n : Nat) (S : World → Prop) (hm : P.follows .mixedOrders = true) (hB : phaseB l n = true)
    (h : wpAnyH P .any (l.take n).toArray (HeadQ (wpList P l.toArray Q (l.drop n)) Q) S n (Array.replicate n false) a (w.drewN 1)) : (Code.region id l.toArray true).wp P Q a w := by
  refine wp_region_any hm ?_
  have hn : n ≤ l.length := by
    simp only [phaseB, Bool.and_eq_true, decide_eq_true_eq] at hB
    exact hB.1.1.1
  have := wpAny_phase (P := P) (Q := Q) hB n (List.replicate n false) a (w.drewN 1) (by simp) (by simp) (by
    rw [show (List.replicate n false).toArray = Array.replicate n false by simp]
    exact wpAny_of_held _ _ _ _ h)
  rw [show n + (l.length - n) = l.toArray.size by simp; omega, show fullL (List.replicate n false) (l.length - n) = Array.replicate l.toArray.size false by
    simp only [fullL, List.replicate_append_replicate]
    simp
    omega] at this
  exact this
end
/-- The operation that comes up, as a step. -/
theorem wpOp_step {P : Program} {ops : Array Oper} {Q : Exit → Act → World → Prop} {i : Nat} {o : Oper} {K : Act → World → Prop} {a : Act} {w : World} (ho : ops[i]? = some o)
    (hg : o.guard = none) (h : if Region.wanted o (yielded ops a.tmps) = true then Oper.wp P o a w K Q else False) : wpOp P ops Q i K a w := by
  have hw : Region.wanted o (yielded ops a.tmps) = true := by simp [Region.wanted, hg]
  rw [if_pos hw] at h
  unfold wpOp
  simp only [ho]
  rw [if_pos hw]
  exact .inl h
/-- The one that may come up, as a step. -/
theorem wpAnyH_one {P : Program} {ops : Array Oper} {Q : Exit → Act → World → Prop} {S : World → Prop} {f : Nat} {listed : Array Bool} {a : Act} {w : World} (i : Nat) (o : Oper) (hr : Region.ready .any ops listed = [i]) (ho : ops[i]? = some o) (hg : o.guard = none)
    (h : if Region.wanted o (yielded ops a.tmps) = true then Oper.wp P o a w (fun a' w' => S w' ∧ wpAnyH P .any ops Q S f (listed.setIfInBounds i true) a' w') Q else False) : wpAnyH P .any ops Q S (f + 1) listed a w :=
  wpAnyH_all hr (by simp) fun j hj => by
    obtain rfl : j = i := by simpa using hj
    exact wpOp_step ho hg h
/-- Number i first: what it writes, and where. -/
theorem wpAnyH_at {P : Program} {ops : Array Oper} {Q : Exit → Act → World → Prop} {S : World → Prop} {f : Nat} {listed : Array Bool} {a : Act} {w : World} {oi : Oper} (i : Nat) (d : Option Tmp) (v : Value) (hi : ops[i]? = some oi) (hd : oi.dst = d)
    (hs : Region.noSelect ops = true) (hf : Region.free .any ops listed i = true) (hr : (Region.ready .any ops listed).contains i = true)
    (hQ : ∀ c a w, Q (.panic c) (a.put d v) w → Q (.panic c) a w) (hg : oi.guard = none) (hy : ∀ w, S w → (execOp a.eval oi).run P w = .ok (.value v) w) (hS : S w)
    (h : wpAnyH P .any ops Q S f (listed.setIfInBounds i true) (a.put d v) w) : wpAnyH P .any ops Q S (f + 1) listed a w := by
  subst hd
  exact wpAnyH_take hi hs hf hr hQ (.inl ⟨by simp [Region.wanted, hg], hy⟩) hS h
end Go.Proofs.Ytpkfejfdbjoehaa
