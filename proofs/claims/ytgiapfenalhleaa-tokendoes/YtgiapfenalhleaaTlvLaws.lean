/-
  Plain laws of records as octets: what was put is got; what is got, put, is what was read.
-/
import Derived.Test.YtgiapfenalhleaaTlvMath
namespace Go.Proofs.Ytgiapfenalhleaa
open Go.RowKit Go.WalkArith

def RecWf (r : Rec) : Prop := (0 ≤ r.T ∧ r.T ≤ 18446744073709551615) ∧ ∀ x ∈ r.V, 0 ≤ x ∧ x ≤ 255

theorem octR_rest (r : Rec) (h : RecWf r) (hv : r.V.length ≤ 4096) (ys : List Int) :
    getE (octR r ++ ys) = 0 ∧ rdN (octR r ++ ys) = r.T ∧ rest1 (octR r ++ ys) = oct r.V.length ++ (r.V ++ ys) ∧ getE (rest1 (octR r ++ ys)) = 0 ∧ rdN (rest1 (octR r ++ ys)) = r.V.length ∧ rest2 (octR r ++ ys) = r.V ++ ys := by
  have e : octR r ++ ys = oct r.T ++ (oct r.V.length ++ (r.V ++ ys)) := by simp [octR]
  obtain ⟨h1, h2⟩ := get_put h.1.1 h.1.2 (oct r.V.length ++ (r.V ++ ys))
  obtain ⟨h3, h4⟩ := get_put (n := (r.V.length : Int)) (by omega) (by omega) (r.V ++ ys)
  rw [e]
  have e1 : rest1 (oct r.T ++ (oct r.V.length ++ (r.V ++ ys))) = oct r.V.length ++ (r.V ++ ys) := by
    unfold rest1
    rw [h2, List.drop_left]
  have e2 : rest2 (oct r.T ++ (oct r.V.length ++ (r.V ++ ys))) = r.V ++ ys := by
    unfold rest2
    rw [e1, h4, List.drop_left]
  exact ⟨h1, h2, e1, by rw [e1]; exact h3, by rw [e1]; exact h4, e2⟩

theorem MayBe.left {a b : List Rec} (h : MayBe (a ++ b)) : MayBe a := by
  obtain ⟨h1, h2⟩ := h
  rw [List.length_append] at h1
  refine ⟨by omega, fun j hj _ => ?_⟩
  have := h2 j (by rw [List.length_append]; omega) (by rw [List.length_append]; omega)
  simp only [List.getElem_append_left hj] at this
  refine ⟨this.1, fun h0 => ?_⟩
  have h3 := this.2 h0
  rwa [List.getElem_append_left (by omega)] at h3
theorem MayBe.snoc {a : List Rec} {r : Rec} : MayBe (a ++ [r]) ↔ MayBe a ∧ a.length < 64 ∧ r.V.length ≤ 4096 ∧ (a ≠ [] → lastT a < r.T) := by
  constructor
  · intro h
    have hl := h.left
    obtain ⟨h1, h2⟩ := h
    rw [List.length_append, List.length_singleton] at h1
    have h3 := h2 a.length (by simp) (by simp)
    simp only [List.getElem_concat_length] at h3
    refine ⟨hl, by omega, h3.1, fun hne => ?_⟩
    have h0 : 0 < a.length := by rcases Nat.eq_zero_or_pos a.length with h | h; exact absurd (List.eq_nil_of_length_eq_zero h) hne; exact h
    have h4 := h3.2 h0
    rw [List.getElem_append_left (by omega)] at h4
    have h5 : lastT a = a[a.length - 1].T := by
      unfold lastT
      rw [List.getLast?_eq_getElem?, List.getElem?_eq_getElem (by omega)]
      rfl
    omega
  · rintro ⟨⟨h1, h2⟩, h3, h4, h5⟩
    refine ⟨by simp; omega, fun j hj _ => ?_⟩
    rw [List.length_append, List.length_singleton] at hj
    rcases Nat.lt_or_ge j a.length with hlt | hge
    · have := h2 j hlt hlt
      simp only [List.getElem_append_left hlt]
      refine ⟨this.1, fun h0 => ?_⟩
      rw [List.getElem_append_left (by omega)]
      exact this.2 h0
    · obtain rfl : j = a.length := by omega
      simp only [List.getElem_concat_length]
      refine ⟨h4, fun h0 => ?_⟩
      rw [List.getElem_append_left (by omega)]
      have h6 := h5 (fun e => by rw [e] at h0; simp at h0)
      have h7 : lastT a = a[a.length - 1].T := by
        unfold lastT
        rw [List.getLast?_eq_getElem?, List.getElem?_eq_getElem (by omega)]
        rfl
      omega
theorem maybe_nil : MayBe [] := ⟨by simp, fun j h => absurd h (by simp)⟩

theorem lastT_lt {a : List Rec} {r : Rec} (h : MayBe (a ++ [r])) (hr : 0 ≤ r.T) : lastT a < r.T := by
  cases a with
  | nil => simp [lastT]; omega
  | cons x a => exact (MayBe.snoc.1 h).2.2.2 (by simp)

theorem getRA_put (l : List Rec) (hw : ∀ r ∈ l, RecWf r) (acc : List Rec) (hm : MayBe (acc ++ l)) (f : Nat) (hf : (octsR l).length ≤ f) : getRA f (octsR l) acc = (acc ++ l, 0) := by
  induction l generalizing acc f with
  | nil => rw [show octsR [] = [] from rfl, getRA_nil]; simp
  | cons r l ih =>
    have hmr : MayBe (acc ++ [r]) := by
      have : acc ++ r :: l = (acc ++ [r]) ++ l := by simp
      rw [this] at hm
      exact hm.left
    obtain ⟨m1, m2, m3, m4⟩ := MayBe.snoc.1 hmr
    have hrw := hw r (by simp)
    obtain ⟨h1, h2, h3, h4, h5, h6⟩ := octR_rest r hrw m3 (octsR l)
    rw [octsR_cons] at hf ⊢
    have hn : recN (octR r ++ octsR l) = r.V.length := by unfold recN; rw [h5]; rfl
    have hst : stepE (octR r ++ octsR l) acc = 0 := by
      unfold stepE
      rw [if_neg (by omega), if_neg (by simp [h1]), if_neg (by rw [h2]; have := lastT_lt hmr hrw.1.1; omega), if_neg (by simp [h4]), if_neg (by rw [h5]; omega), if_neg (by rw [h6, hn]; simp)]
    obtain ⟨f', e, hf'⟩ := getRA_step f (octR r ++ octsR l) acc hf (by simp [octR, oct]) hst
    have hrec : stepRec (octR r ++ octsR l) = r := by
      unfold stepRec
      rw [h2, h6, hn, List.take_left]
    have hrest : stepRest (octR r ++ octsR l) = octsR l := by
      unfold stepRest
      rw [h6, hn, List.drop_left]
    rw [hrec, hrest] at e
    rw [hrest] at hf'
    rw [e, ih (fun x hx => hw x (by simp [hx])) (acc ++ [r]) (by simpa using hm) f' hf']
    simp
theorem getR_put {l : List Rec} (hw : ∀ r ∈ l, RecWf r) (hm : MayBe l) (hl : (octsR l).length ≤ 65535) : getR (octsR l) = (l, 0) := by
  unfold getR
  rw [if_pos hl, getRA_put l hw [] (by simpa using hm) _ (Nat.le_refl _)]
  simp

theorem take_app {a xs : List Int} (h : a = xs.take a.length) : a ++ xs.drop a.length = xs := by
  have := List.take_append_drop a.length xs
  rwa [← h] at this
theorem step_octs {xs : List Int} {acc : List Rec} (hw : ∀ x ∈ xs, 0 ≤ x ∧ x ≤ 255) (h : stepE xs acc = 0) : xs = octR (stepRec xs) ++ stepRest xs ∧ RecWf (stepRec xs) ∧ (stepRec xs).V.length ≤ 4096 ∧ lastT acc < (stepRec xs).T ∧ acc.length ≠ 64 := by
  obtain ⟨h1, h2, h3, h4, h5, h6⟩ := stepE_ok h
  obtain ⟨p1, p2⟩ := put_get hw h2
  have hw1 : ∀ x ∈ rest1 xs, 0 ≤ x ∧ x ≤ 255 := mem_drop_bd hw
  have hw2 : ∀ x ∈ rest2 xs, 0 ≤ x ∧ x ≤ 255 := mem_drop_bd hw1
  obtain ⟨p3, p4⟩ := put_get hw1 h4
  have b1 := rdN_bd xs (by have := (getE_ok h2).1; omega) hw
  have b2 := rdN_bd (rest1 xs) (by have := (getE_ok h4).1; omega) hw1
  have hv : (stepRec xs).V.length = recN xs := by simp only [stepRec, List.length_take]; omega
  have hn : ((recN xs : Nat) : Int) = rdN (rest1 xs) := by unfold recN; omega
  refine ⟨?_, ⟨b1, fun x hx => hw2 x (List.mem_of_mem_take hx)⟩, by omega, h3, h1⟩
  have e0 : (stepRec xs).T = rdN xs := rfl
  unfold octR
  rw [hv, hn, e0]
  have e1 : (rest2 xs).take (recN xs) ++ stepRest xs = rest2 xs := List.take_append_drop _ _
  have e2 : oct (rdN (rest1 xs)) ++ rest2 xs = rest1 xs := take_app p3
  have e3 : oct (rdN xs) ++ rest1 xs = xs := take_app p1
  have e4 : (stepRec xs).V = (rest2 xs).take (recN xs) := rfl
  rw [e4, List.append_assoc, List.append_assoc, e1, e2, e3]

theorem getRA_back (f : Nat) (xs : List Int) (acc m : List Rec) (hw : ∀ x ∈ xs, 0 ≤ x ∧ x ≤ 255) (hf : xs.length ≤ f) (ha : MayBe acc) (hr : ∀ r ∈ acc, RecWf r) (h : getRA f xs acc = (m, 0)) : MayBe m ∧ octsR m = octsR acc ++ xs ∧ ∀ r ∈ m, RecWf r := by
  induction f generalizing xs acc with
  | zero =>
    have : xs = [] := List.eq_nil_of_length_eq_zero (by omega)
    subst this
    simp only [getRA, Prod.mk.injEq, and_true] at h
    subst h
    exact ⟨ha, by simp, hr⟩
  | succ f ih =>
    by_cases hx : xs = []
    · subst hx
      rw [getRA_nil] at h
      simp only [Prod.mk.injEq, and_true] at h
      subst h
      exact ⟨ha, by simp, hr⟩
    · by_cases he : stepE xs acc = 0
      · obtain ⟨s1, s2, s3, s4, s5⟩ := step_octs hw he
        have hg : getRA (f + 1) xs acc = getRA f (stepRest xs) (acc ++ [stepRec xs]) := by simp [getRA, hx, he]
        rw [hg] at h
        have hl : (stepRest xs).length ≤ f := by
          have h1 := congrArg List.length s1
          rw [List.length_append] at h1
          have h2 : 1 ≤ (octR (stepRec xs)).length := by simp only [octR, List.length_append, oct_len]; omega
          omega
        have hwr : ∀ x ∈ stepRest xs, 0 ≤ x ∧ x ≤ 255 := fun x hx' => hw x (by rw [s1]; exact List.mem_append_right _ hx')
        obtain ⟨g1, g2, g3⟩ := ih (stepRest xs) (acc ++ [stepRec xs]) hwr hl
          (MayBe.snoc.2 ⟨ha, by have := ha.1; omega, s3, fun _ => s4⟩)
          (fun r hr' => by
            rcases List.mem_append.1 hr' with h' | h'
            · exact hr r h'
            · simp at h'; subst h'; exact s2) h
        refine ⟨g1, ?_, g3⟩
        rw [g2, octsR_append, List.append_assoc]
        congr 1
        conv => rhs; rw [s1]
        simp [octsR]
      · have hg : getRA (f + 1) xs acc = ([], stepE xs acc) := by simp [getRA, hx, he]
        rw [hg] at h
        simp only [Prod.mk.injEq] at h
        exact absurd h.2 he
theorem getR_back {xs : List Int} {m : List Rec} (hw : ∀ x ∈ xs, 0 ≤ x ∧ x ≤ 255) (h : getR xs = (m, 0)) : MayBe m ∧ octsR m = xs ∧ xs.length ≤ 65535 ∧ ∀ r ∈ m, RecWf r := by
  unfold getR at h
  split at h
  · obtain ⟨h1, h2, h3⟩ := getRA_back _ xs [] m hw (Nat.le_refl _) maybe_nil (by simp) h
    exact ⟨h1, by simpa [octsR] using h2, by assumption, h3⟩
  · simp at h

end Go.Proofs.Ytgiapfenalhleaa
