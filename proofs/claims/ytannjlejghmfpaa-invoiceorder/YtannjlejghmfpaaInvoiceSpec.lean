/-
  The words of what package invoice answers; the laws' own 'live' and 'few' of layer 12 over them.
-/
import Derived.Test.YtannjlejghmfpaaInvoiceMath
namespace Go.Proofs.Ytannjlejghmfpaa
open Go.RowKit Go.WalkArith

/-- What package invoice answers. -/
structure InvoiceSpec : Prop where
  check : ∀ (A : Option Addr) (n k : Nat) (l : List Inv) (w : World), Sl lay_Invoice w (· < w.heap.size) A n k l →
    Calls Try.prog 22 #[.slice A n k] w fun e w' => e = .returned (.int .i64 (inE l)) ∧ Below w.heap.size w w'
  same : ∀ (A A' : Option Addr) (n k n' k' : Nat) (l o : List Inv) (w : World), Sl lay_Invoice w (· < w.heap.size) A n k l → Sl lay_Invoice w (· < w.heap.size) A' n' k' o →
    Calls Try.prog 24 #[.slice A n k, .slice A' n' k'] w fun e w' => e = .returned (.bool (decide (l = o))) ∧ Below w.heap.size w w'
  state : ∀ (A : Option Addr) (n k : Nat) (l : List Inv) (h t : Int) (w : World), Sl lay_Invoice w (· < w.heap.size) A n k l → (Lit.int .u64 h).wf = true → (Lit.int .u64 t).wf = true →
    Calls Try.prog 19 #[.slice A n k, .int .u64 h, .int .u64 t] w fun e w' => e = .returned (.tuple #[.int .i64 (stV l h t), .int .i64 (stE l h)]) ∧ Below w.heap.size w w'
  create : ∀ (A : Option Addr) (n k : Nat) (l : List Inv) (h m t : Int) (w : World), Sl lay_Invoice w (· < w.heap.size) A n k l → (Lit.int .u64 h).wf = true → (Lit.int .u64 m).wf = true → (Lit.int .u64 t).wf = true →
    Calls Try.prog 11 #[.slice A n k, .int .u64 h, .int .u64 m, .int .u64 t] w fun e w' => ∃ v, e = .returned (.tuple #[v, .int .i64 (crE l h m)]) ∧ OwnL lay_Invoice w' w.heap.size (some w.heap.size) 37 v (crL l h m t) ∧ Below w.heap.size w w'
  cancel : ∀ (A : Option Addr) (n k : Nat) (l : List Inv) (h t : Int) (w : World), Sl lay_Invoice w (· < w.heap.size) A n k l → (Lit.int .u64 h).wf = true → (Lit.int .u64 t).wf = true →
    Calls Try.prog 13 #[.slice A n k, .int .u64 h, .int .u64 t] w fun e w' => ∃ v, e = .returned (.tuple #[v, .int .i64 (onE l h t)]) ∧ OwnL lay_Invoice w' w.heap.size (some w.heap.size) 37 v (cnL l h t) ∧ Below w.heap.size w w'
  pay : ∀ (A : Option Addr) (n k : Nat) (l : List Inv) (h m t : Int) (w : World), Sl lay_Invoice w (· < w.heap.size) A n k l → (Lit.int .u64 h).wf = true → (Lit.int .u64 m).wf = true → (Lit.int .u64 t).wf = true →
    Calls Try.prog 15 #[.slice A n k, .int .u64 h, .int .u64 m, .int .u64 t] w fun e w' => ∃ v, e = .returned (.tuple #[v, .int .i64 (pyE l h m t)]) ∧ OwnL lay_Invoice w' w.heap.size (some w.heap.size) 37 v (pyL l h m t) ∧ Below w.heap.size w w'
  sweep : ∀ (A : Option Addr) (n k : Nat) (l : List Inv) (t : Int) (w : World), Sl lay_Invoice w (· < w.heap.size) A n k l → (Lit.int .u64 t).wf = true →
    Calls Try.prog 17 #[.slice A n k, .int .u64 t] w fun e w' => ∃ v, e = .returned (.tuple #[v, .int .i64 (inE l)]) ∧ OwnL lay_Invoice w' w.heap.size (some w.heap.size) 37 v (swL l t) ∧ Below w.heap.size w w'

def fewI (n : Nat) : Bool := decide (n ≤ 40) || (decide (256 ≤ n) && decide (n ≤ 258))
set_option maxRecDepth 100000 in
theorem fewI_any (A : Option Addr) (n c : Nat) (w : World) (h : n ≤ maxLen) :
    Calls Try.prog 10 #[.slice A n c] w fun e w' => e = .returned (.bool (fewI n)) ∧ Below w.heap.size w w' := by
  unfold maxLen at h
  go_enter Try.func10, Try.ntmps10
  by_cases h1 : n ≤ 40
  · have d1 : decide ((n : Int) ≤ 40) = true := by simp; omega
    have e : fewI n = true := by unfold fewI; rw [decide_eq_true h1]; rfl
    rw [e]
    clear e
    go_wp2
    go_ret
    exact ⟨rfl, Below.refl _ _⟩
  · have d1 : decide ((n : Int) ≤ 40) = false := by simp; omega
    by_cases h2 : 256 ≤ n
    · have d2 : decide ((256 : Int) ≤ (n : Int)) = true := by simp; omega
      by_cases h3 : n ≤ 258
      · have d3 : decide ((n : Int) ≤ 258) = true := by simp; omega
        have e : fewI n = true := by unfold fewI; rw [decide_eq_false h1, decide_eq_true h2, decide_eq_true h3]; rfl
        rw [e]
        clear e
        go_wp2
        go_ret
        exact ⟨rfl, Below.refl _ _⟩
      · have d3 : decide ((n : Int) ≤ 258) = false := by simp; omega
        have e : fewI n = false := by unfold fewI; rw [decide_eq_false h1, decide_eq_true h2, decide_eq_false h3]; rfl
        rw [e]
        clear e
        go_wp2
        go_ret
        exact ⟨rfl, Below.refl _ _⟩
    · have d2 : decide ((256 : Int) ≤ (n : Int)) = false := by simp; omega
      have e : fewI n = false := by unfold fewI; rw [decide_eq_false h1, decide_eq_false h2]; rfl
      rw [e]
      clear e
      go_wp2
      go_ret
      exact ⟨rfl, Below.refl _ _⟩

set_option maxRecDepth 100000 in
set_option maxHeartbeats 4000000 in
theorem live12_any (HI : InvoiceSpec) (w : World) : Calls Try.prog 9 #[] w fun e w' => e = .returned (.bool true) ∧ Below w.heap.size w w' := by
  obtain ⟨l, hl⟩ : ∃ z, crL [] 1 10 5 = z := ⟨_, rfl⟩
  have E := eg12
  rw [hl] at E
  have H1 := hid (HI.create none 0 0 [] 1 10 5 w (Sl.nil _ _ _) (by decide) (by decide) (by decide))
  rw [hl, E.1] at H1
  have Q := hid E.2
  clear hl E
  go_enter Try.func9, Try.ntmps9
  go_wp2_with fail
  refine H1.out.mono ?_
  rintro e w1 ⟨v1, rfl, ho1, HB⟩
  obtain ⟨A1, n1, c1, rfl, hs1⟩ := ho1.read
  have HX := Below.refl w1.heap.size w1
  clear ho1 H1
  go_wp2_with fail
  refine (HI.state A1 n1 c1 l 1 5 _ (Sl.call hs1 HX) (by decide) (by decide)).mono ?_
  rw [Q.out.1, Q.out.2.1]
  rintro e w2 ⟨rfl, hb⟩
  replace HB := bel_call HB hb
  replace HX := bel_call HX hb
  clear hb
  go_wp2_with fail
  refine (HI.state A1 n1 c1 l 1 6 _ (Sl.call hs1 HX) (by decide) (by decide)).mono ?_
  rw [Q.out.1, Q.out.2.2]
  rintro e w3 ⟨rfl, hb⟩
  replace HB := bel_call HB hb
  clear hb
  go_wp2
  go_ret
  exact ⟨rfl, HB⟩
end Go.Proofs.Ytannjlejghmfpaa
