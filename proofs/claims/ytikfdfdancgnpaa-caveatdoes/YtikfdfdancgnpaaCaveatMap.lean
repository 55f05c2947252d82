/-
  A map of caps: what it holds behind each caveat; and the words of what Caps answers.
-/
import Derived.Test.YtikfdfdancgnpaaCaveatMath
import Derived.Test.YtikfdfdancgnpaaStep
import Derived.Maps.OwnSet
import Derived.Maps.RangeWalk
namespace Go.Proofs.Ytikfdfdancgnpaa
open Go.RowKit Go.WalkArith Go.Maps

theorem cvLaw : Maps.Keyed Try.prog 22 := Maps.int_keyed Try.underlying22
theorem cvZero (w : World) : (zeroValue 22).run Try.prog w = .ok (.int .u64 0) w := by kernel_rfl
theorem keysN_len (l : List Cav) : (keysN l).length ≤ l.length := by
  refine snoc_ind (p := fun l => (keysN l).length ≤ l.length) l (by simp [keysN]) fun l c ih => ?_
  have := (keysN_one l c).2
  simp
  omega

/-- The map in block b holds the caps of these caveats. -/
def CapTo (w : World) (b : Nat) (l : List Cav) : Prop := ∃ (n : Nat) (D : DataW Unit), w.ownsMap Try.prog 22 (plainElem Try.prog 22) b n D ∧ n ≤ l.length ∧
  (∀ k, (Lit.int .u64 k).wf = true → Maps.has D (.int .u64 k) = (capS l k).isSome) ∧ (∀ k m, (Lit.int .u64 k).wf = true → capS l k = some m → ∀ z, D.atKey (.int .u64 k) z = .lit (.int .u64 m)) ∧ Maps.size D = (keysN l).length

theorem capTo_made (w : World) : CapTo (w.alloc (.map #[] 0)) w.heap.size [] :=
  ⟨0, .map [], World.ownsMap_made _ _ _ _, Nat.le_refl _, fun k _ => by simp [Maps.has, capS], fun k m _ h => by simp [capS] at h, rfl⟩
theorem CapTo.lt {w : World} {b : Nat} {l : List Cav} (h : CapTo w b l) : b < w.heap.size := let ⟨_, _, h1, _⟩ := h; h1.lt
theorem CapTo.of_block {w w' : World} {b : Nat} {l : List Cav} (h : CapTo w b l) (hb : w'.heap[b]? = w.heap[b]?) : CapTo w' b l := by
  obtain ⟨n, D, ⟨es, clock, h1, h2⟩, h3⟩ := h
  exact ⟨n, D, ⟨es, clock, hb.trans h1, h2⟩, h3⟩
theorem CapTo.below {w w' : World} {b : Nat} {l : List Cav} (h : CapTo w b l) (hb : Below w.heap.size w w') : CapTo w' b l := h.of_block (hb.block b h.lt)
/-- A caveat that is no cap, or whose cap is no less than what is there. -/
theorem CapTo.skip {w : World} {b : Nat} {l : List Cav} (h : CapTo w b l) {c : Cav} (hc : c.Kind ≠ 4 ∨ ∃ m, capS l c.B = some m ∧ ¬ c.A < m) : CapTo w b (l ++ [c]) := by
  have e1 : ∀ k, capS (l ++ [c]) k = capS l k := fun k => by
    rw [capS_snoc]
    unfold capStep
    rcases hc with hc | ⟨m, hm, hlt⟩
    · rw [if_neg fun q => hc q.1]
    · split
      · rename_i q
        rw [← q.2, hm]
        simp [hlt]
      · rfl
  have e2 : keysN (l ++ [c]) = keysN l := by
    rw [keysN_snoc, if_neg]
    rintro ⟨k1, k2⟩
    rcases hc with hc | ⟨m, hm, _⟩
    · exact hc k1
    · exact k2 ((keysN_mem l c.B).2 (by rw [hm]; rfl))
  obtain ⟨n, D, h1, h2, h3, h4, h5⟩ := h
  exact ⟨n, D, h1, by simp; omega, fun k hk => by rw [e1]; exact h3 k hk, fun k m hk hm => h4 k m hk (by rw [← e1]; exact hm), by rw [e2]; exact h5⟩
theorem CapTo.put {w : World} {b : Nat} {l : List Cav} (h : CapTo w b l) {c : Cav} (hw : CavWf c) (hl : l.length < 1048576) (h4 : c.Kind = 4) (hc : capS l c.B = none ∨ ∃ m, capS l c.B = some m ∧ c.A < m) :
    ∃ w', (Instr.mapUpdate 45 (.map (some b)) (.int .u64 c.B) (.int .u64 c.A)).run Try.prog w = .ok () w' ∧ CapTo w' b (l ++ [c]) ∧ w.grownBy w' (some b) := by
  obtain ⟨n, D, hown, hn, hhas, hat, hsz⟩ := h
  obtain ⟨w', hrun, hown', hg⟩ := hown.update cvLaw Try.underlying45 (by unfold maxLen; omega) (Maps.keyOf_int_mk Try.underlying22 hw.b) (plainElem_int (a := c.A) Try.underlying22 hw.a)
  have hk : WideAt.IsKeyLit (.int .u64 c.B) := trivial
  have hsp := Maps.size_put (k := .int .u64 c.B) (hown.tidy cvLaw) (.lit (.int .u64 c.A))
  rw [hhas c.B hw.b] at hsp
  have e0 : capS (l ++ [c]) c.B = some c.A := by
    rw [capS_snoc]
    unfold capStep
    rw [if_pos ⟨h4, rfl⟩]
    rcases hc with hc | ⟨m, hm, hlt⟩
    · rw [hc]
    · rw [hm]; simp [hlt]
  have e1 : ∀ k, k ≠ c.B → capS (l ++ [c]) k = capS l k := fun k hne => by
    rw [capS_snoc]
    unfold capStep
    rw [if_neg fun q => hne q.2.symm]
  refine ⟨w', hrun, ⟨n + 1, _, hown', by simp; omega, fun k hkw => ?_, fun k m hkw hm z => ?_, ?_⟩, hg⟩
  · by_cases e : k = c.B
    · subst e
      rw [Maps.has_put_same hown.isMap hk, e0]
      rfl
    · rw [Maps.has_put_other (fun e2 => e (by injection e2)), hhas k hkw, e1 k e]
  · by_cases e : k = c.B
    · subst e
      rw [e0] at hm
      injection hm with hm
      subst hm
      rw [Maps.atKey_put_same hown.isMap hk]
    · rw [e1 k e] at hm
      rw [Maps.atKey_put_other (fun e2 => e (by injection e2))]
      exact hat k m hkw hm z
  · rw [hsp, hsz, keysN_snoc]
    by_cases hm : c.B ∈ keysN l
    · have e2 := (keysN_mem l c.B).1 hm
      simp [hm, e2]
    · have e2 : (capS l c.B).isSome = false := by
        rw [Bool.eq_false_iff]
        exact fun q => hm ((keysN_mem l c.B).2 q)
      simp only [e2, h4, hm]
      simp
theorem CapTo.len {w : World} {b : Nat} {l : List Cav} (h : CapTo w b l) (ty : TypeId) : (Builtin.len_ #[45] ty #[.map (some b)]).run Try.prog w = .ok (.int .i64 (keysN l).length) w := by
  obtain ⟨n, D, hown, hn, hhas, hat, hsz⟩ := h
  rw [hown.len Try.underlying45 ty, hsz]
theorem CapTo.look {w : World} {b : Nat} {l : List Cav} (h : CapTo w b l) {k : Int} (hk : (Lit.int .u64 k).wf = true) :
    (Instr.lookup 45 (.map (some b)) (.int .u64 k) true).run Try.prog w = .ok (.tuple #[.int .u64 ((capS l k).getD 0), .bool (capS l k).isSome]) w := by
  obtain ⟨n, D, hown, hn, hhas, hat, hsz⟩ := h
  obtain ⟨v, ps, hrun, hv⟩ := hown.look_ok cvLaw Try.underlying45 (cvZero w) (plainElem_int (a := 0) Try.underlying22 (by decide)) (Maps.keyOf_int_mk Try.underlying22 hk)
  obtain ⟨c, rfl, hc, hwc⟩ := plainElem_int_inv Try.underlying22 hv
  have hc' := congrArg Prod.fst hc
  simp only at hc'
  rw [hrun, hhas k hk]
  have : c = (capS l k).getD 0 := by
    cases hm : capS l k with
    | some m =>
      rw [hat k m hk hm] at hc'
      injection hc' with e
      injection e with e1 e2
      simpa using e2.symm
    | none =>
      have e := Maps.atKey_of_not_has (z := .lit (.int .u64 0)) (by rw [hhas k hk, hm]; rfl : Maps.has D (.int .u64 k) = false)
      rw [hc'] at e
      injection e with e
      injection e with e1 e2
  rw [this]

/-- What is told: a map of the caps, or none where there is none. -/
def CapMap (w : World) (base : Nat) (v : Value) (l : List Cav) : Prop := (v = .map none ∧ keysN l = []) ∨ ∃ b, v = .map (some b) ∧ base ≤ b ∧ CapTo w b l
theorem CapMap.below {w w' : World} {base : Nat} {v : Value} {l : List Cav} (h : CapMap w base v l) (hb : Below w.heap.size w w') : CapMap w' base v l := by
  rcases h with h | ⟨b, h1, h2, h3⟩
  · exact .inl h
  · exact .inr ⟨b, h1, h2, h3.below hb⟩
theorem CapMap.len {w : World} {base : Nat} {v : Value} {l : List Cav} (h : CapMap w base v l) (ty : TypeId) : (Builtin.len_ #[45] ty #[v]).run Try.prog w = .ok (.int .i64 (keysN l).length) w := by
  rcases h with ⟨rfl, h⟩ | ⟨b, rfl, _, h⟩
  · rw [h]
    exact Maps.len_nil Try.underlying45 ty
  · exact h.len ty
/-- The words of what Caps answers. -/
def CapsSpec : Prop := ∀ (A : Option Addr) (n c : Nat) (l : List Cav) (w : World), Sl lay_Caveat w (· < w.heap.size) A n c l →
  Calls Try.prog 21 #[.slice A n c] w fun e w' => ∃ v, e = .returned (.tuple #[v, .int .i64 (cpE l)]) ∧ CapMap w' w.heap.size v (cpL l) ∧ Below w.heap.size w w'
end Go.Proofs.Ytikfdfdancgnpaa
