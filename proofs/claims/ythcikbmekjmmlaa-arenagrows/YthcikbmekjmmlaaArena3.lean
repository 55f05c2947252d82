/-
  The contracts of package arena's with, Root, and Next.
-/
import Derived.Test.YthcikbmekjmmlaaArena2
import Derived.Test.YthcikbmekjmmlaaArenaRef4
import Derived.Laws.OwnMore
namespace Go.Proofs.Ythcikbmekjmmlaa
open Go.RowKit Go.WalkArith

theorem OwnL.lit0 {α : Type} (L : Lay α) (w : World) (e : TypeId) (lo : Option Nat) : OwnL L (w.alloc (.cells #[] e)) w.heap.size lo e (.slice (some ⟨w.heap.size, 0, none⟩) 0 0) [] :=
  ⟨[], World.ownsRow_lit w #[] 0 (Nat.le_refl _) (Nat.zero_le _) (by simp), rfl⟩

set_option maxHeartbeats 1000000 in
/-- slices.Clone, of terms. -/
theorem cloneT_any (A : Option Addr) (n c : Nat) (l : List Trm) (w : World) (h : Sl lay_Term w (· < w.heap.size) A n c l) (hn : n ≤ 1048576) :
    Calls Try.prog 40 #[.slice A n c] w fun e w' => ∃ v', e = .returned v' ∧ OwnL lay_Term w' w.heap.size none 39 v' l ∧ Below w.heap.size w w' := by
  have hnil := fun W => run_is_nil (P := Try.prog) W 22 39 A n c Try.underlying22
  cases A with
  | none =>
    have hc := h.no rfl
    have hn0 : n = 0 := by have := h.cap; omega
    subst hc hn0
    have hx : l = [] := List.eq_nil_of_length_eq_zero h.len
    subst hx
    go_enter Try.func40, Try.ntmps40
    go_wp2
    go_ret
    exact ⟨_, rfl, OwnL.nil _ _ _ _ _, Below.refl _ _⟩
  | some a =>
    have hb0 : Below w.heap.size w (w.alloc (Obj.cells #[] 39)) := bel_alloc (Below.refl _ _) _
    have HS := hid (h.keep fun _ hp => hb0.cell hp)
    go_enter Try.func40, Try.ntmps40
    go_wp2_with (at_builtin; go_must (refine wpList_catL rfl _ _ 22 rfl w.heap.size none 39 _ 40 Try.underlying22 Try.infoTerm rfl (by decide) (.slice (some ⟨w.heap.size, 0, none⟩) 0 0) [] l (· < w.heap.size) (some a) n c rfl rfl (OwnL.lit0 lay_Term _ _ none) HS.out (fun b hb => ⟨trivial, Nat.lt_of_lt_of_le hb hb0.size, fun he => by simp [Value.ownBlock] at he; omega⟩) (by simp) (by simp; omega) (by unfold maxLen; simp; omega) ?_; intro v3 w3 hown3 hext3))
    go_ret
    simp only [List.nil_append] at hown3
    exact ⟨_, rfl, hown3, hb0.trans ((OwnL.lit0 lay_Term w _ none).below hext3 (by simp))⟩

/-- An owned slice whose elements up to a place reach new blocks alone. -/
def Mix {α : Type} (L : Lay α) (w : World) (base lo : Nat) (e : TypeId) (g n cap : Nat) (xs : List α) (j : Nat) : Prop :=
  ∃ cs ds, w.ownsRow base e L.size (.slice (some ⟨g, 0, none⟩) n cap) n (cs ++ ds) ∧ xs.length = n ∧ RepRow L w (Els w (some lo) (.slice (some ⟨g, 0, none⟩) n cap)) (xs.take j) cs ∧ RepRow L w (Els w none (.slice (some ⟨g, 0, none⟩) n cap)) (xs.drop j) ds

section
variable {α : Type} {L : Lay α} {w w' : World} {base lo : Nat} {e : TypeId} {g n cap : Nat} {xs : List α} {j : Nat}
theorem OwnL.mix (h : OwnL L w base none e (.slice (some ⟨g, 0, none⟩) n cap) xs) (lo : Nat) : Mix L w base lo e g n cap xs 0 := by
  obtain ⟨cs, h1, h2⟩ := h
  have hl : xs.length = n := by
    rcases h1.2 with ⟨h', _⟩ | ⟨g', cap', cur, h', _⟩
    · simp at h'
    · simp only [Value.slice.injEq] at h'; exact h'.2.1.symm
  subst hl
  exact ⟨[], cs, h1, rfl, rfl, h2⟩
theorem Mix.own (h : Mix L w base lo e g n cap xs n) : OwnL L w base (some lo) e (.slice (some ⟨g, 0, none⟩) n cap) xs := by
  obtain ⟨cs, ds, h1, h2, h3, h4⟩ := h
  subst h2
  rw [List.take_of_length_le (Nat.le_refl _)] at h3
  rw [List.drop_of_length_le (Nat.le_refl _)] at h4
  simp [RepRow] at h4
  subst h4
  exact ⟨cs, by simpa using h1, h3⟩
theorem Mix.lt (h : Mix L w base lo e g n cap xs j) : base ≤ g ∧ g < w.heap.size := by
  obtain ⟨cs, ds, h1, _⟩ := h
  exact h1.lt g rfl
theorem Els.keepB {lo : Option Nat} {v : Value} {b : Nat} (h : Els w lo v b) (hb : Below w.heap.size w w') : Els w' lo v b := ⟨h.1.of_block (hb.block b h.2.1), Nat.lt_of_lt_of_le h.2.1 hb.size, h.2.2⟩
theorem Mix.keep (h : Mix L w base lo e g n cap xs j) (hb : Below w.heap.size w w') : Mix L w' base lo e g n cap xs j := by
  obtain ⟨cs, ds, h1, h2, h3, h4⟩ := h
  refine ⟨cs, ds, ?_, h2, (h3.keep fun p hp => hb.cell hp.2.1).wide fun b hb' => hb'.keepB hb, (h4.keep fun p hp => hb.cell hp.2.1).wide fun b hb' => hb'.keepB hb⟩
  refine ⟨h1.1, ?_⟩
  rcases h1.2 with h0 | ⟨g, cap, cur, h5, hbg, hg, r⟩
  · exact .inl h0
  · exact .inr ⟨g, cap, cur, h5, hbg, by rw [hb.block g (Array.getElem?_eq_some_iff.1 hg).1]; exact hg, r⟩
theorem Els.keepC {lo : Option Nat} {v : Value} {b g i : Nat} {u : Value} (h : Els w lo v b) (hg : v.ownBlock = some g) : Els (w.setCell ⟨g, i, none⟩ u) lo v b := by
  have hne : b ≠ g := fun e => h.2.2 (by rw [hg, e])
  exact ⟨h.1.of_block (Below.heap_setCell _ _ _ _ hne), by simpa using h.2.1, h.2.2⟩
theorem RepRow.keepC {lo : Option Nat} {v : Value} {g i : Nat} {u : Value} {ys : List α} {cs : List Value} (h : RepRow L w (Els w lo v) ys cs) (hg : v.ownBlock = some g) : RepRow L (w.setCell ⟨g, i, none⟩ u) (Els (w.setCell ⟨g, i, none⟩ u) lo v) ys cs :=
  (h.keep fun p hp => World.cell?_of_block (Below.heap_setCell _ _ _ _ fun e => hp.2.2 (by rw [hg]; exact congrArg some e))).wide fun b hb => hb.keepC hg
end
section
variable {w : World} {base lo : Nat} {e : TypeId} {g n cap : Nat} {xs : List Trm} {j : Nat}
theorem Mix.term (h : Mix lay_Term w base lo e g n cap xs j) (hj : j < n) : ∃ A' n' c', ∃ hx : j < xs.length, w.cell? ⟨g, j * 3, none⟩ = some (.int .u64 xs[j].Key) ∧ w.cell? ⟨g, j * 3 + 1, none⟩ = some (.int .i64 xs[j].Up) ∧ w.cell? ⟨g, j * 3 + 2, none⟩ = some (.slice A' n' c') ∧ (Lit.int .u64 xs[j].Key).wf = true ∧ (Lit.int .i64 xs[j].Up).wf = true ∧ Sl (Lay.int .u8) w (· < w.heap.size) A' n' c' xs[j].Text ∧ w.frozen? ⟨g, j * 3 + 2, none⟩ = false := by
  obtain ⟨cs, ds, h1, h2, h3, h4⟩ := h
  have hx : j < xs.length := by omega
  rw [List.drop_eq_getElem_cons hx] at h4
  obtain ⟨c1, c2, rfl, h5, h6⟩ := h4
  obtain ⟨A', n', c', rfl, k1, k2, k3⟩ := rep_Term.1 h5
  have hcl := h3.len
  rw [List.length_take, Nat.min_eq_left (by omega), size_Term] at hcl
  have hat : ∀ i, i < 3 → w.cell? ⟨g, j * 3 + i, none⟩ = [Value.int .u64 xs[j].Key, .int .i64 xs[j].Up, .slice A' n' c'][i]? := fun i hi => by
    rw [h1.cellAt (j * 3 + i) (by rw [size_Term]; omega), List.getElem?_append_right (by omega), hcl, Nat.add_sub_cancel_left, List.getElem?_append_left (by simpa using hi)]
  exact ⟨A', n', c', hx, hat 0 (by omega), hat 1 (by omega), hat 2 (by omega), k1, k2, k3.wide fun b hb => hb.2.1, h1.frozenAt _⟩
theorem Mix.step (h : Mix lay_Term w base lo e g n cap xs j) (hj : j < n) (hx : j < xs.length) {A' : Option Addr} {n' c' : Nat} {lo' : Nat} (hs : Sl (Lay.int .u8) w (From w lo') A' n' c' xs[j].Text) (hl : lo ≤ lo') (hg : g < lo') : Mix lay_Term (w.setCell ⟨g, j * 3 + 2, none⟩ (.slice A' n' c')) base lo e g n cap xs (j + 1) := by
  obtain ⟨cs, ds, h1, h2, h3, h4⟩ := h
  rw [List.drop_eq_getElem_cons hx] at h4
  obtain ⟨c1, c2, rfl, h5, h6⟩ := h4
  obtain ⟨A0, n0, c0, rfl, k1, k2, k3⟩ := rep_Term.1 h5
  have hcl := h3.len
  rw [List.length_take, Nat.min_eq_left (by omega), size_Term] at hcl
  refine ⟨cs ++ [.int .u64 xs[j].Key, .int .i64 xs[j].Up, .slice A' n' c'], c2, ?_, h2, ?_, h6.keepC rfl⟩
  · have := (h1.stored (j * 3 + 2) (.slice A' n' c')).1
    rw [List.set_append_right _ _ (by omega), hcl, Nat.add_sub_cancel_left] at this
    simpa using this
  · rw [List.take_succ_eq_append_getElem hx]
    refine (h3.keepC rfl).append (RepRow.single (rep_Term.2 ⟨A', n', c', rfl, k1, k2, ?_⟩))
    refine (hs.keep fun p hp => World.cell?_of_block (Below.heap_setCell _ _ _ _ fun e => ?_)).wide fun b hb => ?_
    · have := hp.1
      simp at e
      omega
    · have hne : b ≠ g := fun e => by have := hb.1; omega
      exact ⟨⟨Nat.le_trans hl hb.1, hb.2.2.of_block (Below.heap_setCell _ _ _ _ hne)⟩, by simpa using hb.2.1, fun e => hne (by simpa [Value.ownBlock] using e)⟩
/-- The like, nil let in. -/
def MixV {α : Type} (L : Lay α) (w : World) (base lo : Nat) (e : TypeId) (A : Option Addr) (n c : Nat) (xs : List α) (j : Nat) : Prop :=
  (A = none ∧ n = 0 ∧ c = 0 ∧ xs = []) ∨ ∃ g, A = some ⟨g, 0, none⟩ ∧ Mix L w base lo e g n c xs j
theorem OwnL.mixV {α : Type} {L : Lay α} {A : Option Addr} {n c : Nat} {xs : List α} (h : OwnL L w base none e (.slice A n c) xs) (lo : Nat) : MixV L w base lo e A n c xs 0 := by
  have h0 := h
  obtain ⟨cs, h1, h2⟩ := h
  rcases h1.2 with ⟨h', hx⟩ | ⟨g, cap, cur, h', _⟩
  · simp only [Value.slice.injEq] at h'
    exact .inl ⟨h'.1, h'.2.1, h'.2.2, List.eq_nil_of_length_eq_zero hx⟩
  · simp only [Value.slice.injEq] at h'
    obtain ⟨rfl, rfl, rfl⟩ := h'
    exact .inr ⟨g, rfl, h0.mix lo⟩
theorem MixV.own {α : Type} {L : Lay α} {A : Option Addr} {n c : Nat} {xs : List α} (h : MixV L w base lo e A n c xs n) : OwnL L w base (some lo) e (.slice A n c) xs := by
  rcases h with ⟨rfl, rfl, rfl, rfl⟩ | ⟨g, rfl, h⟩
  · exact OwnL.nil _ _ _ _ _
  · exact h.own
end
end Go.Proofs.Ythcikbmekjmmlaa
