/-
  Appends onto a slice that came in and has no room (a new row), and rows whose elements are made new one by one.
-/
import Derived.Test.YtajgjalcomhhcaaStd
namespace Go.Proofs.Ytajgjalcomhhcaa
open Go.RowKit Go.WalkArith

theorem run_growL {α : Type} {L : Lay α} {P : Program} (w : World) (t ty e : TypeId) (z : Value) (bytes : Nat) (ht : P.underlying t = some (.slice e))
    (hi : (P.info? e).map (fun i => (i.zero, i.size, i.bytes)) = some (some z, L.size, bytes)) (hzs : z.cells.size = L.size) (hsz : 0 < L.size) (A : Option Addr) (n : Nat) (xs : List α) (S : Nat → Prop) (y : α) (cy : Array Value) (g : Nat)
    (hx : Sl L w S A n n xs) (hg : w.heap[g]? = some (.cells cy e (0, 0))) (hy : L.rep w S y cy.toList) (hS : ∀ b, S b → b < w.heap.size)
    (hlen : (n + 1) * bytes ≤ 140737488355328) (h63 : n + 1 ≤ maxLen) :
    ∃ v' w', (Builtin.append_ #[t, t] ty #[.slice A n n, .slice (some ⟨g, 0, none⟩) 1 1]).run P w = .ok v' w' ∧ OwnL L w' w.heap.size none e v' (xs ++ [y]) ∧ Below w.heap.size w w' := by
  obtain ⟨i, hi, hz0, hz1, hz2⟩ := info_parts hi
  have fin : ∀ (olds : List Value) (v' : Value) (w' : World), RepRow L w S xs olds → w'.ownsRow w.heap.size e L.size v' (n + 1) (olds ++ cy.toList) → w.grownBy w' none → OwnL L w' w.heap.size none e v' (xs ++ [y]) ∧ Below w.heap.size w w' := by
    intro olds v' w' ho hr hgr
    have hb : Below w.heap.size w w' := ⟨hgr.os, hgr.tape, hgr.output, hgr.size, fun k hk => hgr.block k hk (by simp)⟩
    refine ⟨⟨olds ++ cy.toList, by rw [List.length_append, hx.len]; exact hr, ?_⟩, hb⟩
    refine ((ho.append (RepRow.single hy)).keep fun p hp => hb.cell (hS _ hp)).wide fun b hbS => ⟨trivial, Nat.lt_of_lt_of_le (hS b hbS) hb.size, fun he => ?_⟩
    have := (hr.lt b he.symm).1
    have := hS b hbS
    omega
  have hcy : ∀ j u, cy.toList[j]? = some u → w.cell? ((⟨g, 0, none⟩ : Addr).add j) = some u := fun j u hj => World.news_of_block hg j u hj
  have hlcy : cy.toList.length = 1 * L.size := by rw [L.len hy, Nat.one_mul]
  rcases A with _ | b
  · have hn : n = 0 := hx.no rfl
    subst hn
    have hxs : xs = [] := List.eq_nil_of_length_eq_zero hx.len
    subst hxs
    obtain ⟨v', w', hrun, r1, r2, _⟩ := run_append_own_at (P := P) w w.heap.size t ty e i z L.size bytes ht hi hz0 hz1 hz2 hzs hsz (.slice none 0 0) 0 [] (World.ownsRow_nil w _ e _) ⟨g, 0, none⟩ 1 1 cy.toList hlcy hcy (L.one hy) h63 hlen (Nat.le_refl _)
    exact ⟨v', w', hrun, fin [] v' w' rfl (by simpa using r1) (by simpa [Value.ownBlock] using r2)⟩
  · rcases Nat.eq_zero_or_pos n with h0 | h0
    · subst h0
      have hxs : xs = [] := List.eq_nil_of_length_eq_zero hx.len
      subst hxs
      obtain ⟨v', w', hrun, r1, r2⟩ := run_append_arg_grows (P := P) w t ty e i z L.size bytes ht hi hz0 hz1 hz2 hzs hsz b 0 0 [] (by simp) (by simp) ⟨g, 0, none⟩ 1 1 cy.toList hlcy hcy (by omega) h63 hlen
      exact ⟨v', w', hrun, fin [] v' w' rfl (by simpa using r1) r2⟩
    · obtain ⟨b', off, cs, e1, hb, hr, hc⟩ := hx.row h0
      injection e1 with e1
      subst e1
      obtain ⟨v', w', hrun, r1, r2⟩ := run_append_arg_grows (P := P) w t ty e i z L.size bytes ht hi hz0 hz1 hz2 hzs hsz ⟨b', off, none⟩ n n cs (by rw [hr.len, hx.len]) (fun j u hj => by rw [Addr.add_lit]; exact hc j u hj) ⟨g, 0, none⟩ 1 1 cy.toList hlcy hcy (by omega) h63 hlen
      exact ⟨v', w', hrun, fin cs v' w' hr r1 r2⟩

theorem step_growL {α : Type} {L : Lay α} {P : Program} {w : World} {ops : Array Oper} {o : Oper} {a : Act} {K : Act → World → Prop} {Q : Exit → Act → World → Prop} {E : Prop} (hgd : o.guard = none) (s x : Operand) (t : TypeId)
    (ho : o.op = .call { callee := .builtin .append, args := #[s, x], argTypes := #[t, t] }) (e : TypeId) (z : Value) (bytes : Nat) (ht : P.underlying t = some (.slice e))
    (hi : (P.info? e).map (fun i => (i.zero, i.size, i.bytes)) = some (some z, L.size, bytes)) (hzs : z.cells.size = L.size) (hsz : 0 < L.size) (A : Option Addr) (n : Nat) (xs : List α) (S : Nat → Prop) (y : α) (cy : Array Value) (g : Nat)
    (hs : a.eval s = .slice A n n) (hxx : a.eval x = .slice (some ⟨g, 0, none⟩) 1 1)
    (hx : Sl L w S A n n xs) (hg : w.heap[g]? = some (.cells cy e (0, 0))) (hy : L.rep w S y cy.toList) (hS : ∀ b, S b → b < w.heap.size)
    (hlen : (n + 1) * bytes ≤ 140737488355328) (h63 : n + 1 ≤ maxLen)
    (h : ∀ v' w', OwnL L w' w.heap.size none e v' (xs ++ [y]) → Below w.heap.size w w' → K (a.put o.dst v') w') : if Region.wanted o (yielded ops a.tmps) = true then Oper.wp P o a w K Q else E := by
  rw [if_pos (by simp [Region.wanted, hgd])]
  obtain ⟨v', w', hrun, h2, h3⟩ := run_growL (P := P) w t o.type e z bytes ht hi hzs hsz A n xs S y cy g hx hg hy hS hlen h63
  unfold Oper.wp execOp
  simp only [ho, resolve, invoke, builtin, Sem.run_bind, Sem.run_pure, Result.andThen_ok, List.map_toArray, List.map_cons, List.map_nil, hs, hxx, hrun]
  exact h v' w' h2 h3

/-- An owned row: what xs's elements reach is new, what ys's reach may be anything. -/
def OwnM {α : Type} (L : Lay α) (w : World) (base lo : Nat) (e : TypeId) (v : Value) (xs ys : List α) : Prop :=
  ∃ cs1 cs2, w.ownsRow base e L.size v (xs.length + ys.length) (cs1 ++ cs2) ∧ RepRow L w (Els w (some lo) v) xs cs1 ∧ RepRow L w (Els w none v) ys cs2

section
variable {α : Type} {L : Lay α} {w w' : World} {base lo : Nat} {e : TypeId} {v : Value} {xs ys : List α} {y : α}
theorem OwnL.toM (h : OwnL L w base none e v xs) (lo : Nat) : OwnM L w base lo e v [] xs := by
  obtain ⟨cs, h1, h2⟩ := h
  exact ⟨[], cs, by simpa using h1, rfl, h2⟩
theorem OwnM.toL (h : OwnM L w base lo e v xs []) : OwnL L w base (some lo) e v xs := by
  obtain ⟨cs1, cs2, h1, h2, h3⟩ := h
  simp [RepRow] at h3
  subst h3
  exact ⟨cs1, by simpa using h1, h2⟩
theorem OwnM.loose (h : OwnM L w base lo e v xs ys) : OwnL L w base none e v (xs ++ ys) := by
  obtain ⟨cs1, cs2, h1, h2, h3⟩ := h
  exact ⟨cs1 ++ cs2, by rw [List.length_append]; exact h1, (h2.wide fun b hb => ⟨trivial, hb.2⟩).append h3⟩
theorem owns_keep {n sz : Nat} {cs : List Value} (h : w.ownsRow base e sz v n cs) (hb : Below w.heap.size w w') : w'.ownsRow base e sz v n cs := by
  refine ⟨h.1, ?_⟩
  rcases h.2 with h0 | ⟨g, cap, cur, rfl, hbg, hg, r⟩
  · exact .inl h0
  · exact .inr ⟨g, cap, cur, rfl, hbg, by rw [hb.block g (Array.getElem?_eq_some_iff.1 hg).1]; exact hg, r⟩
theorem Els.keep {lo : Option Nat} (hb : Below w.heap.size w w') {b : Nat} (h : Els w lo v b) : Els w' lo v b := ⟨h.1.of_block (hb.block b h.2.1), Nat.lt_of_lt_of_le h.2.1 hb.size, h.2.2⟩
theorem OwnM.keep (h : OwnM L w base lo e v xs ys) (hb : Below w.heap.size w w') : OwnM L w' base lo e v xs ys := by
  obtain ⟨cs1, cs2, h1, h2, h3⟩ := h
  exact ⟨cs1, cs2, owns_keep h1 hb, (h2.keep fun p hp => hb.cell hp.2.1).wide fun b => Els.keep hb, (h3.keep fun p hp => hb.cell hp.2.1).wide fun b => Els.keep hb⟩
/-- The next one: where it lies, and that it may be written; and what has been written so is new. -/
theorem OwnM.next (h : OwnM L w base lo e v xs (y :: ys)) : ∃ g cap, v = .slice (some ⟨g, 0, none⟩) (xs.length + (ys.length + 1)) cap ∧ base ≤ g ∧ g < w.heap.size ∧ (xs.length + (ys.length + 1) ≤ cap ∧ cap ≤ maxLen) ∧ (∀ j, w.frozen? ⟨g, j, none⟩ = false) ∧
    ∃ c, L.rep w (Els w none v) y c ∧ (∀ i u, c[i]? = some u → w.cell? ⟨g, xs.length * L.size + i, none⟩ = some u) ∧
      ∀ (w' : World) (i : Nat) (u : Value) (y' : α), i < L.size → Below w.heap.size w w' → L.rep w' (Els w' (some lo) v) y' (c.set i u) → OwnM L (w'.setCell ⟨g, xs.length * L.size + i, none⟩ u) base lo e v (xs ++ [y']) ys := by
  obtain ⟨cs1, cs2, h1, h2, h3⟩ := h
  obtain ⟨c, c2, rfl, h4, h5⟩ := h3
  rcases h1.2 with ⟨_, h0⟩ | ⟨g, cap, cur, hv, hbg, hg, hnc, hcm, hcs, htake⟩
  · simp at h0
  · have hl1 := h2.len
    have hlc := L.len h4
    have hgl : g < w.heap.size := (Array.getElem?_eq_some_iff.1 hg).1
    subst hv
    refine ⟨g, cap, by simp, hbg, hgl, ⟨by simpa using hnc, hcm⟩, fun j => h1.frozenAt j, c, h4, fun i u hu => ?_, fun w' i u y' hi hb hrep => ?_⟩
    · have hil : i < c.length := (List.getElem?_eq_some_iff.1 hu).1
      have := h1.cells (g := g) rfl (xs.length * L.size + i) u (by
        rw [List.getElem?_append_right (by omega), hl1, Nat.add_sub_cancel_left, List.getElem?_append_left hil, hu])
      rw [Addr.add_lit, Nat.zero_add] at this
      exact this
    · have hK : ∀ {lo' : Option Nat} {b : Nat}, Els w' lo' (.slice (some ⟨g, 0, none⟩) (xs.length + (y :: ys).length) cap) b → Els (w'.setCell ⟨g, xs.length * L.size + i, none⟩ u) lo' (.slice (some ⟨g, 0, none⟩) (xs.length + (y :: ys).length) cap) b := fun {lo'} {b} hb' => by
        have hne : b ≠ g := fun he => hb'.2.2 (by rw [he]; rfl)
        exact ⟨hb'.1.of_block (Below.heap_setCell _ _ _ _ hne), by simpa using hb'.2.1, hb'.2.2⟩
      have hC : ∀ {lo' : Option Nat} (p : Addr), Els w' lo' (.slice (some ⟨g, 0, none⟩) (xs.length + (y :: ys).length) cap) p.block → (w'.setCell ⟨g, xs.length * L.size + i, none⟩ u).cell? p = w'.cell? p := fun {lo'} p hp => by
        have hne : p.block ≠ g := fun he => hp.2.2 (by rw [he]; rfl)
        exact World.cell?_of_block (Below.heap_setCell _ _ _ _ hne)
      have hst := (owns_keep h1 hb).stored (xs.length * L.size + i) u
      refine ⟨cs1 ++ c.set i u, c2, ?_, ?_, ?_⟩
      · have e1 : (cs1 ++ (c ++ c2)).set (xs.length * L.size + i) u = cs1 ++ c.set i u ++ c2 := by
          rw [List.set_append, if_neg (by omega), hl1, Nat.add_sub_cancel_left, List.set_append, if_pos (by omega), List.append_assoc]
        rw [e1] at hst
        have e2 : (xs ++ [y']).length + ys.length = xs.length + (y :: ys).length := by simp; omega
        rw [e2]
        exact hst.1
      · exact (((h2.keep fun p hp => hb.cell hp.2.1).wide fun b => Els.keep hb).append (RepRow.single hrep)).keep (fun p hp => hC p hp) |>.wide fun b hb' => hK hb'
      · exact ((h5.keep fun p hp => hb.cell hp.2.1).wide fun b => Els.keep hb).keep (fun p hp => hC p hp) |>.wide fun b hb' => hK hb'
end
end Go.Proofs.Ytajgjalcomhhcaa
