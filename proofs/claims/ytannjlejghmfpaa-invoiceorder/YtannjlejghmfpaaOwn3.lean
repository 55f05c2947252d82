/-
  Owned slices, and what is read of them, where a block below is written; texts as elements.
-/
import Derived.Test.YtannjlejghmfpaaStep
import Derived.Test.YtannjlejghmfpaaRows
namespace Go.Proofs.Ytannjlejghmfpaa
open Go.RowKit Go.WalkArith

/-- What is reached from blocks above b is not touched by writing block b. -/
theorem Sl.setLow {α : Type} {L : Lay α} {w : World} {l b : Nat} {A : Option Addr} {n c : Nat} {xs : List α} (h : Sl L w (From w l) A n c xs) (hb : b < l) (i : Nat) (u : Value) : Sl L (w.setCell ⟨b, i, none⟩ u) (From (w.setCell ⟨b, i, none⟩ u) l) A n c xs := by
  have hne : ∀ k, From w l k → k ≠ b := fun k hk e => by have := hk.1; omega
  refine (h.keep fun p hp => World.cell?_of_block (Below.heap_setCell _ _ _ _ (hne _ hp))).wide fun k hk => ⟨hk.1, by simpa using hk.2.1, hk.2.2.of_block (Below.heap_setCell _ _ _ _ (hne k hk))⟩
theorem Sl.drewF {α : Type} {L : Lay α} {w : World} {l : Nat} {A : Option Addr} {n c : Nat} {xs : List α} (h : Sl L w (From w l) A n c xs) (k : Nat) : Sl L (w.drewN k) (From (w.drewN k) l) A n c xs := (h.keep (w' := w.drewN k) fun _ _ => rfl).wide fun _ hb => hb
theorem Sl.low {α : Type} {L : Lay α} {w : World} {l l' : Nat} {A : Option Addr} {n c : Nat} {xs : List α} (h : Sl L w (From w l) A n c xs) (hl : l' ≤ l) : Sl L w (From w l') A n c xs := h.wide fun _ hb => hb.le hl
/-- A text, laid. -/
abbrev lay_Txt : Lay (List Int) := Lay.slice (Lay.int .u8)
theorem OwnL.setLow {α : Type} {L : Lay α} {w : World} {base lo b : Nat} {e : TypeId} {v : Value} {xs : List α} (h : OwnL L w base (some lo) e v xs) (hb : b < base) (hl : b < lo) (i : Nat) (u : Value) : OwnL L (w.setCell ⟨b, i, none⟩ u) base (some lo) e v xs := by
  obtain ⟨cs, h1, h2⟩ := h
  have hne : ∀ k, Els w (some lo) v k → k ≠ b := fun k hk e => by have := hk.1.1; omega
  exact ⟨cs, ownsRow_setCell_below h1 hb u, (h2.keep fun p hp => World.cell?_of_block (Below.heap_setCell _ _ _ _ (hne _ hp))).wide fun k hk => ⟨hk.1.of_block (Below.heap_setCell _ _ _ _ (hne k hk)), by simpa using hk.2.1, hk.2.2⟩⟩
theorem OwnL.lows {α : Type} {L : Lay α} {w : World} {base lo base' lo' : Nat} {e : TypeId} {v : Value} {xs : List α} (h : OwnL L w base (some lo) e v xs) (hb : base' ≤ base) (hl : lo' ≤ lo) : OwnL L w base' (some lo') e v xs := by
  obtain ⟨cs, h1, h2⟩ := h.low hb
  exact ⟨cs, h1, h2.wide fun b hb' => ⟨⟨Nat.le_trans hl hb'.1.1, hb'.1.2⟩, hb'.2⟩⟩

/-! ### Appends of laid elements at a step of a region that draws its order, under whatever test that says yes -/
theorem step_catL {α : Type} {L : Lay α} {P : Program} {w : World} {ops : Array Oper} {o : Oper} {a : Act} {K : Act → World → Prop} {Q : Exit → Act → World → Prop} {E : Prop} (hgd : Region.wanted o (yielded ops a.tmps) = true) (s x : Operand) (t : TypeId)
    (ho : o.op = .call { callee := .builtin .append, args := #[s, x], argTypes := #[t, t] }) (base : Nat) (lo : Option Nat) (e : TypeId) (z : Value) (bytes : Nat) (ht : P.underlying t = some (.slice e))
    (hi : (P.info? e).map (fun i => (i.zero, i.size, i.bytes)) = some (some z, L.size, bytes)) (hzs : z.cells.size = L.size) (hsz : 0 < L.size) (v : Value) (xs ys : List α) (S : Nat → Prop) (A : Option Addr) (m c : Nat)
    (hs : a.eval s = v) (hxx : a.eval x = .slice A m c)
    (hown : OwnL L w base lo e v xs) (hy : Sl L w S A m c ys) (hS : ∀ b, S b → Els w lo v b) (hbase : base ≤ w.heap.size)
    (hlen : (xs.length + m) * bytes ≤ 140737488355328) (h63 : xs.length + m ≤ maxLen)
    (h : ∀ v' w', OwnL L w' base lo e v' (xs ++ ys) → Ext w w' v v' → K (a.put o.dst v') w') : if Region.wanted o (yielded ops a.tmps) = true then Oper.wp P o a w K Q else E := by
  rw [if_pos hgd]
  obtain ⟨v', w', hrun, h2, h3⟩ := run_catL (P := P) w base lo t o.type e z bytes ht hi hzs hsz v xs ys S A m c hown hy hS hbase hlen h63
  unfold Oper.wp execOp
  simp only [ho, resolve, invoke, builtin, Sem.run_bind, Sem.run_pure, Result.andThen_ok, List.map_toArray, List.map_cons, List.map_nil, hs, hxx, hrun]
  exact h v' w' h2 h3
/-- The element lies in a block g of its own already. -/
theorem step_pushW {α : Type} {L : Lay α} {P : Program} {w : World} {ops : Array Oper} {o : Oper} {a : Act} {K : Act → World → Prop} {Q : Exit → Act → World → Prop} {E : Prop} (hgd : Region.wanted o (yielded ops a.tmps) = true) (s x : Operand) (t : TypeId)
    (ho : o.op = .call { callee := .builtin .append, args := #[s, x], argTypes := #[t, t] }) (base : Nat) (lo : Option Nat) (e : TypeId) (z : Value) (bytes : Nat) (ht : P.underlying t = some (.slice e))
    (hi : (P.info? e).map (fun i => (i.zero, i.size, i.bytes)) = some (some z, L.size, bytes)) (hzs : z.cells.size = L.size) (hsz : 0 < L.size) (v : Value) (xs : List α) (y : α) (cy : Array Value) (S : Nat → Prop) (g : Nat)
    (hs : a.eval s = v) (hxx : a.eval x = .slice (some ⟨g, 0, none⟩) 1 1) (hg : w.heap[g]? = some (.cells cy e (0, 0)))
    (hown : OwnL L w base lo e v xs) (hy : L.rep w S y cy.toList) (hS : ∀ b, S b → Els w lo v b) (hbase : base ≤ w.heap.size)
    (hlen : (xs.length + 1) * bytes ≤ 140737488355328) (h63 : xs.length + 1 ≤ maxLen)
    (h : ∀ v' w', OwnL L w' base lo e v' (xs ++ [y]) → Ext w w' v v' → K (a.put o.dst v') w') : if Region.wanted o (yielded ops a.tmps) = true then Oper.wp P o a w K Q else E := by
  rw [if_pos hgd]
  obtain ⟨v', w', hrun, h2, h3⟩ := run_appL (P := P) w base lo t o.type e z bytes ht hi hzs hsz v xs [y] cy.toList ⟨g, 0, none⟩ 1 1 hown (RepRow.single (L.wide hy hS)) rfl (World.news_of_block hg) hbase hlen h63
  unfold Oper.wp execOp
  simp only [ho, resolve, invoke, builtin, Sem.run_bind, Sem.run_pure, Result.andThen_ok, List.map_toArray, List.map_cons, List.map_nil, hs, hxx, hrun]
  exact h v' w' h2 h3
end Go.Proofs.Ytannjlejghmfpaa
