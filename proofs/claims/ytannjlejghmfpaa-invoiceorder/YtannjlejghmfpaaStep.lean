/-
  Appends at a step of a region that draws its order.
-/
import Derived.Test.YtannjlejghmfpaaLay
import Derived.Deep.AppendLies
namespace Go.Proofs.Ytannjlejghmfpaa
open Go.RowKit Go.WalkArith

theorem step_cat {P : Program} {w : World} {ops : Array Oper} {o : Oper} {a : Act} {K : Act → World → Prop} {Q : Exit → Act → World → Prop} {E : Prop} (hgd : o.guard = none) (s x : Operand) (t : TypeId)
    (ho : o.op = .call { callee := .builtin .append, args := #[s, x], argTypes := #[t, t] }) (base : Nat) (e : TypeId) (k : IntKind) (bytes : Nat) (ht : P.underlying t = some (.slice e))
    (hi : (P.info? e).map (fun i => (i.zero, i.size, i.bytes)) = some (some (.int k 0), 1, bytes)) (v : Value) (xs : List Int) (B : Nat) (A : Option Addr) (n c : Nat) (ys : List Int)
    (hs : a.eval s = v) (hxx : a.eval x = .slice A n c)
    (hown : Own w base e k v xs) (hr : Rd w B k A n c ys) (hbase : base ≤ w.heap.size) (hlen : (xs.length + n) * bytes ≤ 140737488355328) (h63 : xs.length + n < 140737488355328)
    (h : ∀ v' w', Own w' base e k v' (xs ++ ys) → Ext w w' v v' → K (a.put o.dst v') w') : if Region.wanted o (yielded ops a.tmps) = true then Oper.wp P o a w K Q else E := by
  rw [if_pos (by simp [Region.wanted, hgd])]
  obtain ⟨v', w', hrun, h2, h3⟩ := run_cat (P := P) w base t o.type e k bytes ht hi v xs B A n c ys hown hr hbase hlen h63
  unfold Oper.wp execOp
  simp only [ho, resolve, invoke, builtin, Sem.run_bind, Sem.run_pure, Result.andThen_ok, List.map_toArray, List.map_cons, List.map_nil, hs, hxx, hrun]
  exact h v' w' h2 h3

/-- x lies in the block that was the newest of w's; W has come of w by that block, and by draws or more. -/
theorem step_pushL {α : Type} {L : Lay α} {P : Program} {w W : World} {ops : Array Oper} {o : Oper} {a : Act} {K : Act → World → Prop} {Q : Exit → Act → World → Prop} {E : Prop} (hgd : o.guard = none) (s x : Operand) (t : TypeId)
    (ho : o.op = .call { callee := .builtin .append, args := #[s, x], argTypes := #[t, t] }) (base : Nat) (lo : Option Nat) (e : TypeId) (z : Value) (bytes : Nat) (ht : P.underlying t = some (.slice e))
    (hi : (P.info? e).map (fun i => (i.zero, i.size, i.bytes)) = some (some z, L.size, bytes)) (hzs : z.cells.size = L.size) (hsz : 0 < L.size) (v : Value) (xs : List α) (y : α) (cy : Array Value) (S : Nat → Prop) (g : Nat)
    (hs : a.eval s = v) (hxx : a.eval x = .slice (some ⟨g, 0, none⟩) 1 1) (hW : Below w.heap.size w W) (hg : W.heap[g]? = some (.cells cy e (0, 0)))
    (hown : OwnL L w base lo e v xs) (hy : L.rep w S y cy.toList) (hS : ∀ b, S b → Els w lo v b) (hbase : base ≤ w.heap.size)
    (hlen : (xs.length + 1) * bytes ≤ 140737488355328) (h63 : xs.length + 1 ≤ maxLen)
    (h : ∀ v' w', OwnL L w' base lo e v' (xs ++ [y]) → Ext W w' v v' → K (a.put o.dst v') w') : if Region.wanted o (yielded ops a.tmps) = true then Oper.wp P o a W K Q else E := by
  rw [if_pos (by simp [Region.wanted, hgd])]
  have hk : L.rep W (Els W lo v) y cy.toList := L.wide (L.keep (L.wide hy hS) fun p hp => hW.cell hp.2.1) fun b hb' => ⟨hb'.1.of_block (hW.block b hb'.2.1), Nat.lt_of_lt_of_le hb'.2.1 hW.size, hb'.2.2⟩
  obtain ⟨v', w', hrun, h2, h3⟩ := run_appL (P := P) W base lo t o.type e z bytes ht hi hzs hsz v xs [y] cy.toList ⟨g, 0, none⟩ 1 1 (hown.keep hW) (RepRow.single hk) rfl (World.news_of_block hg) (Nat.le_trans hbase hW.size) hlen h63
  unfold Oper.wp execOp
  simp only [ho, resolve, invoke, builtin, Sem.run_bind, Sem.run_pure, Result.andThen_ok, List.map_toArray, List.map_cons, List.map_nil, hs, hxx, hrun]
  exact h v' w' h2 h3
theorem wpList_pushG {α : Type} {L : Lay α} {P : Program} {w W : World} {ops : Array Oper} {rest : List Oper} {o : Oper} {a : Act} {Q : Exit → Act → World → Prop} (hgd : Region.wanted o (yielded ops a.tmps) = true) (s x : Operand) (t : TypeId)
    (ho : o.op = .call { callee := .builtin .append, args := #[s, x], argTypes := #[t, t] }) (base : Nat) (lo : Option Nat) (e : TypeId) (z : Value) (bytes : Nat) (ht : P.underlying t = some (.slice e))
    (hi : (P.info? e).map (fun i => (i.zero, i.size, i.bytes)) = some (some z, L.size, bytes)) (hzs : z.cells.size = L.size) (hsz : 0 < L.size) (v : Value) (xs : List α) (y : α) (cy : Array Value) (S : Nat → Prop) (g : Nat)
    (hs : a.eval s = v) (hxx : a.eval x = .slice (some ⟨g, 0, none⟩) 1 1) (hW : Below w.heap.size w W) (hg : W.heap[g]? = some (.cells cy e (0, 0)))
    (hown : OwnL L w base lo e v xs) (hy : L.rep w S y cy.toList) (hS : ∀ b, S b → Els w lo v b) (hbase : base ≤ w.heap.size)
    (hlen : (xs.length + 1) * bytes ≤ 140737488355328) (h63 : xs.length + 1 ≤ maxLen)
    (h : ∀ v' w', OwnL L w' base lo e v' (xs ++ [y]) → Ext W w' v v' → wpList P ops Q rest (a.put o.dst v') w') : wpList P ops Q (o :: rest) a W := by
  have hk : L.rep W (Els W lo v) y cy.toList := L.wide (L.keep (L.wide hy hS) fun p hp => hW.cell hp.2.1) fun b hb' => ⟨hb'.1.of_block (hW.block b hb'.2.1), Nat.lt_of_lt_of_le hb'.2.1 hW.size, hb'.2.2⟩
  exact wpList_appL hgd s x t ho base lo e z bytes ht hi hzs hsz v xs [y] cy.toList ⟨g, 0, none⟩ 1 1 hs hxx (hown.keep hW) (RepRow.single hk) rfl (World.news_of_block hg) (Nat.le_trans hbase hW.size) hlen h63 h
theorem alloc2_new (w : World) (a b : Obj) : ((w.alloc a).alloc b).heap[w.heap.size + 1]? = some b := by
  have h := heap_alloc_new (w.alloc a) b
  simpa using h
theorem Sl.call {α : Type} {L : Lay α} {w w' : World} {A : Option Addr} {n c : Nat} {xs : List α} (h : Sl L w (· < w.heap.size) A n c xs) (hb : Below w.heap.size w w') : Sl L w' (· < w'.heap.size) A n c xs :=
  (h.keep fun _ hp => hb.cell hp).wide fun _ hb' => Nat.lt_of_lt_of_le hb' hb.size
theorem OwnL.ge {α : Type} {L : Lay α} {w : World} {base : Nat} {lo : Option Nat} {e : TypeId} {v : Value} {xs : List α} (h : OwnL L w base lo e v xs) {b : Nat} (hb : v.ownBlock = some b) : base ≤ b := by
  obtain ⟨cs, h1, _⟩ := h
  exact (h1.lt b hb).1
theorem OwnL.low {α : Type} {L : Lay α} {w : World} {base base' : Nat} {lo : Option Nat} {e : TypeId} {v : Value} {xs : List α} (h : OwnL L w base lo e v xs) (hb : base' ≤ base) : OwnL L w base' lo e v xs := by
  obtain ⟨cs, ⟨h1, h2⟩, h3⟩ := h
  refine ⟨cs, ⟨h1, ?_⟩, h3⟩
  rcases h2 with h2 | ⟨g, cap, a, k1, k2, k3⟩
  · exact .inl h2
  · exact .inr ⟨g, cap, a, k1, by omega, k3⟩

theorem Sl.lit1 {α : Type} {L : Lay α} {w : World} {S : Nat → Prop} {b off : Nat} {x : α} {cs : List Value} (hb : S b) (hr : L.rep w S x cs) (hc : ∀ i v, cs[i]? = some v → w.cell? ⟨b, off + i, none⟩ = some v) : Sl L w S (some ⟨b, off, none⟩) 1 1 [x] :=
  ⟨rfl, Nat.le_refl _, by simp [maxLen], by simp, fun _ => ⟨b, off, cs, rfl, hb, RepRow.single hr, hc⟩⟩
theorem str4 {P : Program} {src dst e : TypeId} (hs : P.underlying src = some (.slice e)) (he : P.underlying e = some (.int .u8)) (hd : P.underlying dst = some .string) (x y z t : Int) (W : World) (b : Nat)
    (h0 : W.cell? ⟨b, 0, none⟩ = some (.int .u8 x)) (h1 : W.cell? ⟨b, 1, none⟩ = some (.int .u8 y)) (h2 : W.cell? ⟨b, 2, none⟩ = some (.int .u8 z)) (h3 : W.cell? ⟨b, 3, none⟩ = some (.int .u8 t)) :
    (convert src dst (.slice (some ⟨b, 0, none⟩) 4 4)).run P W = .ok (.string (strOfNums [x, y, z, t])) W :=
  run_convert_bytes_arg W src e hs he b 0 4 4 [x, y, z, t] rfl (fun i hi => by
    match i, hi with
    | 0, _ => simpa using h0
    | 1, _ => simpa using h1
    | 2, _ => simpa using h2
    | 3, _ => simpa using h3) dst hd

theorem run_fromK {P : Program} (t e : TypeId) {b : Nat} {z : Value} (kd : IntKind) (ht : P.underlying t = some (.slice e)) (hel : P.elem t = e) (hi : (P.info? e).map (fun i => (i.zero, i.size, i.bytes)) = some (some z, 1, b)) (A : Option Addr) (n c k : Nat) (hk : k ≤ n) (w : World) :
    (Instr.slice t (.slice A n c) (some (.int kd (k : Int))) none none).run P w = .ok (.slice (cutA A c k) (n - k) (c - k)) w := by
  obtain ⟨i, hi, hz0, hz1, hz2⟩ := info_parts hi
  subst hel
  rw [run_slice_l w t A n c ht kd (k : Int) (by omega) (by omega)]
  simp [sizeOf, typeInfo, hi, hz1, sliced, cutA]
theorem run_uptoK {P : Program} (t e : TypeId) {b : Nat} {z : Value} (kd : IntKind) (ht : P.underlying t = some (.slice e)) (hel : P.elem t = e) (hi : (P.info? e).map (fun i => (i.zero, i.size, i.bytes)) = some (some z, 1, b)) (A : Option Addr) (n c k : Nat) (hk : k ≤ c) (w : World) :
    (Instr.slice t (.slice A n c) none (some (.int kd (k : Int))) none).run P w = .ok (.slice A k c) w := by
  obtain ⟨i, hi, hz0, hz1, hz2⟩ := info_parts hi
  subst hel
  rw [run_slice_h w t A n c ht kd (k : Int) (by omega) (by omega)]
  have ha : ∀ a : Addr, a.add 0 = a := fun a => by simp [Addr.add]
  cases A <;> simp [sizeOf, typeInfo, hi, sliced, ha]
theorem Own.toL {w : World} {base : Nat} {e : TypeId} {k : IntKind} {v : Value} {xs : List Int} (h : Own w base e k v xs) (lo : Option Nat) : OwnL (Lay.int k) w base lo e v xs := ⟨_, h.1, repRow_ints.2 ⟨rfl, h.2⟩⟩
theorem Own.slI {w : World} {base : Nat} {e : TypeId} {k : IntKind} {v : Value} {xs : List Int} (h : Own w base e k v xs) : ∃ A n c, v = .slice A n c ∧ Sl (Lay.int k) w (From w base) A n c xs := (h.toL (some base)).sl (Nat.le_refl _) (Nat.le_refl _)
theorem Ext.of_nil {w w' : World} {v : Value} (h : Ext w w' (.slice none 0 0) v) : Below w.heap.size w w' := ⟨h.1.os, h.1.tape, h.1.output, h.1.size, fun i hi => h.1.block i hi (by simp [Value.ownBlock])⟩
theorem Rd.lit2 {w : World} {b off : Nat} {k : IntKind} {x y : Int} (h0 : w.cell? ⟨b, off, none⟩ = some (.int k x)) (h1 : w.cell? ⟨b, off + 1, none⟩ = some (.int k y)) (hx : (Lit.int k x).wf = true) (hy : (Lit.int k y).wf = true) : Rd w w.heap.size k (some ⟨b, off, none⟩) 2 2 [x, y] :=
  ⟨rfl, Nat.le_refl _, by simp [maxLen], by simpa using ⟨hx, hy⟩, by simp, fun _ => ⟨b, off, rfl, World.block_lt_of_cell? w _ h0, fun j hj => by
    match j, hj with
    | 0, _ => simpa [nth] using h0
    | 1, _ => simpa [nth] using h1⟩⟩
theorem Own.not_new {w : World} {base : Nat} {e : TypeId} {k : IntKind} {v : Value} {xs : List Int} (h : Own w base e k v xs) {b : Nat} (hb : w.heap.size ≤ b) : some b ≠ v.ownBlock := fun he => by
  have := (h.1.lt b he.symm).2
  omega
/-- A variable of the round's own, behind a call and an append. -/
theorem var_kept {w w2 w3 : World} {cs : Array Value} {t : TypeId} {o2 : Obj} {v v3 : Value} (h2 : Below ((w.alloc (.cells cs t)).alloc o2).heap.size ((w.alloc (.cells cs t)).alloc o2) w2) (hx : Ext w2 w3 v v3) (hne : some w.heap.size ≠ v.ownBlock) {i : Nat} {u : Value} (hu : cs[i]? = some u) : w3.cell? ⟨w.heap.size, i, none⟩ = some u :=
  hx.1.cell (a := ⟨w.heap.size, i, none⟩) ((h2.cell (p := ⟨w.heap.size, i, none⟩) (by simp; omega)).trans (by
    rw [World.cell?_alloc_past _ _ _ (by simp), World.cell?_alloc_at _ _ _ _ rfl]
    exact hu)) hne
theorem bel3 {B : Nat} {w w2 w3 : World} {o1 o2 : Obj} {e : TypeId} {k : IntKind} {v v3 : Value} {xs : List Int} (hB : B ≤ w.heap.size) (h2 : Below ((w.alloc o1).alloc o2).heap.size ((w.alloc o1).alloc o2) w2) (ho : Own w2 B e k v xs) (hx : Ext w2 w3 v v3) : Below B w w3 :=
  ((((Below.refl B w).alloc hB _).alloc (by simp; omega) _).trans (h2.mono (by simp; omega))).trans (ho.below hx (by have := h2.size; simp at this; omega))
theorem Ext.of_nilB {B : Nat} {w w' : World} {v : Value} (h : Ext w w' (.slice none 0 0) v) (hB : B ≤ w.heap.size) : Below B w w' := ⟨h.1.os, h.1.tape, h.1.output, h.1.size, fun i hi => h.1.block i (by omega) (by simp [Value.ownBlock])⟩

end Go.Proofs.Ytannjlejghmfpaa
