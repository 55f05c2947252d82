/-
  Slices of laid elements cut, and the library's functions that programs lean on: bytes.Clone, bytes.Equal.
  Owned slices, and what is read of them, where a block below is written; texts as elements.
  The types of api that layer 9 needs: Hold, Channel.
-/
import Derived.ArgAppend
import Derived.Test.YtanlpcndbfmkiaaRows
import Derived.Test.YtanlpcndbfmkiaaPack1
import Derived.Test.YtanlpcndbfmkiaaPack2
import Derived.Test.YtanlpcndbfmkiaaPack3
import Derived.Test.YtanlpcndbfmkiaaPack4
namespace Go.Proofs.Ytanlpcndbfmkiaa
open Go.RowKit Go.WalkArith

theorem Sl.drewN {α : Type} {L : Lay α} {w : World} {S : Nat → Prop} {A : Option Addr} {n c : Nat} {xs : List α} (h : Sl L w S A n c xs) (m : Nat) : Sl L (w.drewN m) S A n c xs := h.keep fun _ _ => rfl
/-- 's[:k]', elements of whatever size. -/
theorem run_uptoL {P : Program} (t e : TypeId) {b sz : Nat} {z : Value} (kd : IntKind) (ht : P.underlying t = some (.slice e)) (hel : P.elem t = e) (hi : (P.info? e).map (fun i => (i.zero, i.size, i.bytes)) = some (some z, sz, b)) (A : Option Addr) (n c k : Nat) (hk : k ≤ c) (w : World) :
    (Instr.slice t (.slice A n c) none (some (.int kd (k : Int))) none).run P w = .ok (.slice A k c) w := by
  obtain ⟨i, hi, hz0, hz1, hz2⟩ := info_parts hi
  subst hel
  rw [run_slice_h w t A n c ht kd (k : Int) (by omega) (by omega)]
  have ha : ∀ a : Addr, a.add 0 = a := fun a => by simp [Addr.add]
  cases A <;> simp [sizeOf, typeInfo, hi, sliced, ha]
/-- 's[:k:k]'. -/
theorem run_uptoM {P : Program} (t e : TypeId) {b sz : Nat} {z : Value} (kd km : IntKind) (ht : P.underlying t = some (.slice e)) (hel : P.elem t = e) (hi : (P.info? e).map (fun i => (i.zero, i.size, i.bytes)) = some (some z, sz, b)) (A : Option Addr) (n c k : Nat) (hk : k ≤ c) (w : World) :
    (Instr.slice t (.slice A n c) none (some (.int kd (k : Int))) (some (.int km (k : Int)))).run P w = .ok (.slice A k k) w := by
  obtain ⟨i, hi, hz0, hz1, hz2⟩ := info_parts hi
  subst hel
  rw [run_slice_hm w t A n c ht kd km (k : Int) (k : Int) (by omega) (by omega) (by omega)]
  have ha : ∀ a : Addr, a.add 0 = a := fun a => by simp [Addr.add]
  cases A <;> simp [sizeOf, typeInfo, hi, sliced, ha]
/-- 's[k:]'. -/
theorem run_fromL {P : Program} (t e : TypeId) {b sz : Nat} {z : Value} (kd : IntKind) (ht : P.underlying t = some (.slice e)) (hel : P.elem t = e) (hi : (P.info? e).map (fun i => (i.zero, i.size, i.bytes)) = some (some z, sz, b)) (A : Option Addr) (n c k : Nat) (hk : k ≤ n) (w : World) :
    (Instr.slice t (.slice A n c) (some (.int kd (k : Int))) none none).run P w = .ok (.slice (cutS sz A c k) (n - k) (c - k)) w := by
  obtain ⟨i, hi, hz0, hz1, hz2⟩ := info_parts hi
  subst hel
  rw [run_slice_l w t A n c ht kd (k : Int) (by omega) (by omega)]
  simp [sizeOf, typeInfo, hi, hz1, sliced, cutS]

/-- An empty literal, just laid. -/
theorem Own.lit0 (w : World) (e : TypeId) (k : IntKind) : Own (w.alloc (.cells #[] e)) w.heap.size e k (.slice (some ⟨w.heap.size, 0, none⟩) 0 0) [] :=
  ⟨⟨rfl, .inr ⟨w.heap.size, 0, #[], rfl, Nat.le_refl _, heap_alloc_new w _, Nat.le_refl _, by simp [maxLen], rfl, rfl⟩⟩, by simp⟩

theorem run_is_nil {P : Program} (w : World) (t e : TypeId) (a : Option Addr) (l c : Nat) (h : P.underlying t = some (.slice e)) : (binOp .eql t (.slice a l c) (.slice none 0 0)).run P w = .ok (.bool a.isNone) w := by
  have h8 : ∀ d, (Op.equalIn (d + 1) t (.slice a l c) (.slice none 0 0)).run P w = .ok a.isNone w := fun d => by cases a <;> simp [Op.equalIn, run_underlying h]
  have h9 : (Op.equal t (.slice a l c) (.slice none 0 0)).run P w = .ok a.isNone w := h8 9999
  simp [binOp, h9]

end Go.Proofs.Ytanlpcndbfmkiaa
namespace Go.Proofs.Ytanlpcndbfmkiaa
open Go.RowKit Go.WalkArith

/-- What is reached from blocks above b is not touched by writing block b. -/
theorem Sl.setLow {α : Type} {L : Lay α} {w : World} {l b : Nat} {A : Option Addr} {n c : Nat} {xs : List α} (h : Sl L w (From w l) A n c xs) (hb : b < l) (i : Nat) (u : Value) : Sl L (w.setCell ⟨b, i, none⟩ u) (From (w.setCell ⟨b, i, none⟩ u) l) A n c xs := by
  have hne : ∀ k, From w l k → k ≠ b := fun k hk e => by have := hk.1; omega
  refine (h.keep fun p hp => World.cell?_of_block (Below.heap_setCell _ _ _ _ (hne _ hp))).wide fun k hk => ⟨hk.1, by simpa using hk.2.1, hk.2.2.of_block (Below.heap_setCell _ _ _ _ (hne k hk))⟩
theorem Sl.drewF {α : Type} {L : Lay α} {w : World} {l : Nat} {A : Option Addr} {n c : Nat} {xs : List α} (h : Sl L w (From w l) A n c xs) (k : Nat) : Sl L (w.drewN k) (From (w.drewN k) l) A n c xs := (h.keep (w' := w.drewN k) fun _ _ => rfl).wide fun _ hb => hb
theorem Sl.low {α : Type} {L : Lay α} {w : World} {l l' : Nat} {A : Option Addr} {n c : Nat} {xs : List α} (h : Sl L w (From w l) A n c xs) (hl : l' ≤ l) : Sl L w (From w l') A n c xs := h.wide fun _ hb => hb.le hl
/-- A text, laid. -/
abbrev lay_Txt : Lay (List Int) := Lay.slice (Lay.int .u8)
theorem Try.infoTxt : (Try.prog.info? 52).map (fun i => (i.zero, i.size, i.bytes)) = some (some (.slice none 0 0), lay_Txt.size, 24) := by kernel_rfl

theorem OwnL.setLow {α : Type} {L : Lay α} {w : World} {base lo b : Nat} {e : TypeId} {v : Value} {xs : List α} (h : OwnL L w base (some lo) e v xs) (hb : b < base) (hl : b < lo) (i : Nat) (u : Value) : OwnL L (w.setCell ⟨b, i, none⟩ u) base (some lo) e v xs := by
  obtain ⟨cs, h1, h2⟩ := h
  have hne : ∀ k, Els w (some lo) v k → k ≠ b := fun k hk e => by have := hk.1.1; omega
  exact ⟨cs, ownsRow_setCell_below h1 hb u, (h2.keep fun p hp => World.cell?_of_block (Below.heap_setCell _ _ _ _ (hne _ hp))).wide fun k hk => ⟨hk.1.of_block (Below.heap_setCell _ _ _ _ (hne k hk)), by simpa using hk.2.1, hk.2.2⟩⟩
theorem OwnL.lows {α : Type} {L : Lay α} {w : World} {base lo base' lo' : Nat} {e : TypeId} {v : Value} {xs : List α} (h : OwnL L w base (some lo) e v xs) (hb : base' ≤ base) (hl : lo' ≤ lo) : OwnL L w base' (some lo') e v xs := by
  obtain ⟨cs, h1, h2⟩ := h.low hb
  exact ⟨cs, h1, h2.wide fun b hb' => ⟨⟨Nat.le_trans hl hb'.1.1, hb'.1.2⟩, hb'.2⟩⟩

/-! ### Appends of laid elements at a step of a region that draws its order, under whatever test that says yes -/
theorem step_catL {α : Type} {L : Lay α} {P : Program} {w : World} {ops : Array Oper} {o : Oper} {a : Act} {K : Act → World → Prop} {Q : Exit → Act → World → Prop} {E : Prop} (hgd : Region.wanted o (yielded ops a.tmps) = true) (s x : Operand) (t : TypeId)
    (ho : o.op = .call { callee := .builtin .append, args := #[s, x], argTypes := #[t, t] }) (base : Nat) (lo : Option Nat) (e : TypeId) (z : Value) (bytes : Nat) (ht : P.underlying t = some (.slice e))
    (hi : (P.info? e).map (fun i => (i.zero, i.size, i.bytes)) = some (some z, L.size, bytes)) (hzs : z.cells.size = L.size) (hsz : 0 < L.size) (v : Value) (xs ys : List α) (S : Nat → Prop) (A : Option Addr) (m c : Nat)
    (hs : a.eval s = v) (hxx : a.eval x = .slice A m c)
    (hown : OwnL L w base lo e v xs) (hy : Sl L w S A m c ys) (hS : ∀ b, S b → Els w lo v b) (hbase : base ≤ w.heap.size)
    (hlen : (xs.length + m) * bytes ≤ 140737488355328) (h63 : xs.length + m ≤ maxLen)
    (h : ∀ v' w', OwnL L w' base lo e v' (xs ++ ys) → Ext w w' v v' → K (a.put o.dst v') w') : if Region.wanted o (yielded ops a.tmps) = true then Oper.wp P o a w K Q else E := by
  rw [if_pos hgd]
  obtain ⟨v', w', hrun, h2, h3⟩ := run_catL (P := P) w base lo t o.type e z bytes ht hi hzs hsz v xs ys S A m c hown hy hS hbase hlen h63
  unfold Oper.wp execOp
  simp only [ho, resolve, invoke, builtin, Sem.run_bind, Sem.run_pure, Result.andThen_ok, List.map_toArray, List.map_cons, List.map_nil, hs, hxx, hrun]
  exact h v' w' h2 h3
/-- The element lies in a block g of its own already. -/
theorem step_pushW {α : Type} {L : Lay α} {P : Program} {w : World} {ops : Array Oper} {o : Oper} {a : Act} {K : Act → World → Prop} {Q : Exit → Act → World → Prop} {E : Prop} (hgd : Region.wanted o (yielded ops a.tmps) = true) (s x : Operand) (t : TypeId)
    (ho : o.op = .call { callee := .builtin .append, args := #[s, x], argTypes := #[t, t] }) (base : Nat) (lo : Option Nat) (e : TypeId) (z : Value) (bytes : Nat) (ht : P.underlying t = some (.slice e))
    (hi : (P.info? e).map (fun i => (i.zero, i.size, i.bytes)) = some (some z, L.size, bytes)) (hzs : z.cells.size = L.size) (hsz : 0 < L.size) (v : Value) (xs : List α) (y : α) (cy : Array Value) (S : Nat → Prop) (g : Nat)
    (hs : a.eval s = v) (hxx : a.eval x = .slice (some ⟨g, 0, none⟩) 1 1) (hg : w.heap[g]? = some (.cells cy e (0, 0)))
    (hown : OwnL L w base lo e v xs) (hy : L.rep w S y cy.toList) (hS : ∀ b, S b → Els w lo v b) (hbase : base ≤ w.heap.size)
    (hlen : (xs.length + 1) * bytes ≤ 140737488355328) (h63 : xs.length + 1 ≤ maxLen)
    (h : ∀ v' w', OwnL L w' base lo e v' (xs ++ [y]) → Ext w w' v v' → K (a.put o.dst v') w') : if Region.wanted o (yielded ops a.tmps) = true then Oper.wp P o a w K Q else E := by
  rw [if_pos hgd]
  obtain ⟨v', w', hrun, h2, h3⟩ := run_appL (P := P) w base lo t o.type e z bytes ht hi hzs hsz v xs [y] cy.toList ⟨g, 0, none⟩ 1 1 hown (RepRow.single (L.wide hy hS)) rfl (World.news_of_block hg) hbase hlen h63
  unfold Oper.wp execOp
  simp only [ho, resolve, invoke, builtin, Sem.run_bind, Sem.run_pure, Result.andThen_ok, List.map_toArray, List.map_cons, List.map_nil, hs, hxx, hrun]
  exact h v' w' h2 h3
end Go.Proofs.Ytanlpcndbfmkiaa
namespace Go.Proofs.Ytanlpcndbfmkiaa
open Go.RowKit Go.WalkArith

/-- api.Hold. -/
structure Hld where
  Id : Int
  N : Int
  deriving DecidableEq
def lay_Hold : Lay Hld := ((Lay.int .u64).prod ((Lay.int .u64).prod Lay.unit)).via fun r => (r.Id, r.N, ())
theorem of_Hold : LayOf Try.prog 41 lay_Hold :=
  layOf_via (layOf_struct Try.underlying41 (by kernel_rfl) (.cons rfl (layOf_int Try.underlying23 (by kernel_rfl)) (.cons rfl (layOf_int Try.underlying23 (by kernel_rfl)) (.nil _)))) _
    fun ⟨k, a, _⟩ => ⟨⟨k, a⟩, rfl⟩
/-- Its numbers' bounds. -/
structure HldWf (c : Hld) : Prop where
  id : (Lit.int .u64 c.Id).wf = true
  num : (Lit.int .u64 c.N).wf = true
theorem rep_Hold {w : World} {S : Nat → Prop} {c : Hld} {cs : List Value} : lay_Hold.rep w S c cs ↔ cs = [.int .u64 c.Id, .int .u64 c.N] ∧ HldWf c := by
  constructor
  · rintro ⟨c1, c2, rfl, ⟨rfl, hk⟩, c3, c4, rfl, ⟨rfl, ha⟩, rfl⟩
    exact ⟨rfl, hk, ha⟩
  · rintro ⟨rfl, hk, ha⟩
    exact ⟨[_], [_], rfl, ⟨rfl, hk⟩, [_], [], rfl, ⟨rfl, ha⟩, rfl⟩
theorem size_Hold : lay_Hold.size = 2 := rfl
theorem agg_Hold {w : World} {S : Nat → Prop} {c : Hld} {s : Array Value} (h : lay_Hold.rep w S c s.toList) : s = #[.int .u64 c.Id, .int .u64 c.N] ∧ HldWf c := by
  obtain ⟨hc, hw⟩ := rep_Hold.1 h
  exact ⟨Array.ext' hc, hw⟩
/-- The j-th hold's cells. -/
theorem hld_at {w : World} {S : Nat → Prop} {A : Option Addr} {n c : Nat} {l : List Hld} (h : Sl lay_Hold w S A n c l) {j : Nat} (hj : j < n) :
    ∃ b off, ∃ hx : j < l.length, A = some ⟨b, off, none⟩ ∧ S b ∧ w.cell? ⟨b, off + j * 2, none⟩ = some (.int .u64 l[j].Id) ∧ w.cell? ⟨b, off + j * 2 + 1, none⟩ = some (.int .u64 l[j].N) ∧ HldWf l[j] := by
  obtain ⟨b, off, cs, hx, rfl, hb, hr, hc⟩ := h.at_ hj
  obtain ⟨rfl, hw⟩ := rep_Hold.1 hr
  exact ⟨b, off, hx, rfl, hb, hc 0 _ rfl, hc 1 _ rfl, hw⟩
theorem sl_hlds {w : World} {S : Nat → Prop} {A : Option Addr} {n c : Nat} {l : List Hld} (h : Sl lay_Hold w S A n c l) : ∀ x ∈ l, HldWf x := fun x hx => by
  obtain ⟨j, hj, rfl⟩ := List.getElem_of_mem hx
  have hl := h.len
  obtain ⟨b, off, hx1, -, -, -, -, hw⟩ := hld_at h (j := j) (by omega)
  exact hw
theorem repH_any {w : World} {S S' : Nat → Prop} : ∀ {xs : List Hld} {cs : List Value}, RepRow lay_Hold w S xs cs → RepRow lay_Hold w S' xs cs
  | [], _, h => h
  | _ :: _, _, ⟨c1, c2, h1, h2, h3⟩ => ⟨c1, c2, h1, rep_Hold.2 (rep_Hold.1 h2), repH_any h3⟩
theorem OwnL.hld {w : World} {base : Nat} {e : TypeId} {v : Value} {xs : List Hld} {lo : Option Nat} (h : OwnL lay_Hold w base lo e v xs) (lo' : Nat) : OwnL lay_Hold w base (some lo') e v xs := by
  obtain ⟨cs, h1, h2⟩ := h
  exact ⟨cs, h1, repH_any h2⟩

/-- api.Channel. -/
structure Chn where
  Id : Int
  Local : Int
  Remote : Int
  Reserve : Int
  Most : Int
  Holds : List Hld
  Open : Bool
  deriving DecidableEq
def lay_Channel : Lay Chn := ((Lay.int .u64).prod ((Lay.int .u64).prod ((Lay.int .u64).prod ((Lay.int .u64).prod ((Lay.int .u64).prod ((Lay.slice lay_Hold).prod (Lay.bool.prod Lay.unit))))))).via fun r => (r.Id, r.Local, r.Remote, r.Reserve, r.Most, r.Holds, r.Open, ())
theorem of_Channel : LayOf Try.prog 26 lay_Channel :=
  layOf_via (layOf_struct Try.underlying26 (by kernel_rfl) (.cons rfl (layOf_int Try.underlying23 (by kernel_rfl)) (.cons rfl (layOf_int Try.underlying23 (by kernel_rfl)) (.cons rfl (layOf_int Try.underlying23 (by kernel_rfl)) (.cons rfl (layOf_int Try.underlying23 (by kernel_rfl)) (.cons rfl (layOf_int Try.underlying23 (by kernel_rfl)) (.cons rfl (layOf_slice Try.underlying24 (by kernel_rfl) of_Hold (by decide)) (.cons rfl (layOf_bool Try.underlying4 (by kernel_rfl)) (.nil _))))))))) _
    fun ⟨a, b, c, d, e, f, g, _⟩ => ⟨⟨a, b, c, d, e, f, g⟩, rfl⟩
structure ChnWf (c : Chn) : Prop where
  id : (Lit.int .u64 c.Id).wf = true
  loc : (Lit.int .u64 c.Local).wf = true
  rem : (Lit.int .u64 c.Remote).wf = true
  res : (Lit.int .u64 c.Reserve).wf = true
  most : (Lit.int .u64 c.Most).wf = true
theorem rep_Channel {w : World} {S : Nat → Prop} {r : Chn} {cs : List Value} : lay_Channel.rep w S r cs ↔ ∃ A n c, cs = [.int .u64 r.Id, .int .u64 r.Local, .int .u64 r.Remote, .int .u64 r.Reserve, .int .u64 r.Most, .slice A n c, .bool r.Open] ∧ ChnWf r ∧ Sl lay_Hold w S A n c r.Holds := by
  constructor
  · rintro ⟨c1, c2, rfl, ⟨rfl, h1⟩, c3, c4, rfl, ⟨rfl, h2⟩, c5, c6, rfl, ⟨rfl, h3⟩, c7, c8, rfl, ⟨rfl, h4⟩, c9, c10, rfl, ⟨rfl, h5⟩, c11, c12, rfl, ⟨A, n, c, rfl, hs⟩, c13, c14, rfl, rfl, rfl⟩
    exact ⟨A, n, c, rfl, ⟨h1, h2, h3, h4, h5⟩, hs⟩
  · rintro ⟨A, n, c, rfl, ⟨h1, h2, h3, h4, h5⟩, hs⟩
    exact ⟨[_], [_, _, _, _, _, _], rfl, ⟨rfl, h1⟩, [_], [_, _, _, _, _], rfl, ⟨rfl, h2⟩, [_], [_, _, _, _], rfl, ⟨rfl, h3⟩, [_], [_, _, _], rfl, ⟨rfl, h4⟩, [_], [_, _], rfl, ⟨rfl, h5⟩, [_], [_], rfl, ⟨A, n, c, rfl, hs⟩, [_], [], rfl, rfl, rfl⟩
theorem size_Channel : lay_Channel.size = 7 := rfl
/-- A channel's cells. -/
abbrev chnA (r : Chn) (v : Value) : Array Value := #[.int .u64 r.Id, .int .u64 r.Local, .int .u64 r.Remote, .int .u64 r.Reserve, .int .u64 r.Most, v, .bool r.Open]
theorem agg_Channel {w : World} {S : Nat → Prop} {x : Chn} {s : Array Value} (h : lay_Channel.rep w S x s.toList) : ∃ A n c, s = #[.int .u64 x.Id, .int .u64 x.Local, .int .u64 x.Remote, .int .u64 x.Reserve, .int .u64 x.Most, .slice A n c, .bool x.Open] ∧ ChnWf x ∧ Sl lay_Hold w S A n c x.Holds := by
  obtain ⟨A, n, c, hc, h1, h2⟩ := rep_Channel.1 h
  exact ⟨A, n, c, Array.ext' hc, h1, h2⟩
theorem chan_in {w W : World} {t : Chn} {A : Option Addr} {n c : Nat} (h1 : ChnWf t) (hL : Sl lay_Hold w (· < w.heap.size) A n c t.Holds) (hb : Below w.heap.size w W) : lay_Channel.rep W (· < W.heap.size) t #[.int .u64 t.Id, .int .u64 t.Local, .int .u64 t.Remote, .int .u64 t.Reserve, .int .u64 t.Most, .slice A n c, .bool t.Open].toList := rep_Channel.2 ⟨_, _, _, rfl, h1, Sl.call hL hb⟩
/-- A channel handed back, whose holds are the caller's own. -/
def OwnC (w : World) (base : Nat) (v : Value) (t : Chn) : Prop := ∃ u, v = .agg #[.int .u64 t.Id, .int .u64 t.Local, .int .u64 t.Remote, .int .u64 t.Reserve, .int .u64 t.Most, u, .bool t.Open] ∧ OwnL lay_Hold w base (some base) 41 u t.Holds
end Go.Proofs.Ytanlpcndbfmkiaa
