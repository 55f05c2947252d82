/-
  My own words for memory: a slice of integers that reads as a list ('Rd'), one that the call owns ('Own'), and what an append to an owned one leaves ('Ext'). Plain lemmas; no program.
-/
import Derived.WalkKit
import Derived.WalkSpells
import Derived.WalkLawsBesides
import Derived.Laws.BytesArg
import Derived.Deep.AppendLies
import Derived.Laws.AppendOwnNone
import Derived.Deep.Draws
import Derived.Great.BuildSlice
namespace Go.Proofs.Ytannjlejghmfpaa
open Go.RowKit Go.WalkArith

/-- The j-th number: a name of its own, so that nothing rewrites it. -/
def nth (xs : List Int) (j : Nat) : Int := xs.getD j 0
theorem nth_get {xs : List Int} {j : Nat} (h : j < xs.length) : nth xs j = xs[j] := by simp [nth, List.getD, List.getElem?_eq_getElem h]
theorem nth_mem {xs : List Int} {j : Nat} (h : j < xs.length) : nth xs j ∈ xs := by rw [nth_get h]; exact List.getElem_mem h
theorem nth_drop (xs : List Int) (i j : Nat) : nth (xs.drop i) j = nth xs (i + j) := by simp [nth, List.getD, List.getElem?_drop]
theorem nth_take (xs : List Int) (i j : Nat) (h : j < i) : nth (xs.take i) j = nth xs j := by simp [nth, List.getD, h]
theorem nth_zero (x : Int) (xs : List Int) : nth (x :: xs) 0 = x := rfl

theorem hid {p : Prop} (h : p) : Hid p := h
theorem ret_num {k : IntKind} {a b : Int} (h : a = b) : Ending.returned (.int k a) = .returned (.int k b) := by rw [h]
theorem ret_bool {a b : Bool} (h : a = b) : Ending.returned (.bool a) = .returned (.bool b) := by rw [h]

/-- A step of a list whose operation is wanted (without a guard, or its guard says so). -/
theorem wpList_want {P : Program} {w : World} {ops : Array Oper} {rest : List Oper} {o : Oper} {a : Act} {Q : Exit → Act → World → Prop} (hgd : Region.wanted o (yielded ops a.tmps) = true)
    (h : ∀ K : Act → World → Prop, (∀ a w, wpList P ops Q rest a w → K a w) → o.wp P a w K Q) : wpList P ops Q (o :: rest) a w :=
  wpList_step fun K hK => by rw [if_pos hgd]; exact h K hK

/-- The slice '.slice A n c' holds the numbers xs of kind k, and lies below block B. -/
def Rd (w : World) (B : Nat) (k : IntKind) (A : Option Addr) (n c : Nat) (xs : List Int) : Prop :=
  xs.length = n ∧ n ≤ c ∧ c ≤ maxLen ∧ (∀ x ∈ xs, (Lit.int k x).wf = true) ∧ (A = none → c = 0) ∧
  (0 < n → ∃ b off, A = some ⟨b, off, none⟩ ∧ b < B ∧ ∀ j, j < n → w.cell? ⟨b, off + j, none⟩ = some (.int k (nth xs j)))

section
variable {w w' : World} {B B' : Nat} {k : IntKind} {A : Option Addr} {n c : Nat} {xs : List Int}

theorem Rd.len (h : Rd w B k A n c xs) : xs.length = n := h.1
theorem Rd.cap (h : Rd w B k A n c xs) : n ≤ c ∧ c ≤ maxLen := ⟨h.2.1, h.2.2.1⟩
theorem Rd.wf (h : Rd w B k A n c xs) : ∀ x ∈ xs, (Lit.int k x).wf = true := h.2.2.2.1
theorem Rd.no (h : Rd w B k A n c xs) : A = none → c = 0 := h.2.2.2.2.1
theorem Rd.at_ (h : Rd w B k A n c xs) (hn : 0 < n) : ∃ b off, A = some ⟨b, off, none⟩ ∧ b < B ∧ ∀ j, j < n → w.cell? ⟨b, off + j, none⟩ = some (.int k (nth xs j)) := h.2.2.2.2.2 hn
theorem Rd.keep (h : Rd w B k A n c xs) (hk : ∀ p : Addr, p.block < B → w'.cell? p = w.cell? p) : Rd w' B k A n c xs := by
  refine ⟨h.1, h.2.1, h.2.2.1, h.2.2.2.1, h.no, fun hn => ?_⟩
  obtain ⟨b, off, e, hb, hc⟩ := h.at_ hn
  exact ⟨b, off, e, hb, fun j hj => (hk _ hb).trans (hc j hj)⟩
theorem Rd.below (h : Rd w B k A n c xs) (hb : Below B w w') : Rd w' B k A n c xs := h.keep fun _ hp => hb.cell hp
theorem Rd.more (h : Rd w B k A n c xs) (hB : B ≤ B') : Rd w B' k A n c xs := by
  refine ⟨h.1, h.2.1, h.2.2.1, h.2.2.2.1, h.no, fun hn => ?_⟩
  obtain ⟨b, off, e, hb, hc⟩ := h.at_ hn
  exact ⟨b, off, e, by omega, hc⟩
theorem Rd.nil (w : World) (B : Nat) (k : IntKind) : Rd w B k none 0 0 [] :=
  ⟨rfl, Nat.zero_le _, Nat.zero_le _, by simp, fun _ => rfl, fun h => absurd h (by omega)⟩
/-- 's[i:]', the address as the model gives it. -/
theorem Rd.from_ (h : Rd w B k A n c xs) {i : Nat} (hi : i ≤ n) : Rd w B k (if c = i then A else A.map (·.add i)) (n - i) (c - i) (xs.drop i) := by
  refine ⟨by rw [List.length_drop, h.1], by have := h.cap; omega, by have := h.cap; omega, fun x hx => h.wf x (List.mem_of_mem_drop hx), fun hA => ?_, fun hn => ?_⟩
  · have : A = none := by split at hA <;> simpa using hA
    have := h.no this
    omega
  obtain ⟨b, off, rfl, hb, hc⟩ := h.at_ (by omega)
  have := h.cap
  rw [if_neg (by omega)]
  refine ⟨b, off + i, ?_, hb, fun j hj => ?_⟩
  · simp only [Option.map_some, Addr.add]
    split
    · rename_i h0; simp [h0]
    · rfl
  · have := hc (i + j) (by omega)
    rw [show off + i + j = off + (i + j) from by omega, this, nth_drop]
/-- 's[:i]'. -/
theorem Rd.upto (h : Rd w B k A n c xs) {i : Nat} (hi : i ≤ n) : Rd w B k A i c (xs.take i) := by
  refine ⟨by rw [List.length_take, h.1]; omega, by have := h.cap; omega, h.cap.2, fun x hx => h.wf x (List.mem_of_mem_take hx), h.no, fun hn => ?_⟩
  obtain ⟨b, off, rfl, hb, hc⟩ := h.at_ (by omega)
  refine ⟨b, off, rfl, hb, fun j hj => ?_⟩
  rw [hc j (by omega), nth_take _ _ _ hj]
end

/-- The call owns the slice v, whose elements are xs. -/
def Own (w : World) (base : Nat) (e : TypeId) (k : IntKind) (v : Value) (xs : List Int) : Prop :=
  w.ownsRow base e 1 v xs.length (xs.map (Value.int k)) ∧ ∀ x ∈ xs, (Lit.int k x).wf = true

/-- What has been done is an append to v, which is v' now: no other old block has turned. -/
def Ext (w w' : World) (v v' : Value) : Prop :=
  w.grownBy w' v.ownBlock ∧ (v'.ownBlock = v.ownBlock ∨ ∃ g, v'.ownBlock = some g ∧ w.heap.size ≤ g)

section
variable {w w' w'' : World} {base : Nat} {e : TypeId} {k : IntKind} {v v' v'' : Value} {xs : List Int}

theorem Ext.refl (w : World) (v : Value) : Ext w w v v := ⟨World.grownBy.refl w _, .inl rfl⟩
theorem Ext.trans (h : Ext w w' v v') (h2 : Ext w' w'' v' v'') : Ext w w'' v v'' := by
  obtain ⟨g1, o1⟩ := h
  obtain ⟨g2, o2⟩ := h2
  refine ⟨⟨g2.os.trans g1.os, g2.tape.trans g1.tape, g2.output.trans g1.output, Nat.le_trans g1.size g2.size, fun i hi hne => ?_⟩, ?_⟩
  · refine (g2.block i (Nat.lt_of_lt_of_le hi g1.size) (fun e => ?_)).trans (g1.block i hi hne)
    rcases o1 with o1 | ⟨g, o1, hg⟩
    · exact hne (by rw [e, o1])
    · rw [o1] at e; injection e with e; omega
  · rcases o2 with o2 | ⟨g, o2, hg⟩
    · rcases o1 with o1 | ⟨g, o1, hg⟩
      · exact .inl (o2.trans o1)
      · exact .inr ⟨g, o2.trans o1, hg⟩
    · exact .inr ⟨g, o2, Nat.le_trans g1.size hg⟩
theorem Ext.size (h : Ext w w' v v') : w.heap.size ≤ w'.heap.size := h.1.size
theorem Ext.below (h : Ext w w' v v') (hown : w.ownsRow base e 1 v xs.length (xs.map (Value.int k))) (hb : base ≤ w.heap.size) : Below base w w' :=
  ⟨h.1.os, h.1.tape, h.1.output, h.1.size, fun i hi => h.1.block i (by omega) (fun e => by have := (hown.lt i e.symm).1; omega)⟩
theorem Own.below (h : Own w base e k v xs) (hx : Ext w w' v v') (hb : base ≤ w.heap.size) : Below base w w' := hx.below h.1 hb
theorem Ext.drew (h : Ext w w' v v') : Ext w w'.drew v v' := ⟨⟨h.1.os, h.1.tape, h.1.output, h.1.size, h.1.block⟩, h.2⟩
theorem Ext.alloc (h : Ext w w' v v') (o : Obj) : Ext w (w'.alloc o) v v' :=
  ⟨⟨h.1.os, h.1.tape, h.1.output, Nat.le_trans h.1.size (by simp), fun i hi hne => (Below.heap_alloc w' o i (Nat.lt_of_lt_of_le hi h.1.size)).trans (h.1.block i hi hne)⟩, h.2⟩
theorem Own.nil (w : World) (base : Nat) (e : TypeId) (k : IntKind) : Own w base e k (.slice none 0 0) [] := ⟨World.ownsRow_nil w base e 1, by simp⟩
theorem Own.form (h : Own w base e k v xs) : ∃ A c, v = .slice A xs.length c ∧ Rd w w.heap.size k A xs.length c xs := by
  obtain ⟨h1, hw⟩ := h
  rcases h1.2 with ⟨rfl, h0⟩ | ⟨g, cap, cur, rfl, hb, hg, hnc, hcm, hcs, htake⟩
  · have : xs = [] := List.eq_nil_of_length_eq_zero h0
    subst this
    exact ⟨none, 0, rfl, Rd.nil _ _ _⟩
  · refine ⟨_, cap, rfl, rfl, hnc, hcm, hw, by simp, fun hn => ⟨g, 0, rfl, (Array.getElem?_eq_some_iff.1 hg).1, fun j hj => ?_⟩⟩
    have := h1.cells (g := g) rfl j (.int k (nth xs j)) (by rw [nth_get hj]; simp [List.getElem?_eq_getElem hj])
    rw [Addr.add_lit] at this
    exact this
theorem Own.wf (h : Own w base e k v xs) : ∀ x ∈ xs, (Lit.int k x).wf = true := h.2
theorem Own.keep (h : Own w base e k v xs) {B : Nat} (hb : Below B w w') (hv : ∀ g, v.ownBlock = some g → g < B) : Own w' base e k v xs := by
  refine ⟨⟨h.1.1, ?_⟩, h.2⟩
  rcases h.1.2 with h0 | ⟨g, cap, cur, rfl, hbg, hg, r⟩
  · exact .inl h0
  · exact .inr ⟨g, cap, cur, rfl, hbg, by rw [hb.block g (hv g rfl)]; exact hg, r⟩
theorem Own.below_all (h : Own w base e k v xs) (hb : Below w.heap.size w w') : Own w' base e k v xs := h.keep hb fun g hg => (h.1.lt g hg).2
theorem Own.weaken (h : Own w base e k v xs) {b' : Nat} (hb : b' ≤ base) : Own w b' e k v xs := by
  refine ⟨⟨h.1.1, ?_⟩, h.2⟩
  rcases h.1.2 with h0 | ⟨g, cap, cur, rfl, hbg, r⟩
  · exact .inl h0
  · exact .inr ⟨g, cap, cur, rfl, Nat.le_trans hb hbg, r⟩
end

/-- One more element, appended as the walk does it: the element is laid in a block of its own first. -/
theorem run_append_one {P : Program} (w : World) (base : Nat) (t ty e : TypeId) (k : IntKind) (bytes : Nat) (ht : P.underlying t = some (.slice e))
    (hi : (P.info? e).map (fun i => (i.zero, i.size, i.bytes)) = some (some (.int k 0), 1, bytes)) (v : Value) (xs : List Int) (x : Int) (ad : Addr) (c : Nat)
    (hown : Own w base e k v xs) (hx : (Lit.int k x).wf = true) (hc : w.cell? ad = some (.int k x)) (hbase : base ≤ w.heap.size)
    (hlen : (xs.length + 1) * bytes ≤ 140737488355328) (h63 : xs.length + 1 ≤ maxLen) :
    ∃ v' w', (Builtin.append_ #[t, t] ty #[v, .slice (some ad) 1 c]).run P w = .ok v' w' ∧ Own w' base e k v' (xs ++ [x]) ∧ Ext w w' v v' := by
  obtain ⟨i, hi, hz0, hz1, hz2⟩ := info_parts hi
  obtain ⟨v', w', hr, h2, h3, _, h5⟩ := run_append_own_at (P := P) w base t ty e i (.int k 0) 1 bytes ht hi hz0 hz1 hz2 rfl (by decide) v _ _ hown.1 ad 1 c [.int k x] rfl
    (fun j u hj => by
      match j, hj with
      | 0, hj => simp at hj; subst hj; simpa [Addr.add] using hc) (fun u hu => by simp at hu; subst hu; rfl) h63 hlen hbase
  refine ⟨v', w', hr, ⟨by simpa using h2, fun y hy => ?_⟩, h3, ?_⟩
  · rcases List.mem_append.1 hy with hy | hy
    · exact hown.2 y hy
    · simp at hy; subst hy; exact hx
  · rcases h5 with h5 | h5
    · exact .inl h5
    · exact .inr ⟨_, h5, Nat.le_refl _⟩

theorem wpList_append_one {P : Program} {w : World} {ops : Array Oper} {rest : List Oper} {o : Oper} {a : Act} {Q : Exit → Act → World → Prop} (hgd : Region.wanted o (yielded ops a.tmps) = true) (s x : Operand) (t : TypeId)
    (ho : o.op = .call { callee := .builtin .append, args := #[s, x], argTypes := #[t, t] }) (base : Nat) (e : TypeId) (k : IntKind) (bytes : Nat) (ht : P.underlying t = some (.slice e))
    (hi : (P.info? e).map (fun i => (i.zero, i.size, i.bytes)) = some (some (.int k 0), 1, bytes)) (v : Value) (xs : List Int) (y : Int) (ad : Addr) (c : Nat)
    (hs : a.eval s = v) (hxx : a.eval x = .slice (some ad) 1 c)
    (hown : Own w base e k v xs) (hx : (Lit.int k y).wf = true) (hc : w.cell? ad = some (.int k y)) (hbase : base ≤ w.heap.size)
    (hlen : (xs.length + 1) * bytes ≤ 140737488355328) (h63 : xs.length + 1 ≤ maxLen)
    (h : ∀ v' w', Own w' base e k v' (xs ++ [y]) → Ext w w' v v' → wpList P ops Q rest (a.put o.dst v') w') : wpList P ops Q (o :: rest) a w := by
  refine wpList_want hgd fun _ hK => ?_
  obtain ⟨v', w', hrun, h2, h3⟩ := run_append_one (P := P) w base t o.type e k bytes ht hi v xs y ad c hown hx hc hbase hlen h63
  unfold Oper.wp execOp
  simp only [ho, resolve, invoke, builtin, Sem.run_bind, Sem.run_pure, Result.andThen_ok, List.map_toArray, List.map_cons, List.map_nil, hs, hxx, hrun]
  exact hK _ _ (h v' w' h2 h3)

theorem Own.alloc {w : World} {base : Nat} {e : TypeId} {k : IntKind} {v : Value} {xs : List Int} (h : Own w base e k v xs) (o : Obj) : Own (w.alloc o) base e k v xs := ⟨h.1.alloc o, h.2⟩

/-- 'v = append(v, y)' as the walk meets it: y has just been laid in a new block. -/
theorem wpList_push {P : Program} {w : World} {ops : Array Oper} {rest : List Oper} {o : Oper} {a : Act} {Q : Exit → Act → World → Prop} (hgd : Region.wanted o (yielded ops a.tmps) = true) (s x : Operand) (t : TypeId)
    (ho : o.op = .call { callee := .builtin .append, args := #[s, x], argTypes := #[t, t] }) (base : Nat) (e : TypeId) (k : IntKind) (bytes : Nat) (ht : P.underlying t = some (.slice e))
    (hi : (P.info? e).map (fun i => (i.zero, i.size, i.bytes)) = some (some (.int k 0), 1, bytes)) (v : Value) (xs : List Int) (y : Int)
    (hs : a.eval s = v) (hxx : a.eval x = .slice (some ⟨w.heap.size, 0, none⟩) 1 1)
    (hown : Own w base e k v xs) (hy : (Lit.int k y).wf = true) (hbase : base ≤ w.heap.size) (hlen : (xs.length + 1) * bytes ≤ 140737488355328) (h63 : xs.length < 140737488355328)
    (h : ∀ v' w', Own w' base e k v' (xs ++ [y]) → Ext w w' v v' → wpList P ops Q rest (a.put o.dst v') w') : wpList P ops Q (o :: rest) a (w.alloc (.cells #[.int k y] e)) :=
  wpList_append_one hgd s x t ho base e k bytes ht hi v xs y ⟨w.heap.size, 0, none⟩ 1 hs hxx (hown.alloc _) hy (by rw [World.cell?_alloc_at] <;> rfl) (by simp; omega) hlen (by unfold maxLen; omega)
    fun v' w' h2 h3 => h v' w' h2 (((Ext.refl w v).alloc _).trans h3)

theorem Rd.lit1 {w : World} {b off : Nat} {k : IntKind} {x : Int} (hc : w.cell? ⟨b, off, none⟩ = some (.int k x)) (hx : (Lit.int k x).wf = true) : Rd w w.heap.size k (some ⟨b, off, none⟩) 1 1 [x] :=
  ⟨rfl, Nat.le_refl _, by simp [maxLen], by simpa using hx, by simp, fun _ => ⟨b, off, rfl, World.block_lt_of_cell? w _ hc, fun j hj => by
    obtain rfl : j = 0 := by omega
    simpa [nth_zero] using hc⟩⟩

theorem Rd.alloc {w : World} {B : Nat} {k : IntKind} {A : Option Addr} {n c : Nat} {xs : List Int} (h : Rd w B k A n c xs) (hB : B ≤ w.heap.size) (o : Obj) : Rd (w.alloc o) B k A n c xs := h.below ((Below.refl B w).alloc hB o)
theorem Rd.drew {w : World} {B : Nat} {k : IntKind} {A : Option Addr} {n c : Nat} {xs : List Int} (h : Rd w B k A n c xs) : Rd w.drew B k A n c xs := h.below (Below.refl B w).drew

theorem Rd.str {P : Program} {w : World} {B : Nat} {A : Option Addr} {n c : Nat} {xs : List Int} {src dst e : TypeId} (h : Rd w B .u8 A n c xs) (hs : P.underlying src = some (.slice e)) (he : P.underlying e = some (.int .u8)) (hd : P.underlying dst = some .string) :
    (convert src dst (.slice A n c)).run P w = .ok (.string (strOfNums xs)) w := by
  rcases Nat.eq_zero_or_pos n with h0 | h0
  · subst h0
    have hx : xs = [] := List.eq_nil_of_length_eq_zero h.len
    subst hx
    cases A with
    | none => exact run_convert_bytes_nil w src e hs he 0 c dst hd
    | some a =>
      rw [run_convert_bytes_string w src dst e _ 0 c hs he hd, run_bytesToString w a 0 c [] (by simp [loadCells, loadCellsFrom])]
      rfl
  · obtain ⟨b, off, rfl, _, hc⟩ := h.at_ h0
    exact run_convert_bytes_arg w src e hs he b off n c xs h.len (fun i hi => hc i hi) dst hd

theorem cells_old {W w1 : World} (hb : Below W.heap.size W w1) : ∀ b o, b < W.heap.size → w1.cell? ⟨b, o, none⟩ = W.cell? ⟨b, o, none⟩ := fun b o h => hb.cell (p := ⟨b, o, none⟩) h

theorem str3 {P : Program} {src dst e : TypeId} (hs : P.underlying src = some (.slice e)) (he : P.underlying e = some (.int .u8)) (hd : P.underlying dst = some .string) (x y z : Int) (W : World) (b : Nat)
    (h0 : W.cell? ⟨b, 0, none⟩ = some (.int .u8 x)) (h1 : W.cell? ⟨b, 1, none⟩ = some (.int .u8 y)) (h2 : W.cell? ⟨b, 2, none⟩ = some (.int .u8 z)) :
    (convert src dst (.slice (some ⟨b, 0, none⟩) 3 3)).run P W = .ok (.string (strOfNums [x, y, z])) W :=
  run_convert_bytes_arg W src e hs he b 0 3 3 [x, y, z] rfl (fun i hi => by
    match i, hi with
    | 0, _ => simpa using h0
    | 1, _ => simpa using h1
    | 2, _ => simpa using h2) dst hd
theorem bel_alloc {a w : World} (h : Below a.heap.size a w) (o : Obj) : Below a.heap.size a (w.alloc o) := h.alloc h.size o
theorem bel_call {a X w2 : World} (hX : Below a.heap.size a X) (h : Below X.heap.size X w2) : Below a.heap.size a w2 := hX.trans (h.mono hX.size)
theorem bel_drewN {B : Nat} {a w : World} (h : Below B a w) (n : Nat) : Below B a (w.drewN n) := ⟨h.os, h.tape, h.output, h.size, h.block⟩
theorem Rd.drewN {w : World} {B : Nat} {k : IntKind} {A : Option Addr} {n c : Nat} {xs : List Int} (h : Rd w B k A n c xs) (m : Nat) : Rd (w.drewN m) B k A n c xs := h

/-- 'append(v, ys...)'. -/
theorem run_cat {P : Program} (w : World) (base : Nat) (t ty e : TypeId) (k : IntKind) (bytes : Nat) (ht : P.underlying t = some (.slice e))
    (hi : (P.info? e).map (fun i => (i.zero, i.size, i.bytes)) = some (some (.int k 0), 1, bytes)) (v : Value) (xs : List Int) (B : Nat) (A : Option Addr) (n c : Nat) (ys : List Int)
    (hown : Own w base e k v xs) (hr : Rd w B k A n c ys) (hbase : base ≤ w.heap.size) (hlen : (xs.length + n) * bytes ≤ 140737488355328) (h63 : xs.length + n < 140737488355328) :
    ∃ v' w', (Builtin.append_ #[t, t] ty #[v, .slice A n c]).run P w = .ok v' w' ∧ Own w' base e k v' (xs ++ ys) ∧ Ext w w' v v' := by
  obtain ⟨i, hi, hz0, hz1, hz2⟩ := info_parts hi
  rcases A with _ | ad
  · have hc := hr.no rfl
    have hn : n = 0 := by have := hr.cap; omega
    subst hc hn
    have hy : ys = [] := List.eq_nil_of_length_eq_zero hr.len
    subst hy
    exact ⟨v, w, run_append_owned_none (P := P) (w := w) base t ty e i 1 ht hi v _ _ hown.1, by simpa using hown, Ext.refl w v⟩
  · have hcells : ∀ j u, (ys.map (Value.int k))[j]? = some u → w.cell? (ad.add j) = some u := by
      intro j u hu
      have hj : j < n := by
        rcases Nat.lt_or_ge j n with h | h
        · exact h
        · rw [List.getElem?_eq_none (by rw [List.length_map, hr.len]; exact h)] at hu; cases hu
      obtain ⟨b, off, e, _, hc⟩ := hr.at_ (by omega)
      injection e with e
      subst e
      have hy : j < ys.length := by rw [hr.len]; exact hj
      rw [Addr.add_lit, hc j hj, ← hu, nth_get hy]
      simp [List.getElem?_eq_getElem hy]
    obtain ⟨v', w', hrun, h2, h3, _, h5⟩ := run_append_own_at (P := P) w base t ty e i (.int k 0) 1 bytes ht hi hz0 hz1 hz2 rfl (by decide) v _ _ hown.1 ad n c (ys.map (Value.int k)) (by rw [List.length_map, hr.len]; omega) hcells
      (fun u hu => by obtain ⟨x, _, rfl⟩ := List.mem_map.1 hu; rfl) (by unfold maxLen; omega) hlen hbase
    refine ⟨v', w', hrun, ⟨by rw [List.length_append, hr.len, List.map_append]; exact h2, fun y hy => ?_⟩, h3, ?_⟩
    · rcases List.mem_append.1 hy with hy | hy
      · exact hown.2 y hy
      · exact hr.wf y hy
    · rcases h5 with h5 | h5
      · exact .inl h5
      · exact .inr ⟨_, h5, Nat.le_refl _⟩

theorem wpList_cat {P : Program} {w : World} {ops : Array Oper} {rest : List Oper} {o : Oper} {a : Act} {Q : Exit → Act → World → Prop} (hgd : Region.wanted o (yielded ops a.tmps) = true) (s x : Operand) (t : TypeId)
    (ho : o.op = .call { callee := .builtin .append, args := #[s, x], argTypes := #[t, t] }) (base : Nat) (e : TypeId) (k : IntKind) (bytes : Nat) (ht : P.underlying t = some (.slice e))
    (hi : (P.info? e).map (fun i => (i.zero, i.size, i.bytes)) = some (some (.int k 0), 1, bytes)) (v : Value) (xs : List Int) (B : Nat) (A : Option Addr) (n c : Nat) (ys : List Int)
    (hs : a.eval s = v) (hxx : a.eval x = .slice A n c)
    (hown : Own w base e k v xs) (hr : Rd w B k A n c ys) (hbase : base ≤ w.heap.size) (hlen : (xs.length + n) * bytes ≤ 140737488355328) (h63 : xs.length + n < 140737488355328)
    (h : ∀ v' w', Own w' base e k v' (xs ++ ys) → Ext w w' v v' → wpList P ops Q rest (a.put o.dst v') w') : wpList P ops Q (o :: rest) a w := by
  refine wpList_want hgd fun _ hK => ?_
  obtain ⟨v', w', hrun, h2, h3⟩ := run_cat (P := P) w base t o.type e k bytes ht hi v xs B A n c ys hown hr hbase hlen h63
  unfold Oper.wp execOp
  simp only [ho, resolve, invoke, builtin, Sem.run_bind, Sem.run_pure, Result.andThen_ok, List.map_toArray, List.map_cons, List.map_nil, hs, hxx, hrun]
  exact hK _ _ (h v' w' h2 h3)

/-- Where 's[i:]' begins: a name, so that the walk does not part on it. -/
def cutA (A : Option Addr) (c i : Nat) : Option Addr := if c = i then A else A.map (·.add i)
theorem Rd.cut {w : World} {B : Nat} {k : IntKind} {A : Option Addr} {n c : Nat} {xs : List Int} (h : Rd w B k A n c xs) {i : Nat} (hi : i ≤ n) : Rd w B k (cutA A c i) (n - i) (c - i) (xs.drop i) := h.from_ hi
theorem run_from {P : Program} (t e : TypeId) {b : Nat} {z : Value} (ht : P.underlying t = some (.slice e)) (hel : P.elem t = e) (hi : (P.info? e).map (fun i => (i.zero, i.size, i.bytes)) = some (some z, 1, b)) (A : Option Addr) (n c k : Nat) (hk : k ≤ n) (w : World) :
    (Instr.slice t (.slice A n c) (some (.int .i64 (k : Int))) none none).run P w = .ok (.slice (cutA A c k) (n - k) (c - k)) w := by
  obtain ⟨i, hi, hz0, hz1, hz2⟩ := info_parts hi
  subst hel
  rw [run_slice_l w t A n c ht .i64 (k : Int) (by omega) (by omega)]
  simp [sizeOf, typeInfo, hi, hz1, sliced, cutA]

/-- A slice's length: for a loop's measure. -/
def slen : Value → Nat | .slice _ n _ => n | _ => 0
theorem run_upto {P : Program} (t e : TypeId) {b : Nat} {z : Value} (ht : P.underlying t = some (.slice e)) (hel : P.elem t = e) (hi : (P.info? e).map (fun i => (i.zero, i.size, i.bytes)) = some (some z, 1, b)) (A : Option Addr) (n c k : Nat) (hk : k ≤ c) (w : World) :
    (Instr.slice t (.slice A n c) none (some (.int .i64 (k : Int))) none).run P w = .ok (.slice A k c) w := by
  obtain ⟨i, hi, hz0, hz1, hz2⟩ := info_parts hi
  subst hel
  rw [run_slice_h w t A n c ht .i64 (k : Int) (by omega) (by omega)]
  have ha : ∀ a : Addr, a.add 0 = a := fun a => by simp [Addr.add]
  cases A <;> simp [sizeOf, typeInfo, hi, sliced, ha]
theorem Own.formN {w : World} {base : Nat} {e : TypeId} {k : IntKind} {v : Value} {xs : List Int} (h : Own w base e k v xs) : ∃ A n c, v = .slice A n c ∧ Rd w w.heap.size k A n c xs := by
  obtain ⟨A, c, hv, hr⟩ := h.form
  exact ⟨A, _, c, hv, hr⟩

/-- A literal of one element, just laid. -/
theorem Own.lit1 (w : World) (e : TypeId) (k : IntKind) (x : Int) (hx : (Lit.int k x).wf = true) : Own (w.alloc (.cells #[.int k x] e)) w.heap.size e k (.slice (some ⟨w.heap.size, 0, none⟩) 1 1) [x] :=
  ⟨⟨rfl, .inr ⟨w.heap.size, 1, #[.int k x], rfl, Nat.le_refl _, heap_alloc_new w _, Nat.le_refl _, by simp [maxLen], rfl, rfl⟩⟩, by simpa using hx⟩

end Go.Proofs.Ytannjlejghmfpaa
