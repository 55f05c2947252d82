/-
  A row that rises, searched by halves: where a number stands, or would stand; how two numbers stand to each other.
  A cell of an owned row is written: one element turns into another one. A row of elements that reach nothing may be said to reach from anywhere on.
  Room made ahead of appends: 'append(nil, make(S, n)...)[:0]'; the elements of a row of rows.
  Small words for any struct: rows compared one by one, draws added.
-/
import Derived.Laws.OwnMore
import Derived.Lib.AppendZeros
import Derived.Test.YtanlpcndbfmkiaaPack1
import Derived.Test.YtanlpcndbfmkiaaPack2
import Derived.Test.YtanlpcndbfmkiaaPack3
import Derived.Test.YtanlpcndbfmkiaaPack4
import Derived.Test.YtanlpcndbfmkiaaPack5
import Derived.Test.YtanlpcndbfmkiaaPack6
import Derived.Test.YtanlpcndbfmkiaaPack7
import Derived.Test.YtanlpcndbfmkiaaPack8
import Derived.Test.YtanlpcndbfmkiaaPack9
import Derived.Test.YtanlpcndbfmkiaaPack10
import Derived.Test.YtanlpcndbfmkiaaPack11
import Derived.Test.YtanlpcndbfmkiaaPack12
import Derived.Test.YtanlpcndbfmkiaaPack13
import Derived.Test.YtanlpcndbfmkiaaPack14
import Derived.Test.YtanlpcndbfmkiaaPack15
namespace Go.Proofs.Ytanlpcndbfmkiaa
open Go.RowKit Go.WalkArith

/-- How two numbers stand to each other. -/
def cmpI (x y : Int) : Int := if x < y then -1 else if y < x then 1 else 0
theorem isNaN_any (x : Int) (w : World) : Calls Try.prog 90 #[.int .u64 x] w fun e w' => e = .returned (.bool false) ∧ w = w' := by
  have h : (x != x) = false := by simp
  go_enter Try.func90, Try.ntmps90
  go_wp2
  go_ret
  exact ⟨rfl, rfl⟩
theorem compare_any (x y : Int) (w : World) : Calls Try.prog 71 #[.int .u64 x, .int .u64 y] w fun e w' => e = .returned (.int .i64 (cmpI x y)) ∧ w = w' := by
  go_enter Try.func71, Try.ntmps71
  go_wp2_with (go_at_call 90; refine (isNaN_any _ _).mono ?_; rintro e w' ⟨rfl, rfl⟩)
  all_goals (go_ret; exact ⟨ret_num (by unfold cmpI; (repeat' split) <;> omega), rfl⟩)

section
variable {α : Type} {f : α → Int} {l : List α} {t : Int}
def UpF (f : α → Int) (l : List α) : Prop := l.Pairwise fun a b => f a < f b
/-- k is the first place that is not below t. -/
def AtF (f : α → Int) (l : List α) (t : Int) (k : Nat) : Prop := k ≤ l.length ∧ (∀ (i : Nat) (h : i < l.length), i < k → f l[i] < t) ∧ ∀ (i : Nat) (h : i < l.length), k ≤ i → t ≤ f l[i]
/-- What a search knows of its two ends. -/
def EndsF (f : α → Int) (l : List α) (t : Int) (i j : Nat) : Prop := i ≤ j ∧ j ≤ l.length ∧ (∀ (k : Nat) (h : k < l.length), k < i → f l[k] < t) ∧ ∀ (k : Nat) (h : k < l.length), j ≤ k → t ≤ f l[k]
/-- Whether it stands there. -/
def hitF (f : α → Int) (l : List α) (t : Int) (k : Nat) : Bool := match l[k]? with | some x => f x == t | none => false
theorem hitF_get {k : Nat} (h : k < l.length) : hitF f l t k = (f l[k] == t) := by simp [hitF, List.getElem?_eq_getElem h]
theorem hitF_out {k : Nat} (h : l.length ≤ k) : hitF f l t k = false := by simp [hitF, List.getElem?_eq_none h]
theorem EndsF.up {i j m : Nat} (h : EndsF f l t i j) (hr : UpF f l) (hm : m < j) (hi : i ≤ m) (hx : m < l.length) (hlt : f l[m] < t) : EndsF f l t (m + 1) j := by
  refine ⟨by omega, h.2.1, fun k hk hkm => ?_, h.2.2.2⟩
  rcases Nat.lt_or_ge k m with h1 | h1
  · have := List.pairwise_iff_getElem.1 hr k m hk hx h1
    omega
  · obtain rfl : k = m := by omega
    exact hlt
theorem EndsF.down {i j m : Nat} (h : EndsF f l t i j) (hr : UpF f l) (hi : i ≤ m) (hx : m < l.length) (hlt : ¬ f l[m] < t) : EndsF f l t i m := by
  refine ⟨hi, by omega, h.2.2.1, fun k hk hmk => ?_⟩
  rcases Nat.lt_or_ge m k with h1 | h1
  · have := List.pairwise_iff_getElem.1 hr m k hx hk h1
    omega
  · obtain rfl : k = m := by omega
    omega
theorem AtF.lt {k : Nat} (h : AtF f l t k) : (l.filter fun x => decide (f x < t)) = l.take k := by
  conv => lhs; rw [← List.take_append_drop k l]
  rw [List.filter_append, List.filter_eq_self.2, List.filter_eq_nil_iff.2, List.append_nil]
  · intro r hr
    obtain ⟨i, hi, rfl⟩ := List.getElem_of_mem hr
    rw [List.getElem_drop]
    rw [List.length_drop] at hi
    have := h.2.2 (k + i) (by omega) (by omega)
    simpa using this
  · intro r hr
    obtain ⟨i, hi, rfl⟩ := List.getElem_of_mem hr
    rw [List.getElem_take]
    rw [List.length_take] at hi
    have := h.2.1 i (by omega) (by omega)
    simpa using this
theorem AtF.gt {k : Nat} (h : AtF f l t k) (hr : UpF f l) : (l.filter fun x => decide (t < f x)) = l.drop (if hitF f l t k = true then k + 1 else k) := by
  have key : ∀ m, (∀ (i : Nat) (h : i < l.length), i < m → ¬ t < f l[i]) → (∀ (i : Nat) (h : i < l.length), m ≤ i → t < f l[i]) → (l.filter fun x => decide (t < f x)) = l.drop m := by
    intro m h1 h2
    conv => lhs; rw [← List.take_append_drop m l]
    rw [List.filter_append, List.filter_eq_nil_iff.2, List.filter_eq_self.2, List.nil_append]
    · intro r hr
      obtain ⟨i, hi, rfl⟩ := List.getElem_of_mem hr
      rw [List.getElem_drop]
      rw [List.length_drop] at hi
      have := h2 (m + i) (by omega) (by omega)
      simpa using this
    · intro r hr
      obtain ⟨i, hi, rfl⟩ := List.getElem_of_mem hr
      rw [List.getElem_take]
      rw [List.length_take] at hi
      have := h1 i (by omega) (by omega)
      simpa using this
  split
  · rename_i he
    rcases Nat.lt_or_ge k l.length with hk | hk
    · rw [hitF_get hk] at he
      have he : f l[k] = t := by simpa using he
      refine key (k + 1) (fun i hi hik => ?_) fun i hi hik => ?_
      · rcases Nat.lt_or_ge i k with h1 | h1
        · have := h.2.1 i hi h1; omega
        · obtain rfl : i = k := by omega
          omega
      · have := List.pairwise_iff_getElem.1 hr k i hk hi (by omega)
        omega
    · rw [hitF_out hk] at he; cases he
  · rename_i he
    refine key k (fun i hi hik => by have := h.2.1 i hi hik; omega) fun i hi hik => ?_
    have h3 := h.2.2 k (by omega) (Nat.le_refl _)
    rw [hitF_get (by omega)] at he
    have he : f l[k] ≠ t := by simpa using he
    rcases Nat.lt_or_ge k i with h1 | h1
    · have h2 := List.pairwise_iff_getElem.1 hr k i (by omega) hi h1
      omega
    · obtain rfl : i = k := by omega
      omega
theorem AtF.find {k : Nat} (h : AtF f l t k) (hx : hitF f l t k = true) : ∃ hk : k < l.length, f l[k] = t ∧ (l.find? fun x => f x == t) = some l[k] := by
  rcases Nat.lt_or_ge k l.length with hk | hk
  · rw [hitF_get hk] at hx
    have he : f l[k] = t := by simpa using hx
    refine ⟨hk, he, ?_⟩
    rw [List.find?_eq_some_iff_getElem]
    refine ⟨by simpa using he, k, hk, rfl, fun j hj => ?_⟩
    have := h.2.1 j (by omega) hj
    simp; omega
  · rw [hitF_out hk] at hx; cases hx
theorem AtF.none {k : Nat} (h : AtF f l t k) (hr : UpF f l) (hx : hitF f l t k = false) : (l.find? fun x => f x == t) = Option.none := by
  rw [List.find?_eq_none]
  intro x hm
  obtain ⟨i, hi, rfl⟩ := List.getElem_of_mem hm
  have : f l[i] ≠ t := by
    rcases Nat.lt_or_ge i k with h1 | h1
    · have := h.2.1 i hi h1; omega
    · have hk : k < l.length := by omega
      rw [hitF_get hk] at hx
      have hx : f l[k] ≠ t := by simpa using hx
      have h3 := h.2.2 k hk (Nat.le_refl _)
      rcases Nat.lt_or_ge k i with h2 | h2
      · have := List.pairwise_iff_getElem.1 hr k i hk hi h2
        omega
      · obtain rfl : i = k := by omega
        exact hx
  simpa using this
/-- What is put together around a place. -/
theorem AtF.with_set {k : Nat} (h : AtF f l t k) (hr : UpF f l) (hx : hitF f l t k = true) (r : α) : (l.filter fun x => decide (f x < t)) ++ [r] ++ (l.filter fun x => decide (t < f x)) = l.set k r := by
  obtain ⟨hk, -, -⟩ := h.find hx
  rw [h.lt, h.gt hr, if_pos hx, List.set_eq_take_append_cons_drop, if_pos hk, List.append_assoc]
  rfl
theorem AtF.with_new {k : Nat} (h : AtF f l t k) (hr : UpF f l) (hx : hitF f l t k = false) (r : α) : (l.filter fun x => decide (f x < t)) ++ [r] ++ (l.filter fun x => decide (t < f x)) = l.take k ++ [r] ++ l.drop k := by
  rw [h.lt, h.gt hr, if_neg (by simp [hx])]
end
end Go.Proofs.Ytanlpcndbfmkiaa
namespace Go.Proofs.Ytanlpcndbfmkiaa
open Go.RowKit Go.WalkArith

section
variable {α : Type} {L : Lay α} {w : World} {S : Nat → Prop}
theorem RepRow.putAt {xs : List α} {cs : List Value} (h : RepRow L w S xs cs) {k i : Nat} {y : α} {u : Value} (hi : i < L.size) (hk : k < xs.length) (hy : ∀ c, L.rep w S xs[k] c → L.rep w S y (c.set i u)) : RepRow L w S (xs.set k y) (cs.set (k * L.size + i) u) := by
  induction xs generalizing cs k with
  | nil => simp at hk
  | cons x xs ih =>
    obtain ⟨c1, c2, rfl, h1, h2⟩ := h
    have l1 := L.len h1
    cases k with
    | zero =>
      refine ⟨c1.set i u, c2, ?_, hy c1 h1, h2⟩
      rw [Nat.zero_mul, Nat.zero_add, List.set_append_left _ _ (by omega)]
    | succ k =>
      refine ⟨c1, c2.set (k * L.size + i) u, ?_, h1, ih h2 (by simpa using hk) (by simpa using hy)⟩
      rw [List.set_append_right _ _ (by rw [l1, Nat.add_mul]; omega), l1]
      congr 2
      rw [Nat.add_mul]; omega
variable {base : Nat} {lo : Option Nat} {e : TypeId} {g n cap : Nat} {xs : List α}
theorem OwnL.num (h : OwnL L w base lo e (.slice (some ⟨g, 0, none⟩) n cap) xs) : xs.length = n := by
  obtain ⟨cs, h1, -⟩ := h
  rcases h1.2 with ⟨h', _⟩ | ⟨g', cap', cur, h', _⟩
  · cases h'
  · injection h' with _ h' _
    exact h'.symm
/-- An element's cells; none of them is frozen. -/
theorem OwnL.elem (h : OwnL L w base lo e (.slice (some ⟨g, 0, none⟩) n cap) xs) {k : Nat} (hk : k < xs.length) : ∃ c, L.rep w (Els w lo (.slice (some ⟨g, 0, none⟩) n cap)) xs[k] c ∧ (∀ i, i < L.size → w.cell? ⟨g, k * L.size + i, none⟩ = c[i]?) ∧ ∀ j, w.frozen? ⟨g, j, none⟩ = false := by
  have hn := h.num
  obtain ⟨cs, h1, h2⟩ := h
  rw [hn] at h1
  obtain ⟨c, hc, hi⟩ := h2.at_ hk
  refine ⟨c, hc, fun i hl => ?_, fun j => h1.frozenAt j⟩
  rw [h1.cellAt _ (by
    have : (k + 1) * L.size ≤ n * L.size := Nat.mul_le_mul_right _ (by omega)
    rw [Nat.add_mul] at this
    omega), hi i hl]
theorem OwnL.put (h : OwnL L w base lo e (.slice (some ⟨g, 0, none⟩) n cap) xs) {k i : Nat} {y : α} {u : Value} (hi : i < L.size) (hk : k < xs.length)
    (hy : ∀ (w : World) (S : Nat → Prop) c, L.rep w S xs[k] c → L.rep w S y (c.set i u)) : OwnL L (w.setCell ⟨g, k * L.size + i, none⟩ u) base lo e (.slice (some ⟨g, 0, none⟩) n cap) (xs.set k y) := by
  have hn := h.num
  obtain ⟨cs, h1, h2⟩ := h
  rw [hn] at h1
  have h3 := (h1.stored (k * L.size + i) u).1
  refine ⟨cs.set (k * L.size + i) u, by rw [List.length_set, hn]; exact h3, ?_⟩
  have hne : ∀ b, Els w lo (.slice (some ⟨g, 0, none⟩) n cap) b → b ≠ g := fun b hb e => hb.2.2 (by rw [e]; rfl)
  refine ((h2.putAt hi hk (hy w _)).keep fun p hp => World.cell?_of_block (Below.heap_setCell _ _ _ _ (hne _ hp))).wide fun b hb => ?_
  exact ⟨hb.1.of_block (Below.heap_setCell _ _ _ _ (hne b hb)), by simpa using hb.2.1, hb.2.2⟩
/-- The block that it lies in. -/
theorem OwnL.ownG (h : OwnL L w base lo e (.slice (some ⟨g, 0, none⟩) n cap) xs) : base ≤ g ∧ g < w.heap.size := by
  obtain ⟨cs, h1, -⟩ := h
  exact h1.lt g rfl
theorem OwnL.shape {v : Value} (h : OwnL L w base lo e v xs) (hx : 0 < xs.length) : ∃ g cap, v = .slice (some ⟨g, 0, none⟩) xs.length cap := by
  obtain ⟨cs, h1, -⟩ := h
  rcases h1.2 with ⟨_, h'⟩ | ⟨g', cap', cur, h', _⟩
  · omega
  · exact ⟨g', cap', h'⟩
/-- What reaches nothing may be said to reach from anywhere on. -/
theorem RepRow.flat {S' : Nat → Prop} (hf : ∀ (w : World) (S S' : Nat → Prop) (a : α) c, L.rep w S a c → L.rep w S' a c) {cs : List Value} (h : RepRow L w S xs cs) : RepRow L w S' xs cs := by
  induction xs generalizing cs with
  | nil => exact h
  | cons x xs ih =>
    obtain ⟨c1, c2, rfl, h1, h2⟩ := h
    exact ⟨c1, c2, rfl, hf w S S' x c1 h1, ih h2⟩
theorem OwnL.flat {v : Value} (hf : ∀ (w : World) (S S' : Nat → Prop) (a : α) c, L.rep w S a c → L.rep w S' a c) (h : OwnL L w base lo e v xs) (lo' : Option Nat) : OwnL L w base lo' e v xs := by
  obtain ⟨cs, h1, h2⟩ := h
  exact ⟨cs, h1, h2.flat hf⟩
end
/-- '[]T{}': a row of none in a block of its own. -/
theorem OwnL.empty {α : Type} (L : Lay α) (w : World) (e : TypeId) (lo : Option Nat) : OwnL L (w.alloc (.cells #[] e)) w.heap.size lo e (.slice (some ⟨w.heap.size, 0, none⟩) 0 0) [] :=
  ⟨[], ⟨by simp, .inr ⟨w.heap.size, 0, #[], rfl, Nat.le_refl _, heap_alloc_new w _, Nat.le_refl _, by unfold maxLen; omega, by simp, by simp⟩⟩, rfl⟩
end Go.Proofs.Ytanlpcndbfmkiaa
namespace Go.Proofs.Ytanlpcndbfmkiaa
open Go.RowKit Go.WalkArith

theorem run_zeros0 {α : Type} {P : Program} (L : Lay α) (w : World) (t tn ty e : TypeId) (k kn : IntKind) {z : Value} {bytes : Nat} (ht : P.underlying t = some (.slice e)) (htn : P.underlying tn = some (.int kn))
    (hi : (P.info? e).map (fun i => (i.zero, i.size, i.bytes)) = some (some z, L.size, bytes)) (hzs : z.cells.size = L.size) (hsz : 0 < L.size) (lo : Option Nat) (n : Nat) (h0 : 0 < n) (hn : n ≤ 1048576) (hby : bytes ≤ 1048576) :
    ∃ cap W, (Builtin.append_ #[t, tn] ty #[.slice none 0 0, .int k n]).run P w = .ok (.slice (some ⟨w.heap.size, 0, none⟩) n cap) W ∧ OwnL L W w.heap.size lo e (.slice (some ⟨w.heap.size, 0, none⟩) 0 cap) [] ∧ Below w.heap.size w W := by
  obtain ⟨i, hi, hz0, hz1, hz2⟩ := info_parts hi
  have hb : n * i.bytes ≤ 281474976710656 := Nat.le_trans (Nat.mul_le_mul hn (by rw [hz2]; exact hby)) (by decide)
  have hr := Lib.run_append_nil_zeros (P := P) w t tn ty e i z k kn ht htn hi hz0 n h0 (by rw [hz1]; exact hsz) (by omega) hb
  have hge := grownCap_ge w n 0 e
  have hle := grownCap_le_maxLen w n 0 e (by unfold maxLen; omega)
  generalize grownCap w n 0 e = cap at *
  refine ⟨cap, _, hr, ⟨[], ⟨by simp, .inr ⟨w.heap.size, cap, _, rfl, Nat.le_refl _, heap_alloc_new w.drew _, Nat.zero_le _, hle, ?_, by simp⟩⟩, rfl⟩, bel_alloc (Below.refl _ _).drew _⟩
  rw [Array.size_append, size_zeroCells, size_zeroCells, hzs, ← Nat.add_mul]
  congr 1
  omega
/-- The j-th one of a row of rows. -/
theorem row_at {α : Type} {L : Lay α} {w : World} {S : Nat → Prop} {A : Option Addr} {n c : Nat} {ls : List (List α)} (h : Sl (Lay.slice L) w S A n c ls) {j : Nat} (hj : j < n) :
    ∃ b off A' n' c', ∃ hx : j < ls.length, A = some ⟨b, off, none⟩ ∧ S b ∧ w.cell? ⟨b, off + j, none⟩ = some (.slice A' n' c') ∧ Sl L w S A' n' c' ls[j] := by
  obtain ⟨b, off, cs, hx, rfl, hb, ⟨A', n', c', rfl, hs⟩, hc⟩ := h.at_ hj
  have := hc 0 _ rfl
  rw [show (Lay.slice L).size = 1 from rfl, Nat.mul_one, Nat.add_zero] at this
  exact ⟨b, off, A', n', c', hx, rfl, hb, this, hs⟩
theorem flat_take {α : Type} {ls : List (List α)} {j : Nat} (hj : j < ls.length) : (ls.take (j + 1)).flatten = (ls.take j).flatten ++ ls[j] := by
  rw [List.take_succ_eq_append_getElem hj, List.flatten_append]
  simp
/-- So many elements the rows ahead of place j have. -/
def lenF {α : Type} (ls : List (List α)) (j : Nat) : Nat := (ls.take j).flatten.length
theorem flat_take_len {α : Type} (ls : List (List α)) (j : Nat) : lenF ls j ≤ ls.flatten.length := by
  unfold lenF
  conv => rhs; rw [← List.take_append_drop j ls]
  rw [List.flatten_append, List.length_append]
  omega
end Go.Proofs.Ytanlpcndbfmkiaa
namespace Go.Proofs.Ytanlpcndbfmkiaa
open Go.RowKit Go.WalkArith

theorem drew_add_any (w : World) (m n : Nat) : (w.drewN m).drewN n = w.drewN (m + n) := by
  simp [World.drewN, Nat.add_assoc]
theorem take_same_any {α : Type} {l o : List α} {j : Nat} (hx : j < l.length) (hy : j < o.length) (h : l.take j = o.take j) (e : l[j] = o[j]) : l.take (j + 1) = o.take (j + 1) := by
  rw [List.take_succ_eq_append_getElem hx, List.take_succ_eq_append_getElem hy, h, e]
/-- Without the first one of some kind. -/
theorem eraseP_at {α : Type} {p : α → Bool} : ∀ {l : List α} {j : Nat} (hj : j < l.length), (∀ i (hi : i < l.length), i < j → p l[i] = false) → p l[j] = true → l.eraseP p = l.take j ++ l.drop (j + 1)
  | x :: l, 0, _, _, h => by rw [List.eraseP_cons_of_pos (by simpa using h)]; rfl
  | x :: l, j + 1, hj, h0, h => by
    have hx : p x = false := by have := h0 0 (by simp) (by omega); simpa using this
    rw [List.eraseP_cons_of_neg (by simp [hx]), eraseP_at (l := l) (j := j) (by simpa using hj) (fun i hi hij => by have := h0 (i + 1) (by simpa using hi) (by omega); simpa using this) (by simpa using h)]
    rfl
section
variable {α : Type} {L : Lay α} {w W : World} {lo : Nat} {A : Option Addr} {n c : Nat} {xs : List α}
theorem Sl.frT (h : Sl L w (From w lo) A n c xs) (hb : Below w.heap.size w W) : Sl L W (From W lo) A n c xs := (h.keep fun _ hp => hb.cell hp.2.1).wide fun _ hq => hq.keep hb
theorem Sl.frR (h : Sl L w (From w lo) A n c xs) (hb : Below w.heap.size w W) : Sl L W (· < W.heap.size) A n c xs := (h.frT hb).wide fun _ h => h.2.1
end
end Go.Proofs.Ytanlpcndbfmkiaa
