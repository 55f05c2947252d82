/-
  The document's types as layouts.
  Numbers as octets: the plain functions, and what holds of them. No program.
  The contracts of package bigsize's functions.
-/
import Derived.Test.YtgiapfenalhleaaRows
import Derived.OpenShut
import Derived.Laws.BitsAllLaws
import Derived.Deep.QuietTactic
import Derived.BigQuiet
import Derived.Test.YtgiapfenalhleaaPack1
import Derived.Test.YtgiapfenalhleaaPack2
namespace Go.Proofs.Ytgiapfenalhleaa
open Go.ChangeShapes Go.WideShapes Go.RowKit Go.WalkArith Go.Deep

/-- api.Record. -/
structure Rec where
  T : Int
  V : List Int
  deriving DecidableEq
def lay_Record : Lay Rec := ((Lay.int .u64).prod ((Lay.slice (Lay.int .u8)).prod Lay.unit)).via fun r => (r.T, r.V, ())
theorem of_Record : LayOf Try.prog 83 lay_Record :=
  layOf_via (layOf_struct Try.underlying83 (by kernel_rfl) (.cons rfl (layOf_int Try.underlying25 (by kernel_rfl)) (.cons rfl (layOf_slice Try.underlying46 (by kernel_rfl) (layOf_int Try.underlying5 (by kernel_rfl)) (by decide)) (.nil _)))) _
    fun ⟨t, v, _⟩ => ⟨⟨t, v⟩, rfl⟩
theorem rep_Record {w : World} {S : Nat → Prop} {r : Rec} {cs : List Value} : lay_Record.rep w S r cs ↔ ∃ A n c, cs = [.int .u64 r.T, .slice A n c] ∧ (Lit.int .u64 r.T).wf = true ∧ Sl (Lay.int .u8) w S A n c r.V := by
  constructor
  · rintro ⟨c1, c2, rfl, ⟨rfl, hw⟩, c3, c4, rfl, ⟨A, n, c, rfl, hs⟩, rfl⟩
    exact ⟨A, n, c, rfl, hw, hs⟩
  · rintro ⟨A, n, c, rfl, hw, hs⟩
    exact ⟨[_], [_], rfl, ⟨rfl, hw⟩, [_], [], rfl, ⟨A, n, c, rfl, hs⟩, rfl⟩
theorem size_Record : lay_Record.size = 2 := rfl

/-- The j-th record: its cells in memory, its number's bounds, its octets. -/
theorem rec_at {w : World} {S : Nat → Prop} {A : Option Addr} {n c : Nat} {l : List Rec} (h : Sl lay_Record w S A n c l) {j : Nat} (hj : j < n) :
    ∃ b off A' n' c', ∃ hx : j < l.length, A = some ⟨b, off, none⟩ ∧ S b ∧ w.cell? ⟨b, off + j * 2, none⟩ = some (.int .u64 l[j].T) ∧ w.cell? ⟨b, off + j * 2 + 1, none⟩ = some (.slice A' n' c') ∧ (0 ≤ l[j].T ∧ l[j].T ≤ 18446744073709551615) ∧ Sl (Lay.int .u8) w S A' n' c' l[j].V := by
  obtain ⟨b, off, cs, hx, rfl, hb, hr, hc⟩ := h.at_ hj
  obtain ⟨A', n', c', rfl, hw, hs⟩ := rep_Record.1 hr
  exact ⟨b, off, A', n', c', hx, rfl, hb, hc 0 _ rfl, hc 1 _ rfl, bounds_u64 hw, hs⟩

/-- api.Reader. -/
structure Rdr where
  B : List Int
  Bad : Bool
  deriving DecidableEq
def lay_Reader : Lay Rdr := ((Lay.slice (Lay.int .u8)).prod (Lay.bool.prod Lay.unit)).via fun r => (r.B, r.Bad, ())
theorem rep_Reader {w : World} {S : Nat → Prop} {r : Rdr} {cs : List Value} : lay_Reader.rep w S r cs ↔ ∃ A n c, cs = [.slice A n c, .bool r.Bad] ∧ Sl (Lay.int .u8) w S A n c r.B := by
  constructor
  · rintro ⟨c1, c2, rfl, ⟨A, n, c, rfl, hs⟩, c3, c4, rfl, rfl, rfl⟩
    exact ⟨A, n, c, rfl, hs⟩
  · rintro ⟨A, n, c, rfl, hs⟩
    exact ⟨[_], [_], rfl, ⟨A, n, c, rfl, hs⟩, [_], [], rfl, rfl, rfl⟩
theorem size_Reader : lay_Reader.size = 2 := rfl

/-- api.Term. -/
structure Trm where
  Key : Int
  Up : Int
  Text : List Int
  deriving DecidableEq
def lay_Term : Lay Trm := ((Lay.int .u64).prod ((Lay.int .i64).prod ((Lay.slice (Lay.int .u8)).prod Lay.unit))).via fun r => (r.Key, r.Up, r.Text, ())
theorem of_Term : LayOf Try.prog 62 lay_Term :=
  layOf_via (layOf_struct Try.underlying62 (by kernel_rfl) (.cons rfl (layOf_int Try.underlying25 (by kernel_rfl)) (.cons rfl (layOf_int Try.underlying3 (by kernel_rfl)) (.cons rfl (layOf_slice Try.underlying46 (by kernel_rfl) (layOf_int Try.underlying5 (by kernel_rfl)) (by decide)) (.nil _))))) _
    fun ⟨k, u, t, _⟩ => ⟨⟨k, u, t⟩, rfl⟩
theorem rep_Term {w : World} {S : Nat → Prop} {r : Trm} {cs : List Value} : lay_Term.rep w S r cs ↔ ∃ A n c, cs = [.int .u64 r.Key, .int .i64 r.Up, .slice A n c] ∧ (Lit.int .u64 r.Key).wf = true ∧ (Lit.int .i64 r.Up).wf = true ∧ Sl (Lay.int .u8) w S A n c r.Text := by
  constructor
  · rintro ⟨c1, c2, rfl, ⟨rfl, hw⟩, c3, c4, rfl, ⟨rfl, hu⟩, c5, c6, rfl, ⟨A, n, c, rfl, hs⟩, rfl⟩
    exact ⟨A, n, c, rfl, hw, hu, hs⟩
  · rintro ⟨A, n, c, rfl, hw, hu, hs⟩
    exact ⟨[_], [_, _], rfl, ⟨rfl, hw⟩, [_], [_], rfl, ⟨rfl, hu⟩, [_], [], rfl, ⟨A, n, c, rfl, hs⟩, rfl⟩
theorem size_Term : lay_Term.size = 3 := rfl
/-- The j-th term: its cells in memory, its numbers' bounds, its octets. -/
theorem trm_at {w : World} {S : Nat → Prop} {A : Option Addr} {n c : Nat} {l : List Trm} (h : Sl lay_Term w S A n c l) {j : Nat} (hj : j < n) :
    ∃ b off A' n' c', ∃ hx : j < l.length, A = some ⟨b, off, none⟩ ∧ S b ∧ w.cell? ⟨b, off + j * 3, none⟩ = some (.int .u64 l[j].Key) ∧ w.cell? ⟨b, off + j * 3 + 1, none⟩ = some (.int .i64 l[j].Up) ∧ w.cell? ⟨b, off + j * 3 + 2, none⟩ = some (.slice A' n' c') ∧ (Lit.int .u64 l[j].Key).wf = true ∧ (Lit.int .i64 l[j].Up).wf = true ∧ Sl (Lay.int .u8) w S A' n' c' l[j].Text := by
  obtain ⟨b, off, cs, hx, rfl, hb, hr, hc⟩ := h.at_ hj
  obtain ⟨A', n', c', rfl, hw, hu, hs⟩ := rep_Term.1 hr
  exact ⟨b, off, A', n', c', hx, rfl, hb, hc 0 _ rfl, hc 1 _ rfl, hc 2 _ rfl, hw, hu, hs⟩

/-- api.Arena: its terms. -/
def lay_Arena : Lay (List Trm) := ((Lay.slice lay_Term).prod Lay.unit).via fun l => (l, ())
theorem of_Arena : LayOf Try.prog 24 lay_Arena :=
  layOf_via (layOf_struct Try.underlying24 (by kernel_rfl) (.cons rfl (layOf_slice Try.underlying22 (by kernel_rfl) of_Term (by decide)) (.nil _))) _
    fun ⟨l, _⟩ => ⟨l, rfl⟩
theorem rep_Arena {w : World} {S : Nat → Prop} {l : List Trm} {cs : List Value} : lay_Arena.rep w S l cs ↔ ∃ A n c, cs = [.slice A n c] ∧ Sl lay_Term w S A n c l := by
  constructor
  · rintro ⟨c1, c2, rfl, ⟨A, n, c, rfl, hs⟩, rfl⟩
    exact ⟨A, n, c, rfl, hs⟩
  · rintro ⟨A, n, c, rfl, hs⟩
    exact ⟨[_], [], rfl, ⟨A, n, c, rfl, hs⟩, rfl⟩
theorem size_Arena : lay_Arena.size = 1 := rfl
theorem agg_Arena {w : World} {S : Nat → Prop} {l : List Trm} {s : Array Value} (h : lay_Arena.rep w S l s.toList) : ∃ A n c, s = #[.slice A n c] ∧ Sl lay_Term w S A n c l := by
  obtain ⟨A, n, c, hc, hs⟩ := rep_Arena.1 h
  exact ⟨A, n, c, Array.ext' hc, hs⟩

/-- api.Caveat. -/
structure Cav where
  Kind : Int
  A : Int
  B : Int
  deriving DecidableEq
def lay_Caveat : Lay Cav := ((Lay.int .i64).prod ((Lay.int .u64).prod ((Lay.int .u64).prod Lay.unit))).via fun r => (r.Kind, r.A, r.B, ())
theorem of_Caveat : LayOf Try.prog 30 lay_Caveat :=
  layOf_via (layOf_struct Try.underlying30 (by kernel_rfl) (.cons rfl (layOf_int Try.underlying3 (by kernel_rfl)) (.cons rfl (layOf_int Try.underlying25 (by kernel_rfl)) (.cons rfl (layOf_int Try.underlying25 (by kernel_rfl)) (.nil _))))) _
    fun ⟨k, a, b, _⟩ => ⟨⟨k, a, b⟩, rfl⟩
/-- Its numbers' bounds. -/
structure CavWf (c : Cav) : Prop where
  kind : (Lit.int .i64 c.Kind).wf = true
  a : (Lit.int .u64 c.A).wf = true
  b : (Lit.int .u64 c.B).wf = true
theorem rep_Caveat {w : World} {S : Nat → Prop} {c : Cav} {cs : List Value} : lay_Caveat.rep w S c cs ↔ cs = [.int .i64 c.Kind, .int .u64 c.A, .int .u64 c.B] ∧ CavWf c := by
  constructor
  · rintro ⟨c1, c2, rfl, ⟨rfl, hk⟩, c3, c4, rfl, ⟨rfl, ha⟩, c5, c6, rfl, ⟨rfl, hb⟩, rfl⟩
    exact ⟨rfl, hk, ha, hb⟩
  · rintro ⟨rfl, hk, ha, hb⟩
    exact ⟨[_], [_, _], rfl, ⟨rfl, hk⟩, [_], [_], rfl, ⟨rfl, ha⟩, [_], [], rfl, ⟨rfl, hb⟩, rfl⟩
theorem size_Caveat : lay_Caveat.size = 3 := rfl
theorem agg_Caveat {w : World} {S : Nat → Prop} {c : Cav} {s : Array Value} (h : lay_Caveat.rep w S c s.toList) : s = #[.int .i64 c.Kind, .int .u64 c.A, .int .u64 c.B] ∧ CavWf c := by
  obtain ⟨hc, hw⟩ := rep_Caveat.1 h
  exact ⟨Array.ext' hc, hw⟩
/-- The j-th caveat's cells. -/
theorem cav_at {w : World} {S : Nat → Prop} {A : Option Addr} {n c : Nat} {l : List Cav} (h : Sl lay_Caveat w S A n c l) {j : Nat} (hj : j < n) :
    ∃ b off, ∃ hx : j < l.length, A = some ⟨b, off, none⟩ ∧ S b ∧ w.cell? ⟨b, off + j * 3, none⟩ = some (.int .i64 l[j].Kind) ∧ w.cell? ⟨b, off + j * 3 + 1, none⟩ = some (.int .u64 l[j].A) ∧ w.cell? ⟨b, off + j * 3 + 2, none⟩ = some (.int .u64 l[j].B) ∧ CavWf l[j] := by
  obtain ⟨b, off, cs, hx, rfl, hb, hr, hc⟩ := h.at_ hj
  obtain ⟨rfl, hw⟩ := rep_Caveat.1 hr
  exact ⟨b, off, hx, rfl, hb, hc 0 _ rfl, hc 1 _ rfl, hc 2 _ rfl, hw⟩

/-- api.Use. -/
structure Usx where
  Tick : Int
  Method : Int
  Amount : Int
  Who : Int
  deriving DecidableEq
def lay_Use : Lay Usx := ((Lay.int .u64).prod ((Lay.int .i64).prod ((Lay.int .u64).prod ((Lay.int .u64).prod Lay.unit)))).via fun r => (r.Tick, r.Method, r.Amount, r.Who, ())
structure UseWf (u : Usx) : Prop where
  tick : (Lit.int .u64 u.Tick).wf = true
  method : (Lit.int .i64 u.Method).wf = true
  amount : (Lit.int .u64 u.Amount).wf = true
  who : (Lit.int .u64 u.Who).wf = true
theorem rep_Use {w : World} {S : Nat → Prop} {u : Usx} {cs : List Value} : lay_Use.rep w S u cs ↔ cs = [.int .u64 u.Tick, .int .i64 u.Method, .int .u64 u.Amount, .int .u64 u.Who] ∧ UseWf u := by
  constructor
  · rintro ⟨c1, c2, rfl, ⟨rfl, h1⟩, c3, c4, rfl, ⟨rfl, h2⟩, c5, c6, rfl, ⟨rfl, h3⟩, c7, c8, rfl, ⟨rfl, h4⟩, rfl⟩
    exact ⟨rfl, h1, h2, h3, h4⟩
  · rintro ⟨rfl, h1, h2, h3, h4⟩
    exact ⟨[_], [_, _, _], rfl, ⟨rfl, h1⟩, [_], [_, _], rfl, ⟨rfl, h2⟩, [_], [_], rfl, ⟨rfl, h3⟩, [_], [], rfl, ⟨rfl, h4⟩, rfl⟩
theorem size_Use : lay_Use.size = 4 := rfl
theorem agg_Use {w : World} {S : Nat → Prop} {u : Usx} {s : Array Value} (h : lay_Use.rep w S u s.toList) : s = #[.int .u64 u.Tick, .int .i64 u.Method, .int .u64 u.Amount, .int .u64 u.Who] ∧ UseWf u := by
  obtain ⟨hc, hw⟩ := rep_Use.1 h
  exact ⟨Array.ext' hc, hw⟩

/-- api.Token. -/
structure Tok where
  Root : Int
  L : List Cav
  Tag : Int
  deriving DecidableEq
def lay_Token : Lay Tok := ((Lay.int .u64).prod ((Lay.slice lay_Caveat).prod ((Lay.int .i64).prod Lay.unit))).via fun r => (r.Root, r.L, r.Tag, ())
theorem of_Token : LayOf Try.prog 28 lay_Token :=
  layOf_via (layOf_struct Try.underlying28 (by kernel_rfl) (.cons rfl (layOf_int Try.underlying25 (by kernel_rfl)) (.cons rfl (layOf_slice Try.underlying26 (by kernel_rfl) of_Caveat (by decide)) (.cons rfl (layOf_int Try.underlying3 (by kernel_rfl)) (.nil _))))) _
    fun ⟨k, u, t, _⟩ => ⟨⟨k, u, t⟩, rfl⟩
theorem rep_Token {w : World} {S : Nat → Prop} {r : Tok} {cs : List Value} : lay_Token.rep w S r cs ↔ ∃ A n c, cs = [.int .u64 r.Root, .slice A n c, .int .i64 r.Tag] ∧ (Lit.int .u64 r.Root).wf = true ∧ (Lit.int .i64 r.Tag).wf = true ∧ Sl lay_Caveat w S A n c r.L := by
  constructor
  · rintro ⟨c1, c2, rfl, ⟨rfl, hw⟩, c3, c4, rfl, ⟨A, n, c, rfl, hs⟩, c5, c6, rfl, ⟨rfl, hu⟩, rfl⟩
    exact ⟨A, n, c, rfl, hw, hu, hs⟩
  · rintro ⟨A, n, c, rfl, hw, hu, hs⟩
    exact ⟨[_], [_, _], rfl, ⟨rfl, hw⟩, [_], [_], rfl, ⟨A, n, c, rfl, hs⟩, [_], [], rfl, ⟨rfl, hu⟩, rfl⟩
theorem size_Token : lay_Token.size = 3 := rfl
theorem agg_Token {w : World} {S : Nat → Prop} {x : Tok} {s : Array Value} (h : lay_Token.rep w S x s.toList) : ∃ A n c, s = #[.int .u64 x.Root, .slice A n c, .int .i64 x.Tag] ∧ (Lit.int .u64 x.Root).wf = true ∧ (Lit.int .i64 x.Tag).wf = true ∧ Sl lay_Caveat w S A n c x.L := by
  obtain ⟨A, n, c, hc, h1, h2, h3⟩ := rep_Token.1 h
  exact ⟨A, n, c, Array.ext' hc, h1, h2, h3⟩


/-- api.RootKey. -/
structure Rtk where
  Id : Int
  Key : Int
  Gone : Bool
  deriving DecidableEq
def lay_RootKey : Lay Rtk := ((Lay.int .u64).prod ((Lay.int .u64).prod (Lay.bool.prod Lay.unit))).via fun r => (r.Id, r.Key, r.Gone, ())
/-- Its numbers' bounds. -/
structure RtkWf (c : Rtk) : Prop where
  id : (Lit.int .u64 c.Id).wf = true
  key : (Lit.int .u64 c.Key).wf = true
theorem rep_RootKey {w : World} {S : Nat → Prop} {c : Rtk} {cs : List Value} : lay_RootKey.rep w S c cs ↔ cs = [.int .u64 c.Id, .int .u64 c.Key, .bool c.Gone] ∧ RtkWf c := by
  constructor
  · rintro ⟨c1, c2, rfl, ⟨rfl, hk⟩, c3, c4, rfl, ⟨rfl, ha⟩, c5, c6, rfl, rfl, rfl⟩
    exact ⟨rfl, hk, ha⟩
  · rintro ⟨rfl, hk, ha⟩
    exact ⟨[_], [_, _], rfl, ⟨rfl, hk⟩, [_], [_], rfl, ⟨rfl, ha⟩, [_], [], rfl, rfl, rfl⟩
theorem size_RootKey : lay_RootKey.size = 3 := rfl
theorem agg_RootKey {w : World} {S : Nat → Prop} {c : Rtk} {s : Array Value} (h : lay_RootKey.rep w S c s.toList) : s = #[.int .u64 c.Id, .int .u64 c.Key, .bool c.Gone] ∧ RtkWf c := by
  obtain ⟨hc, hw⟩ := rep_RootKey.1 h
  exact ⟨Array.ext' hc, hw⟩
/-- The j-th root's cells. -/
theorem rtk_at {w : World} {S : Nat → Prop} {A : Option Addr} {n c : Nat} {l : List Rtk} (h : Sl lay_RootKey w S A n c l) {j : Nat} (hj : j < n) :
    ∃ b off, ∃ hx : j < l.length, A = some ⟨b, off, none⟩ ∧ S b ∧ w.cell? ⟨b, off + j * 3, none⟩ = some (.int .u64 l[j].Id) ∧ w.cell? ⟨b, off + j * 3 + 1, none⟩ = some (.int .u64 l[j].Key) ∧ w.cell? ⟨b, off + j * 3 + 2, none⟩ = some (.bool l[j].Gone) ∧ RtkWf l[j] := by
  obtain ⟨b, off, cs, hx, rfl, hb, hr, hc⟩ := h.at_ hj
  obtain ⟨rfl, hw⟩ := rep_RootKey.1 hr
  exact ⟨b, off, hx, rfl, hb, hc 0 _ rfl, hc 1 _ rfl, hc 2 _ rfl, hw⟩
end Go.Proofs.Ytgiapfenalhleaa
namespace Go.Proofs.Ytgiapfenalhleaa
open Go.RowKit Go.WalkArith

/-- The first octet of n. -/
def fst (n : Int) : Int := if n < 253 then n else if n < 65536 then 253 else if n < 4294967296 then 254 else 255
/-- How many octets stand behind a first one. -/
def bhd (f : Int) : Nat := if f = 253 then 2 else if f = 254 then 4 else if f = 255 then 8 else 0
/-- The last k octets of n, the highest one first. -/
def high (n : Int) : Nat → List Int
  | 0 => []
  | k + 1 => n / 2 ^ (8 * k) % 256 :: high n k
def oct (n : Int) : List Int := fst n :: high n (bhd (fst n))
def octs (l : List Int) : List Int := l.flatMap oct

theorem fst_bd (n : Int) (h0 : 0 ≤ n) : 0 ≤ fst n ∧ fst n ≤ 255 := by unfold fst; split <;> (try split) <;> (try split) <;> omega
theorem bhd_le (f : Int) : bhd f ≤ 8 := by unfold bhd; split <;> (try split) <;> (try split) <;> omega
theorem high_len (n : Int) (k : Nat) : (high n k).length = k := by induction k with | zero => rfl | succ k ih => simp [high, ih]
theorem high_take (n : Int) (k j : Nat) (h : j < k) : (high n k).take (j + 1) = (high n k).take j ++ [n / 2 ^ (8 * (k - 1 - j)) % 256] := by
  induction k generalizing j with
  | zero => omega
  | succ k ih =>
    cases j with
    | zero => simp [high]
    | succ j =>
      simp only [high, List.take_succ_cons, List.cons_append]
      rw [ih j (by omega), show k + 1 - 1 - (j + 1) = k - 1 - j from by omega]
theorem high_bd (n : Int) (k : Nat) : ∀ x ∈ high n k, 0 ≤ x ∧ x ≤ 255 := by
  induction k with
  | zero => simp [high]
  | succ k ih =>
    intro x hx
    simp only [high, List.mem_cons] at hx
    rcases hx with rfl | hx
    · omega
    · exact ih x hx
theorem oct_bd (n : Int) (h0 : 0 ≤ n) : ∀ x ∈ oct n, 0 ≤ x ∧ x ≤ 255 := by
  intro x hx
  simp only [oct, List.mem_cons] at hx
  rcases hx with rfl | hx
  · exact fst_bd n h0
  · exact high_bd _ _ x hx
theorem oct_len (n : Int) : (oct n).length = 1 + bhd (fst n) := by simp [oct, high_len]; omega
theorem octs_len_le (l : List Int) : (octs l).length ≤ 9 * l.length := by
  induction l with
  | nil => simp [octs]
  | cons x l ih =>
    have h1 := oct_len x
    have h2 := bhd_le (fst x)
    simp only [octs, List.flatMap_cons, List.length_append, List.length_cons] at ih ⊢
    omega
theorem octs_append (a b : List Int) : octs (a ++ b) = octs a ++ octs b := by simp [octs]
theorem octs_take (xs : List Int) (j : Nat) (h : j < xs.length) : octs (xs.take (j + 1)) = octs (xs.take j) ++ oct (nth xs j) := by
  rw [List.take_succ_eq_append_getElem h, octs_append]
  simp [octs, nth_get h]

/-- The order of texts. -/
def lexLt : List Int → List Int → Bool
  | _, [] => false
  | [], _ :: _ => true
  | a :: x, b :: y => decide (a < b) || (decide (a = b) && lexLt x y)

theorem u8_inj {x y : Int} (hx : 0 ≤ x ∧ x ≤ 255) (hy : 0 ≤ y ∧ y ≤ 255) (h : UInt8.ofNat x.toNat = UInt8.ofNat y.toNat) : x = y := by
  have h1 : (UInt8.ofNat x.toNat).toNat = (UInt8.ofNat y.toNat).toNat := by rw [h]
  simp only [UInt8.toNat_ofNat'] at h1
  omega
theorem str_list (xs : List Int) : (strOfNums xs).toList = xs.map fun n => UInt8.ofNat n.toNat := by simp [strOfNums]
theorem str_inj {xs ys : List Int} (hx : ∀ x ∈ xs, 0 ≤ x ∧ x ≤ 255) (hy : ∀ x ∈ ys, 0 ≤ x ∧ x ≤ 255) (h : (strOfNums xs).toList = (strOfNums ys).toList) : xs = ys := by
  rw [str_list, str_list] at h
  induction xs generalizing ys with
  | nil => cases ys with | nil => rfl | cons y ys => simp at h
  | cons x xs ih =>
    cases ys with
    | nil => simp at h
    | cons y ys =>
      simp only [List.map_cons, List.cons.injEq] at h
      rw [u8_inj (hx x (by simp)) (hy y (by simp)) h.1, ih (fun z hz => hx z (by simp [hz])) (fun z hz => hy z (by simp [hz])) h.2]
theorem str_eq {xs ys : List Int} (hx : ∀ x ∈ xs, 0 ≤ x ∧ x ≤ 255) (hy : ∀ x ∈ ys, 0 ≤ x ∧ x ≤ 255) : ((strOfNums xs).toList == (strOfNums ys).toList) = decide (xs = ys) := by
  by_cases h : xs = ys
  · subst h; simp
  · have : ¬ (strOfNums xs).toList = (strOfNums ys).toList := fun e => h (str_inj hx hy e)
    rw [decide_eq_false h]
    exact beq_eq_false_iff_ne.2 this
theorem str_lt {xs ys : List Int} (hx : ∀ x ∈ xs, 0 ≤ x ∧ x ≤ 255) (hy : ∀ x ∈ ys, 0 ≤ x ∧ x ≤ 255) : Op.bytesLess (strOfNums xs).toList (strOfNums ys).toList = lexLt xs ys := by
  rw [str_list, str_list]
  induction xs generalizing ys with
  | nil => cases ys <;> rfl
  | cons x xs ih =>
    cases ys with
    | nil => rfl
    | cons y ys =>
      have bx := hx x (by simp)
      have by_ := hy y (by simp)
      simp only [List.map_cons, Op.bytesLess, lexLt]
      rw [ih (fun z hz => hx z (by simp [hz])) (fun z hz => hy z (by simp [hz]))]
      congr 1
      · rw [Bool.eq_iff_iff]
        simp [UInt8.lt_iff_toNat_lt, UInt8.toNat_ofNat']
        omega
      · congr 1
        by_cases h : x = y
        · subst h; simp
        · rw [decide_eq_false h]
          exact beq_eq_false_iff_ne.2 fun e => h (u8_inj bx by_ e)

theorem pow_pos8 (k : Nat) : (0 : Int) < 2 ^ (8 * k) := Int.pow_pos (by omega)
theorem pow_succ8 (k : Nat) : (2 : Int) ^ (8 * (k + 1)) = 2 ^ (8 * k) * 256 := by rw [show 8 * (k + 1) = 8 * k + 8 from by omega, Int.pow_add]; rfl
theorem high_snoc (n : Int) (k : Nat) : high n (k + 1) = high (n / 256) k ++ [n % 256] := by
  induction k with
  | zero => simp [high]
  | succ k ih =>
    rw [high, ih]
    simp only [high, List.cons_append, List.cons.injEq, and_true]
    rw [pow_succ8, Int.mul_comm, Int.ediv_ediv_of_nonneg (by omega)]
theorem lex_snoc (a b : List Int) (x y : Int) (h : a.length = b.length) : lexLt (a ++ [x]) (b ++ [y]) = (lexLt a b || (decide (a = b) && decide (x < y))) := by
  induction a generalizing b with
  | nil =>
    cases b with
    | nil => simp [lexLt]
    | cons => simp at h
  | cons u a ih =>
    cases b with
    | nil => simp at h
    | cons v b =>
      simp only [List.cons_append, lexLt]
      rw [ih b (by simpa using h)]
      by_cases e : u = v
      · subst e; simp
      · simp [e]
theorem lex_high (k : Nat) (n m : Int) (hn : 0 ≤ n) (hm : m < 2 ^ (8 * k)) (h : n < m) : lexLt (high n k) (high m k) = true := by
  induction k generalizing n m with
  | zero => simp at hm; omega
  | succ k ih =>
    rw [high_snoc n, high_snoc m, lex_snoc _ _ _ _ (by rw [high_len, high_len])]
    rw [pow_succ8] at hm
    have hm' : m / 256 < 2 ^ (8 * k) := Int.ediv_lt_of_lt_mul (by omega) hm
    by_cases hq : n / 256 < m / 256
    · rw [ih _ _ (by omega) hm' hq]; rfl
    · have e : n / 256 = m / 256 := by omega
      have : n % 256 < m % 256 := by omega
      rw [e]
      simp [this]
theorem lex_irrefl (a : List Int) : lexLt a a = false := by
  induction a with
  | nil => rfl
  | cons x a ih => simp [lexLt, ih]
theorem fst_mono {n m : Int} (h : n < m) : fst n ≤ fst m := by unfold fst; (repeat' split) <;> omega
theorem bhd_mono {n m : Int} (h : fst n ≤ fst m) (hb : fst m ≤ 255) : bhd (fst n) ≤ bhd (fst m) := by unfold bhd; (repeat' split) <;> omega
theorem fst_fits {m : Int} (h0 : 0 ≤ m) (hm : m < 18446744073709551616) : bhd (fst m) = 0 ∧ m < 253 ∧ fst m = m ∨ m < 2 ^ (8 * bhd (fst m)) := by
  unfold fst
  repeat' split
  · exact .inl ⟨by unfold bhd; (repeat' split) <;> omega, by omega, rfl⟩
  · right; simp [bhd]; omega
  · right; simp [bhd]; omega
  · right; simp [bhd]; omega
/-- Of two different numbers: the octets of the smaller one are no more, come ahead, and do not begin the other's. -/
theorem oct_apart {n m : Int} (hn : 0 ≤ n) (hm : m < 18446744073709551616) (h : n < m) :
    (oct n).length ≤ (oct m).length ∧ lexLt (oct n) (oct m) = true ∧ oct n ≠ (oct m).take (oct n).length := by
  have f1 := fst_mono h
  have f2 := fst_bd m (by omega)
  have hl : (oct n).length ≤ (oct m).length := by rw [oct_len, oct_len]; have := bhd_mono f1 f2.2; omega
  by_cases hf : fst n < fst m
  · refine ⟨hl, by simp [oct, lexLt, hf], fun e => ?_⟩
    rw [oct_len, Nat.add_comm] at e
    simp only [oct, List.take_succ_cons, List.cons.injEq] at e
    omega
  · have hfe : fst n = fst m := by omega
    have hlt : lexLt (oct n) (oct m) = true := by
      simp only [oct, lexLt, hfe]
      rcases fst_fits (m := m) (by omega) hm with ⟨_, _, h3⟩ | h4
      · exfalso
        rw [h3] at hfe
        unfold fst at hfe
        revert hfe
        repeat' split
        all_goals omega
      · rw [lex_high _ n m hn h4 h]; simp
    refine ⟨hl, hlt, fun e => ?_⟩
    rw [List.take_of_length_le (by rw [oct_len, oct_len, hfe]; omega)] at e
    rw [e, lex_irrefl] at hlt
    cases hlt
theorem wf_bytes {xs : List Int} (h : ∀ x ∈ xs, (Lit.int .u8 x).wf = true) : ∀ x ∈ xs, 0 ≤ x ∧ x ≤ 255 := fun x hx => bounds_u8 (h x hx)

theorem snoc_ind {α : Type} {p : List α → Prop} (l : List α) (nil : p []) (snoc : ∀ l x, p l → p (l ++ [x])) : p l := by
  rw [← List.reverse_reverse l]
  induction l.reverse with
  | nil => exact nil
  | cons x l ih => rw [List.reverse_cons]; exact snoc _ _ ih
/-- The number whose octets these are. -/
def val (l : List Int) : Int := l.foldl (fun a b => a * 256 + b) 0
theorem val_snoc (l : List Int) (x : Int) : val (l ++ [x]) = val l * 256 + x := by simp [val]
theorem val_bd (l : List Int) (h : ∀ x ∈ l, 0 ≤ x ∧ x ≤ 255) : 0 ≤ val l ∧ val l < 2 ^ (8 * l.length) := by
  induction l using snoc_ind with
  | nil => simp [val]
  | snoc l x ih =>
    have h1 := ih fun y hy => h y (by simp [hy])
    have h2 := h x (by simp)
    rw [val_snoc, List.length_append, List.length_singleton, pow_succ8]
    omega
theorem high_val (l : List Int) (h : ∀ x ∈ l, 0 ≤ x ∧ x ≤ 255) : high (val l) l.length = l := by
  induction l using snoc_ind with
  | nil => simp [high]
  | snoc l x ih =>
    have h1 := ih fun y hy => h y (by simp [hy])
    have h2 := h x (by simp)
    rw [val_snoc, List.length_append, List.length_singleton, high_snoc, show (val l * 256 + x) / 256 = val l from by omega, h1, show (val l * 256 + x) % 256 = x from by omega]
theorem val_high (k : Nat) (n : Int) (h0 : 0 ≤ n) (hn : n < 2 ^ (8 * k)) : val (high n k) = n := by
  induction k generalizing n with
  | zero => simp at hn; simp [high, val]; omega
  | succ k ih =>
    rw [pow_succ8] at hn
    rw [high_snoc, val_snoc, ih (n / 256) (by omega) (Int.ediv_lt_of_lt_mul (by omega) hn)]
    omega

/-- What 'read' tells. -/
def valTo (xs : List Int) (j : Nat) : Int := val ((xs.drop 1).take j)
def rdN (xs : List Int) : Int := if bhd (nth xs 0) = 0 then nth xs 0 else valTo xs (bhd (nth xs 0))
theorem valTo_succ (xs : List Int) (j : Nat) (h : 1 + j < xs.length) : valTo xs (j + 1) = valTo xs j * 256 + nth xs (1 + j) := by
  unfold valTo
  rw [List.take_succ_eq_append_getElem (by rw [List.length_drop]; omega), val_snoc, nth_get h]
  simp [Nat.add_comm]
theorem valTo_bd (xs : List Int) (j : Nat) (hw : ∀ x ∈ xs, 0 ≤ x ∧ x ≤ 255) : 0 ≤ valTo xs j ∧ valTo xs j < 2 ^ (8 * j) := by
  have h := val_bd ((xs.drop 1).take j) fun x hx => hw x (List.mem_of_mem_drop (List.mem_of_mem_take hx))
  refine ⟨h.1, Int.lt_of_lt_of_le h.2 ?_⟩
  have : ((xs.drop 1).take j).length ≤ j := List.length_take_le _ _
  exact_mod_cast Nat.pow_le_pow_right (by omega) (by omega : 8 * ((xs.drop 1).take j).length ≤ 8 * j)
theorem pow8_le (j : Nat) (h : j ≤ 7) : (2 : Int) ^ (8 * j) ≤ 72057594037927936 := by
  have : j = 0 ∨ j = 1 ∨ j = 2 ∨ j = 3 ∨ j = 4 ∨ j = 5 ∨ j = 6 ∨ j = 7 := by omega
  rcases this with h | h | h | h | h | h | h | h <;> subst h <;> decide
theorem or_byte (v y : Int) (h0 : 0 ≤ v) (h1 : v < 72057594037927936) (h2 : 0 ≤ y) (h3 : y ≤ 255) : bits .or .u64 (v * 256) y = v * 256 + y := by
  obtain ⟨a, rfl⟩ := Int.eq_ofNat_of_zero_le h0
  obtain ⟨b, rfl⟩ := Int.eq_ofNat_of_zero_le h2
  have h := u64_or_nat (a * 256) b (by omega) (by omega)
  rw [show ((a * 256 : Nat) : Int) = (a : Int) * 256 from by simp] at h
  rw [h]
  have h8 := Nat.shiftLeft_add_eq_or_of_lt (b := b) (i := 8) (by omega) a
  rw [Nat.shiftLeft_eq] at h8
  rw [show a * 256 = a * 2 ^ 8 from rfl, ← h8]
  simp

/-- The error that 'Get' tells. -/
def getE (xs : List Int) : Int := if xs.length ≤ bhd (nth xs 0) then 3 else if fst (rdN xs) = nth xs 0 then 0 else 2
theorem rdN_bd (xs : List Int) (hl : 0 < xs.length) (hw : ∀ x ∈ xs, 0 ≤ x ∧ x ≤ 255) : 0 ≤ rdN xs ∧ rdN xs ≤ 18446744073709551615 := by
  have h1 := hw _ (nth_mem hl)
  have h2 := valTo_bd xs (bhd (nth xs 0)) hw
  unfold rdN
  split
  · omega
  · refine ⟨h2.1, ?_⟩
    have h3 : bhd (nth xs 0) = 2 ∨ bhd (nth xs 0) = 4 ∨ bhd (nth xs 0) = 8 := by
      rename_i hz
      unfold bhd at hz ⊢
      revert hz
      (repeat' split) <;> omega
    rcases h3 with h | h | h <;> rw [h] at h2 ⊢ <;> simp at h2 <;> omega

end Go.Proofs.Ytgiapfenalhleaa
namespace Go.Proofs.Ytgiapfenalhleaa
open Go.RowKit Go.WalkArith

theorem Try.infoU8 : (Try.prog.info? 5).map (fun i => (i.zero, i.size, i.bytes)) = some (some (.int .u8 0), 1, 1) := by kernel_rfl
theorem Try.elemU8 : Try.prog.elem 46 = 5 := by kernel_rfl
theorem Try.infoU64 : (Try.prog.info? 25).map (fun i => (i.zero, i.size, i.bytes)) = some (some (.int .u64 0), 1, 8) := by kernel_rfl

set_option maxHeartbeats 400000 in
theorem behind_any (f : Int) (w : World) :
    Calls Try.prog 88 #[.int .u8 f] w fun e w' => e = .returned (.int .i64 (bhd f : Nat)) ∧ w = w' := by
  go_enter Try.func88, Try.ntmps88
  go_wp2
  all_goals (go_ret; simp_all [bhd])

set_option maxHeartbeats 400000 in
theorem first_any (n : Int) (w : World) (h0 : 0 ≤ n) :
    Calls Try.prog 87 #[.int .u64 n] w fun e w' => e = .returned (.int .u8 (fst n)) ∧ w = w' := by
  go_enter Try.func87, Try.ntmps87
  go_wp2
  all_goals (go_ret; exact ⟨ret_num (by unfold fst; (repeat' split) <;> omega), rfl⟩)

set_option maxHeartbeats 400000 in
theorem size_any (n : Int) (w : World) (h0 : 0 ≤ n) :
    Calls Try.prog 102 #[.int .u64 n] w fun e w' => e = .returned (.int .i64 ((oct n).length : Nat)) ∧ w = w' := by
  have hb := bhd_le (fst n)
  go_enter Try.func102, Try.ntmps102
  go_wp2_with (first | (go_at_call 87; refine (first_any n _ h0).mono ?_; rintro e w' ⟨rfl, rfl⟩) | (go_at_call 88; refine (behind_any _ _).mono ?_; rintro e w' ⟨rfl, rfl⟩))
  go_ret
  refine ⟨?_, rfl⟩
  rw [oct_len]
  simp

set_option maxHeartbeats 1000000 in
theorem appendNumber_any (v : Value) (xs : List Int) (n : Int) (w : World) (base : Nat) (h0 : 0 ≤ n) (hown : Own w base 5 .u8 v xs) (hbase : base ≤ w.heap.size) (hlen : xs.length ≤ 1000000) :
    Calls Try.prog 68 #[v, .int .u64 n] w fun e w' => ∃ v', e = .returned v' ∧ Own w' base 5 .u8 v' (xs ++ oct n) ∧ Ext w w' v v' := by
  have hb := bhd_le (fst n)
  have hf := fst_bd n h0
  go_enter Try.func68, Try.ntmps68
  go_wp2_with (first | (go_at_call 87; refine (first_any n _ h0).mono ?_; rintro e w' ⟨rfl, rfl⟩) | (go_at_call 88; refine (behind_any _ _).mono ?_; rintro e w' ⟨rfl, rfl⟩) | (at_builtin; go_must (refine wpList_push rfl _ _ 46 rfl base 5 .u8 1 Try.underlying46 Try.infoU8 v xs (fst n) rfl rfl hown (wf_u8 hf) hbase (by omega) (by omega) ?_; intro v1 w1 hown1 hext1)))
  have hK : (high n (bhd (fst n))).length = bhd (fst n) := high_len _ _
  go_loopw [0, 17] (fun u i wr => ∃ j : Nat, j ≤ bhd (fst n) ∧ i = .int .i64 j ∧ Own wr base 5 .u8 u (xs ++ [fst n] ++ (high n (bhd (fst n))).take j) ∧ Ext w wr v u) (fun _ i _ => bhd (fst n) - (intOf i).toNat)
  case atStart => exact ⟨0, Nat.zero_le _, rfl, by simpa using hown1, hext1⟩
  case round =>
    obtain ⟨j, hj, rfl, hown2, hext2⟩ := hrel
    clear hown1 hext1 hown
    have hs2 := hext2.size
    by_cases hlt : j < bhd (fst n)
    · have hl2 : (xs ++ [fst n] ++ (high n (bhd (fst n))).take j).length ≤ 1000009 := by simp [hK]; omega
      have ht := high_take n (bhd (fst n)) j hlt
      have HT := hid ht
      clear ht hK
      go_wp2_with (at_builtin; go_must (refine wpList_push rfl _ _ 46 rfl base 5 .u8 1 Try.underlying46 Try.infoU8 u0 _ (n / 2 ^ (8 * (bhd (fst n) - 1 - j)) % 256) rfl rfl hown2 (wf_u8 (by omega)) (by omega) (by omega) (by omega) ?_; intro v3 w3 hown3 hext3))
      go_roundw
      case rel => exact ⟨j + 1, by omega, by go_num, by rw [HT.out, ← List.append_assoc]; exact hown3, hext2.trans hext3⟩
      case measure => simp [intOf]; omega
    · go_wp2
      go_ret
      exact ⟨_, rfl, by rw [List.take_of_length_le (by omega)] at hown2; simpa [oct] using hown2, hext2⟩

set_option maxHeartbeats 1000000 in
theorem put_any (A : Option Addr) (l c : Nat) (xs : List Int) (w : World) (hr : Rd w w.heap.size .u64 A l c xs) (hl : l ≤ 1000) :
    Calls Try.prog 34 #[.slice A l c] w fun e w' => ∃ v', e = .returned v' ∧ Own w' w.heap.size 5 .u8 v' (octs xs) ∧ Below w.heap.size w w' := by
  have hcap := hr.cap
  unfold maxLen at hcap
  go_enter Try.func34, Try.ntmps34
  go_wp2
  go_loopw [3, 8] (fun u i wr => ∃ j : Nat, j ≤ l ∧ i = .int .i64 j ∧ Own wr w.heap.size 5 .u8 u (octs (xs.take j)) ∧ Below w.heap.size w wr) (fun _ i _ => l - (intOf i).toNat)
  case atStart => exact ⟨0, Nat.zero_le _, rfl, Own.nil _ _ _ _, Below.refl _ _⟩
  case round =>
    obtain ⟨j, hj, rfl, hown, hbel⟩ := hrel
    have hsz := hbel.size
    by_cases hlt : j < l
    · obtain ⟨b, off, rfl, hb, hcell⟩ := hr.at_ (by omega)
      have hc := (hbel.cell (p := ⟨b, off + j, none⟩) hb).trans (hcell j hlt)
      have hn := bounds_u64 (hr.wf (nth xs j) (nth_mem (by rw [hr.len]; exact hlt)))
      have hol := octs_len_le (xs.take j)
      have hol2 : (octs (xs.take j)).length ≤ 1000000 := by rw [List.length_take, hr.len] at hol; omega
      have HT := hid (octs_take xs j (by rw [hr.len]; exact hlt))
      clear hcell hol
      generalize nth xs j = x at *
      go_wp2_with (go_at_call 68; go_must (refine (appendNumber_any _ _ x _ w.heap.size hn.1 hown hsz hol2).mono ?_; rintro e w2 ⟨v2, rfl, hown2, hext2⟩))
      go_roundw
      case rel => exact ⟨j + 1, by omega, by go_num, by rw [HT.out]; exact hown2, hbel.trans (hown.below hext2 hsz)⟩
      case measure => simp [intOf]; omega
    · go_wp2
      go_ret
      exact ⟨_, rfl, by rw [List.take_of_length_le (by rw [hr.len]; omega)] at hown; exact hown, hbel⟩
end Go.Proofs.Ytgiapfenalhleaa
