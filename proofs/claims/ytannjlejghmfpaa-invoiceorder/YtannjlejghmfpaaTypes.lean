/-
  The document's types as layouts.
-/
import Derived.Test.YtannjlejghmfpaaLay
import Derived.Test.YtannjlejghmfpaaRows
namespace Go.Proofs.Ytannjlejghmfpaa
open Go.ChangeShapes Go.WideShapes Go.RowKit Go.WalkArith Go.Deep

/-- api.Record. -/
structure Rec where
  T : Int
  V : List Int
  deriving DecidableEq
def lay_Record : Lay Rec := ((Lay.int .u64).prod ((Lay.slice (Lay.int .u8)).prod Lay.unit)).via fun r => (r.T, r.V, ())
theorem rep_Record {w : World} {S : Nat → Prop} {r : Rec} {cs : List Value} : lay_Record.rep w S r cs ↔ ∃ A n c, cs = [.int .u64 r.T, .slice A n c] ∧ (Lit.int .u64 r.T).wf = true ∧ Sl (Lay.int .u8) w S A n c r.V := by
  constructor
  · rintro ⟨c1, c2, rfl, ⟨rfl, hw⟩, c3, c4, rfl, ⟨A, n, c, rfl, hs⟩, rfl⟩
    exact ⟨A, n, c, rfl, hw, hs⟩
  · rintro ⟨A, n, c, rfl, hw, hs⟩
    exact ⟨[_], [_], rfl, ⟨rfl, hw⟩, [_], [], rfl, ⟨A, n, c, rfl, hs⟩, rfl⟩
theorem size_Record : lay_Record.size = 2 := rfl

/-- The j-th record: its cells in memory, its number's bounds, its octets. -/
theorem rec_at {w : World} {S : Nat → Prop} {A : Option Addr} {n c : Nat} {l : List Rec} (h : Sl lay_Record w S A n c l) {j : Nat} (hj : j < n) :
    ∃ b off A' n' c', ∃ hx : j < l.length, A = some ⟨b, off, none⟩ ∧ S b ∧ w.cell? ⟨b, off + j * 2, none⟩ = some (.int .u64 l[j].T) ∧ w.cell? ⟨b, off + j * 2 + 1, none⟩ = some (.slice A' n' c') ∧ (0 ≤ l[j].T ∧ l[j].T ≤ 18446744073709551615) ∧ Sl (Lay.int .u8) w S A' n' c' l[j].V := by
  obtain ⟨b, off, cs, hx, rfl, hb, hr, hc⟩ := h.at_ hj
  obtain ⟨A', n', c', rfl, hw, hs⟩ := rep_Record.1 hr
  exact ⟨b, off, A', n', c', hx, rfl, hb, hc 0 _ rfl, hc 1 _ rfl, bounds_u64 hw, hs⟩

/-- api.Reader. -/
structure Rdr where
  B : List Int
  Bad : Bool
  deriving DecidableEq
def lay_Reader : Lay Rdr := ((Lay.slice (Lay.int .u8)).prod (Lay.bool.prod Lay.unit)).via fun r => (r.B, r.Bad, ())
theorem rep_Reader {w : World} {S : Nat → Prop} {r : Rdr} {cs : List Value} : lay_Reader.rep w S r cs ↔ ∃ A n c, cs = [.slice A n c, .bool r.Bad] ∧ Sl (Lay.int .u8) w S A n c r.B := by
  constructor
  · rintro ⟨c1, c2, rfl, ⟨A, n, c, rfl, hs⟩, c3, c4, rfl, rfl, rfl⟩
    exact ⟨A, n, c, rfl, hs⟩
  · rintro ⟨A, n, c, rfl, hs⟩
    exact ⟨[_], [_], rfl, ⟨A, n, c, rfl, hs⟩, [_], [], rfl, rfl, rfl⟩
theorem size_Reader : lay_Reader.size = 2 := rfl

/-- api.Term. -/
structure Trm where
  Key : Int
  Up : Int
  Text : List Int
  deriving DecidableEq
def lay_Term : Lay Trm := ((Lay.int .u64).prod ((Lay.int .i64).prod ((Lay.slice (Lay.int .u8)).prod Lay.unit))).via fun r => (r.Key, r.Up, r.Text, ())
theorem rep_Term {w : World} {S : Nat → Prop} {r : Trm} {cs : List Value} : lay_Term.rep w S r cs ↔ ∃ A n c, cs = [.int .u64 r.Key, .int .i64 r.Up, .slice A n c] ∧ (Lit.int .u64 r.Key).wf = true ∧ (Lit.int .i64 r.Up).wf = true ∧ Sl (Lay.int .u8) w S A n c r.Text := by
  constructor
  · rintro ⟨c1, c2, rfl, ⟨rfl, hw⟩, c3, c4, rfl, ⟨rfl, hu⟩, c5, c6, rfl, ⟨A, n, c, rfl, hs⟩, rfl⟩
    exact ⟨A, n, c, rfl, hw, hu, hs⟩
  · rintro ⟨A, n, c, rfl, hw, hu, hs⟩
    exact ⟨[_], [_, _], rfl, ⟨rfl, hw⟩, [_], [_], rfl, ⟨rfl, hu⟩, [_], [], rfl, ⟨A, n, c, rfl, hs⟩, rfl⟩
theorem size_Term : lay_Term.size = 3 := rfl
/-- The j-th term: its cells in memory, its numbers' bounds, its octets. -/
theorem trm_at {w : World} {S : Nat → Prop} {A : Option Addr} {n c : Nat} {l : List Trm} (h : Sl lay_Term w S A n c l) {j : Nat} (hj : j < n) :
    ∃ b off A' n' c', ∃ hx : j < l.length, A = some ⟨b, off, none⟩ ∧ S b ∧ w.cell? ⟨b, off + j * 3, none⟩ = some (.int .u64 l[j].Key) ∧ w.cell? ⟨b, off + j * 3 + 1, none⟩ = some (.int .i64 l[j].Up) ∧ w.cell? ⟨b, off + j * 3 + 2, none⟩ = some (.slice A' n' c') ∧ (Lit.int .u64 l[j].Key).wf = true ∧ (Lit.int .i64 l[j].Up).wf = true ∧ Sl (Lay.int .u8) w S A' n' c' l[j].Text := by
  obtain ⟨b, off, cs, hx, rfl, hb, hr, hc⟩ := h.at_ hj
  obtain ⟨A', n', c', rfl, hw, hu, hs⟩ := rep_Term.1 hr
  exact ⟨b, off, A', n', c', hx, rfl, hb, hc 0 _ rfl, hc 1 _ rfl, hc 2 _ rfl, hw, hu, hs⟩

/-- api.Arena: its terms. -/
def lay_Arena : Lay (List Trm) := ((Lay.slice lay_Term).prod Lay.unit).via fun l => (l, ())
theorem rep_Arena {w : World} {S : Nat → Prop} {l : List Trm} {cs : List Value} : lay_Arena.rep w S l cs ↔ ∃ A n c, cs = [.slice A n c] ∧ Sl lay_Term w S A n c l := by
  constructor
  · rintro ⟨c1, c2, rfl, ⟨A, n, c, rfl, hs⟩, rfl⟩
    exact ⟨A, n, c, rfl, hs⟩
  · rintro ⟨A, n, c, rfl, hs⟩
    exact ⟨[_], [], rfl, ⟨A, n, c, rfl, hs⟩, rfl⟩
theorem size_Arena : lay_Arena.size = 1 := rfl
theorem agg_Arena {w : World} {S : Nat → Prop} {l : List Trm} {s : Array Value} (h : lay_Arena.rep w S l s.toList) : ∃ A n c, s = #[.slice A n c] ∧ Sl lay_Term w S A n c l := by
  obtain ⟨A, n, c, hc, hs⟩ := rep_Arena.1 h
  exact ⟨A, n, c, Array.ext' hc, hs⟩

/-- api.Caveat. -/
structure Cav where
  Kind : Int
  A : Int
  B : Int
  deriving DecidableEq
def lay_Caveat : Lay Cav := ((Lay.int .i64).prod ((Lay.int .u64).prod ((Lay.int .u64).prod Lay.unit))).via fun r => (r.Kind, r.A, r.B, ())
/-- Its numbers' bounds. -/
structure CavWf (c : Cav) : Prop where
  kind : (Lit.int .i64 c.Kind).wf = true
  a : (Lit.int .u64 c.A).wf = true
  b : (Lit.int .u64 c.B).wf = true
theorem rep_Caveat {w : World} {S : Nat → Prop} {c : Cav} {cs : List Value} : lay_Caveat.rep w S c cs ↔ cs = [.int .i64 c.Kind, .int .u64 c.A, .int .u64 c.B] ∧ CavWf c := by
  constructor
  · rintro ⟨c1, c2, rfl, ⟨rfl, hk⟩, c3, c4, rfl, ⟨rfl, ha⟩, c5, c6, rfl, ⟨rfl, hb⟩, rfl⟩
    exact ⟨rfl, hk, ha, hb⟩
  · rintro ⟨rfl, hk, ha, hb⟩
    exact ⟨[_], [_, _], rfl, ⟨rfl, hk⟩, [_], [_], rfl, ⟨rfl, ha⟩, [_], [], rfl, ⟨rfl, hb⟩, rfl⟩
theorem size_Caveat : lay_Caveat.size = 3 := rfl
theorem agg_Caveat {w : World} {S : Nat → Prop} {c : Cav} {s : Array Value} (h : lay_Caveat.rep w S c s.toList) : s = #[.int .i64 c.Kind, .int .u64 c.A, .int .u64 c.B] ∧ CavWf c := by
  obtain ⟨hc, hw⟩ := rep_Caveat.1 h
  exact ⟨Array.ext' hc, hw⟩
/-- The j-th caveat's cells. -/
theorem cav_at {w : World} {S : Nat → Prop} {A : Option Addr} {n c : Nat} {l : List Cav} (h : Sl lay_Caveat w S A n c l) {j : Nat} (hj : j < n) :
    ∃ b off, ∃ hx : j < l.length, A = some ⟨b, off, none⟩ ∧ S b ∧ w.cell? ⟨b, off + j * 3, none⟩ = some (.int .i64 l[j].Kind) ∧ w.cell? ⟨b, off + j * 3 + 1, none⟩ = some (.int .u64 l[j].A) ∧ w.cell? ⟨b, off + j * 3 + 2, none⟩ = some (.int .u64 l[j].B) ∧ CavWf l[j] := by
  obtain ⟨b, off, cs, hx, rfl, hb, hr, hc⟩ := h.at_ hj
  obtain ⟨rfl, hw⟩ := rep_Caveat.1 hr
  exact ⟨b, off, hx, rfl, hb, hc 0 _ rfl, hc 1 _ rfl, hc 2 _ rfl, hw⟩

/-- api.Use. -/
structure Usx where
  Tick : Int
  Method : Int
  Amount : Int
  Who : Int
  deriving DecidableEq
def lay_Use : Lay Usx := ((Lay.int .u64).prod ((Lay.int .i64).prod ((Lay.int .u64).prod ((Lay.int .u64).prod Lay.unit)))).via fun r => (r.Tick, r.Method, r.Amount, r.Who, ())
structure UseWf (u : Usx) : Prop where
  tick : (Lit.int .u64 u.Tick).wf = true
  method : (Lit.int .i64 u.Method).wf = true
  amount : (Lit.int .u64 u.Amount).wf = true
  who : (Lit.int .u64 u.Who).wf = true
theorem rep_Use {w : World} {S : Nat → Prop} {u : Usx} {cs : List Value} : lay_Use.rep w S u cs ↔ cs = [.int .u64 u.Tick, .int .i64 u.Method, .int .u64 u.Amount, .int .u64 u.Who] ∧ UseWf u := by
  constructor
  · rintro ⟨c1, c2, rfl, ⟨rfl, h1⟩, c3, c4, rfl, ⟨rfl, h2⟩, c5, c6, rfl, ⟨rfl, h3⟩, c7, c8, rfl, ⟨rfl, h4⟩, rfl⟩
    exact ⟨rfl, h1, h2, h3, h4⟩
  · rintro ⟨rfl, h1, h2, h3, h4⟩
    exact ⟨[_], [_, _, _], rfl, ⟨rfl, h1⟩, [_], [_, _], rfl, ⟨rfl, h2⟩, [_], [_], rfl, ⟨rfl, h3⟩, [_], [], rfl, ⟨rfl, h4⟩, rfl⟩
theorem size_Use : lay_Use.size = 4 := rfl
theorem agg_Use {w : World} {S : Nat → Prop} {u : Usx} {s : Array Value} (h : lay_Use.rep w S u s.toList) : s = #[.int .u64 u.Tick, .int .i64 u.Method, .int .u64 u.Amount, .int .u64 u.Who] ∧ UseWf u := by
  obtain ⟨hc, hw⟩ := rep_Use.1 h
  exact ⟨Array.ext' hc, hw⟩

/-- api.Token. -/
structure Tok where
  Root : Int
  L : List Cav
  Tag : Int
  deriving DecidableEq
def lay_Token : Lay Tok := ((Lay.int .u64).prod ((Lay.slice lay_Caveat).prod ((Lay.int .i64).prod Lay.unit))).via fun r => (r.Root, r.L, r.Tag, ())
theorem rep_Token {w : World} {S : Nat → Prop} {r : Tok} {cs : List Value} : lay_Token.rep w S r cs ↔ ∃ A n c, cs = [.int .u64 r.Root, .slice A n c, .int .i64 r.Tag] ∧ (Lit.int .u64 r.Root).wf = true ∧ (Lit.int .i64 r.Tag).wf = true ∧ Sl lay_Caveat w S A n c r.L := by
  constructor
  · rintro ⟨c1, c2, rfl, ⟨rfl, hw⟩, c3, c4, rfl, ⟨A, n, c, rfl, hs⟩, c5, c6, rfl, ⟨rfl, hu⟩, rfl⟩
    exact ⟨A, n, c, rfl, hw, hu, hs⟩
  · rintro ⟨A, n, c, rfl, hw, hu, hs⟩
    exact ⟨[_], [_, _], rfl, ⟨rfl, hw⟩, [_], [_], rfl, ⟨A, n, c, rfl, hs⟩, [_], [], rfl, ⟨rfl, hu⟩, rfl⟩
theorem size_Token : lay_Token.size = 3 := rfl
theorem agg_Token {w : World} {S : Nat → Prop} {x : Tok} {s : Array Value} (h : lay_Token.rep w S x s.toList) : ∃ A n c, s = #[.int .u64 x.Root, .slice A n c, .int .i64 x.Tag] ∧ (Lit.int .u64 x.Root).wf = true ∧ (Lit.int .i64 x.Tag).wf = true ∧ Sl lay_Caveat w S A n c x.L := by
  obtain ⟨A, n, c, hc, h1, h2, h3⟩ := rep_Token.1 h
  exact ⟨A, n, c, Array.ext' hc, h1, h2, h3⟩


/-- api.RootKey. -/
structure Rtk where
  Id : Int
  Key : Int
  Gone : Bool
  deriving DecidableEq
def lay_RootKey : Lay Rtk := ((Lay.int .u64).prod ((Lay.int .u64).prod (Lay.bool.prod Lay.unit))).via fun r => (r.Id, r.Key, r.Gone, ())
/-- Its numbers' bounds. -/
structure RtkWf (c : Rtk) : Prop where
  id : (Lit.int .u64 c.Id).wf = true
  key : (Lit.int .u64 c.Key).wf = true
theorem rep_RootKey {w : World} {S : Nat → Prop} {c : Rtk} {cs : List Value} : lay_RootKey.rep w S c cs ↔ cs = [.int .u64 c.Id, .int .u64 c.Key, .bool c.Gone] ∧ RtkWf c := by
  constructor
  · rintro ⟨c1, c2, rfl, ⟨rfl, hk⟩, c3, c4, rfl, ⟨rfl, ha⟩, c5, c6, rfl, rfl, rfl⟩
    exact ⟨rfl, hk, ha⟩
  · rintro ⟨rfl, hk, ha⟩
    exact ⟨[_], [_, _], rfl, ⟨rfl, hk⟩, [_], [_], rfl, ⟨rfl, ha⟩, [_], [], rfl, rfl, rfl⟩
theorem size_RootKey : lay_RootKey.size = 3 := rfl
theorem agg_RootKey {w : World} {S : Nat → Prop} {c : Rtk} {s : Array Value} (h : lay_RootKey.rep w S c s.toList) : s = #[.int .u64 c.Id, .int .u64 c.Key, .bool c.Gone] ∧ RtkWf c := by
  obtain ⟨hc, hw⟩ := rep_RootKey.1 h
  exact ⟨Array.ext' hc, hw⟩
/-- The j-th root's cells. -/
theorem rtk_at {w : World} {S : Nat → Prop} {A : Option Addr} {n c : Nat} {l : List Rtk} (h : Sl lay_RootKey w S A n c l) {j : Nat} (hj : j < n) :
    ∃ b off, ∃ hx : j < l.length, A = some ⟨b, off, none⟩ ∧ S b ∧ w.cell? ⟨b, off + j * 3, none⟩ = some (.int .u64 l[j].Id) ∧ w.cell? ⟨b, off + j * 3 + 1, none⟩ = some (.int .u64 l[j].Key) ∧ w.cell? ⟨b, off + j * 3 + 2, none⟩ = some (.bool l[j].Gone) ∧ RtkWf l[j] := by
  obtain ⟨b, off, cs, hx, rfl, hb, hr, hc⟩ := h.at_ hj
  obtain ⟨rfl, hw⟩ := rep_RootKey.1 hr
  exact ⟨b, off, hx, rfl, hb, hc 0 _ rfl, hc 1 _ rfl, hc 2 _ rfl, hw⟩
end Go.Proofs.Ytannjlejghmfpaa
