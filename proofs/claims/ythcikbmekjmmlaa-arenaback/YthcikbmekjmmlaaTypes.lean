/-
  The document's types as layouts.
-/
import Derived.Test.YthcikbmekjmmlaaLay
import Derived.Test.YthcikbmekjmmlaaRows
namespace Go.Proofs.Ythcikbmekjmmlaa
open Go.ChangeShapes Go.WideShapes Go.RowKit Go.WalkArith Go.Deep

/-- api.Record. -/
structure Rec where
  T : Int
  V : List Int
  deriving DecidableEq
def lay_Record : Lay Rec := ((Lay.int .u64).prod ((Lay.slice (Lay.int .u8)).prod Lay.unit)).via fun r => (r.T, r.V, ())
theorem rep_Record {w : World} {S : Nat → Prop} {r : Rec} {cs : List Value} : lay_Record.rep w S r cs ↔ ∃ A n c, cs = [.int .u64 r.T, .slice A n c] ∧ (Lit.int .u64 r.T).wf = true ∧ Sl (Lay.int .u8) w S A n c r.V := by
  constructor
  · rintro ⟨c1, c2, rfl, ⟨rfl, hw⟩, c3, c4, rfl, ⟨A, n, c, rfl, hs⟩, rfl⟩
    exact ⟨A, n, c, rfl, hw, hs⟩
  · rintro ⟨A, n, c, rfl, hw, hs⟩
    exact ⟨[_], [_], rfl, ⟨rfl, hw⟩, [_], [], rfl, ⟨A, n, c, rfl, hs⟩, rfl⟩
theorem size_Record : lay_Record.size = 2 := rfl

/-- The j-th record: its cells in memory, its number's bounds, its octets. -/
theorem rec_at {w : World} {S : Nat → Prop} {A : Option Addr} {n c : Nat} {l : List Rec} (h : Sl lay_Record w S A n c l) {j : Nat} (hj : j < n) :
    ∃ b off A' n' c', ∃ hx : j < l.length, A = some ⟨b, off, none⟩ ∧ S b ∧ w.cell? ⟨b, off + j * 2, none⟩ = some (.int .u64 l[j].T) ∧ w.cell? ⟨b, off + j * 2 + 1, none⟩ = some (.slice A' n' c') ∧ (0 ≤ l[j].T ∧ l[j].T ≤ 18446744073709551615) ∧ Sl (Lay.int .u8) w S A' n' c' l[j].V := by
  obtain ⟨b, off, cs, hx, rfl, hb, hr, hc⟩ := h.at_ hj
  obtain ⟨A', n', c', rfl, hw, hs⟩ := rep_Record.1 hr
  exact ⟨b, off, A', n', c', hx, rfl, hb, hc 0 _ rfl, hc 1 _ rfl, bounds_u64 hw, hs⟩

/-- api.Reader. -/
structure Rdr where
  B : List Int
  Bad : Bool
  deriving DecidableEq
def lay_Reader : Lay Rdr := ((Lay.slice (Lay.int .u8)).prod (Lay.bool.prod Lay.unit)).via fun r => (r.B, r.Bad, ())
theorem rep_Reader {w : World} {S : Nat → Prop} {r : Rdr} {cs : List Value} : lay_Reader.rep w S r cs ↔ ∃ A n c, cs = [.slice A n c, .bool r.Bad] ∧ Sl (Lay.int .u8) w S A n c r.B := by
  constructor
  · rintro ⟨c1, c2, rfl, ⟨A, n, c, rfl, hs⟩, c3, c4, rfl, rfl, rfl⟩
    exact ⟨A, n, c, rfl, hs⟩
  · rintro ⟨A, n, c, rfl, hs⟩
    exact ⟨[_], [_], rfl, ⟨A, n, c, rfl, hs⟩, [_], [], rfl, rfl, rfl⟩
theorem size_Reader : lay_Reader.size = 2 := rfl

/-- api.Term. -/
structure Trm where
  Key : Int
  Up : Int
  Text : List Int
  deriving DecidableEq
def lay_Term : Lay Trm := ((Lay.int .u64).prod ((Lay.int .i64).prod ((Lay.slice (Lay.int .u8)).prod Lay.unit))).via fun r => (r.Key, r.Up, r.Text, ())
theorem of_Term : LayOf Try.prog 39 lay_Term :=
  layOf_via (layOf_struct Try.underlying39 (by kernel_rfl) (.cons rfl (layOf_int Try.underlying25 (by kernel_rfl)) (.cons rfl (layOf_int Try.underlying3 (by kernel_rfl)) (.cons rfl (layOf_slice Try.underlying26 (by kernel_rfl) (layOf_int Try.underlying5 (by kernel_rfl)) (by decide)) (.nil _))))) _
    fun ⟨k, u, t, _⟩ => ⟨⟨k, u, t⟩, rfl⟩
theorem rep_Term {w : World} {S : Nat → Prop} {r : Trm} {cs : List Value} : lay_Term.rep w S r cs ↔ ∃ A n c, cs = [.int .u64 r.Key, .int .i64 r.Up, .slice A n c] ∧ (Lit.int .u64 r.Key).wf = true ∧ (Lit.int .i64 r.Up).wf = true ∧ Sl (Lay.int .u8) w S A n c r.Text := by
  constructor
  · rintro ⟨c1, c2, rfl, ⟨rfl, hw⟩, c3, c4, rfl, ⟨rfl, hu⟩, c5, c6, rfl, ⟨A, n, c, rfl, hs⟩, rfl⟩
    exact ⟨A, n, c, rfl, hw, hu, hs⟩
  · rintro ⟨A, n, c, rfl, hw, hu, hs⟩
    exact ⟨[_], [_, _], rfl, ⟨rfl, hw⟩, [_], [_], rfl, ⟨rfl, hu⟩, [_], [], rfl, ⟨A, n, c, rfl, hs⟩, rfl⟩
theorem size_Term : lay_Term.size = 3 := rfl
/-- The j-th term: its cells in memory, its numbers' bounds, its octets. -/
theorem trm_at {w : World} {S : Nat → Prop} {A : Option Addr} {n c : Nat} {l : List Trm} (h : Sl lay_Term w S A n c l) {j : Nat} (hj : j < n) :
    ∃ b off A' n' c', ∃ hx : j < l.length, A = some ⟨b, off, none⟩ ∧ S b ∧ w.cell? ⟨b, off + j * 3, none⟩ = some (.int .u64 l[j].Key) ∧ w.cell? ⟨b, off + j * 3 + 1, none⟩ = some (.int .i64 l[j].Up) ∧ w.cell? ⟨b, off + j * 3 + 2, none⟩ = some (.slice A' n' c') ∧ (Lit.int .u64 l[j].Key).wf = true ∧ (Lit.int .i64 l[j].Up).wf = true ∧ Sl (Lay.int .u8) w S A' n' c' l[j].Text := by
  obtain ⟨b, off, cs, hx, rfl, hb, hr, hc⟩ := h.at_ hj
  obtain ⟨A', n', c', rfl, hw, hu, hs⟩ := rep_Term.1 hr
  exact ⟨b, off, A', n', c', hx, rfl, hb, hc 0 _ rfl, hc 1 _ rfl, hc 2 _ rfl, hw, hu, hs⟩

/-- api.Arena: its terms. -/
def lay_Arena : Lay (List Trm) := ((Lay.slice lay_Term).prod Lay.unit).via fun l => (l, ())
theorem of_Arena : LayOf Try.prog 24 lay_Arena :=
  layOf_via (layOf_struct Try.underlying24 (by kernel_rfl) (.cons rfl (layOf_slice Try.underlying22 (by kernel_rfl) of_Term (by decide)) (.nil _))) _
    fun ⟨l, _⟩ => ⟨l, rfl⟩
theorem rep_Arena {w : World} {S : Nat → Prop} {l : List Trm} {cs : List Value} : lay_Arena.rep w S l cs ↔ ∃ A n c, cs = [.slice A n c] ∧ Sl lay_Term w S A n c l := by
  constructor
  · rintro ⟨c1, c2, rfl, ⟨A, n, c, rfl, hs⟩, rfl⟩
    exact ⟨A, n, c, rfl, hs⟩
  · rintro ⟨A, n, c, rfl, hs⟩
    exact ⟨[_], [], rfl, ⟨A, n, c, rfl, hs⟩, rfl⟩
theorem size_Arena : lay_Arena.size = 1 := rfl
theorem agg_Arena {w : World} {S : Nat → Prop} {l : List Trm} {s : Array Value} (h : lay_Arena.rep w S l s.toList) : ∃ A n c, s = #[.slice A n c] ∧ Sl lay_Term w S A n c l := by
  obtain ⟨A, n, c, hc, hs⟩ := rep_Arena.1 h
  exact ⟨A, n, c, Array.ext' hc, hs⟩

end Go.Proofs.Ythcikbmekjmmlaa
