/-
  The document's types as layouts.
-/
import Derived.Test.YtbcahbgdjoahaaaLay
import Derived.Test.YtbcahbgdjoahaaaRows
namespace Go.Proofs.Ytbcahbgdjoahaaa
open Go.ChangeShapes Go.WideShapes Go.RowKit Go.WalkArith Go.Deep

/-- api.Record. -/
structure Rec where
  T : Int
  V : List Int
  deriving DecidableEq
def lay_Record : Lay Rec := ((Lay.int .u64).prod ((Lay.slice (Lay.int .u8)).prod Lay.unit)).via fun r => (r.T, r.V, ())
theorem rep_Record {w : World} {S : Nat → Prop} {r : Rec} {cs : List Value} : lay_Record.rep w S r cs ↔ ∃ A n c, cs = [.int .u64 r.T, .slice A n c] ∧ (Lit.int .u64 r.T).wf = true ∧ Sl (Lay.int .u8) w S A n c r.V := by
  constructor
  · rintro ⟨c1, c2, rfl, ⟨rfl, hw⟩, c3, c4, rfl, ⟨A, n, c, rfl, hs⟩, rfl⟩
    exact ⟨A, n, c, rfl, hw, hs⟩
  · rintro ⟨A, n, c, rfl, hw, hs⟩
    exact ⟨[_], [_], rfl, ⟨rfl, hw⟩, [_], [], rfl, ⟨A, n, c, rfl, hs⟩, rfl⟩
theorem size_Record : lay_Record.size = 2 := rfl

/-- The j-th record: its cells in memory, its number's bounds, its octets. -/
theorem rec_at {w : World} {S : Nat → Prop} {A : Option Addr} {n c : Nat} {l : List Rec} (h : Sl lay_Record w S A n c l) {j : Nat} (hj : j < n) :
    ∃ b off A' n' c', ∃ hx : j < l.length, A = some ⟨b, off, none⟩ ∧ S b ∧ w.cell? ⟨b, off + j * 2, none⟩ = some (.int .u64 l[j].T) ∧ w.cell? ⟨b, off + j * 2 + 1, none⟩ = some (.slice A' n' c') ∧ (0 ≤ l[j].T ∧ l[j].T ≤ 18446744073709551615) ∧ Sl (Lay.int .u8) w S A' n' c' l[j].V := by
  obtain ⟨b, off, cs, hx, rfl, hb, hr, hc⟩ := h.at_ hj
  obtain ⟨A', n', c', rfl, hw, hs⟩ := rep_Record.1 hr
  exact ⟨b, off, A', n', c', hx, rfl, hb, hc 0 _ rfl, hc 1 _ rfl, bounds_u64 hw, hs⟩

/-- api.Reader. -/
structure Rdr where
  B : List Int
  Bad : Bool
  deriving DecidableEq
def lay_Reader : Lay Rdr := ((Lay.slice (Lay.int .u8)).prod (Lay.bool.prod Lay.unit)).via fun r => (r.B, r.Bad, ())
theorem of_Reader : LayOf Try.prog 24 lay_Reader :=
  layOf_via (layOf_struct Try.underlying24 (by kernel_rfl) (.cons rfl (layOf_slice Try.underlying22 (by kernel_rfl) (layOf_int Try.underlying5 (by kernel_rfl)) (by decide)) (.cons rfl (layOf_bool Try.underlying4 (by kernel_rfl)) (.nil _)))) _
    fun ⟨b, d, _⟩ => ⟨⟨b, d⟩, rfl⟩
theorem rep_Reader {w : World} {S : Nat → Prop} {r : Rdr} {cs : List Value} : lay_Reader.rep w S r cs ↔ ∃ A n c, cs = [.slice A n c, .bool r.Bad] ∧ Sl (Lay.int .u8) w S A n c r.B := by
  constructor
  · rintro ⟨c1, c2, rfl, ⟨A, n, c, rfl, hs⟩, c3, c4, rfl, rfl, rfl⟩
    exact ⟨A, n, c, rfl, hs⟩
  · rintro ⟨A, n, c, rfl, hs⟩
    exact ⟨[_], [_], rfl, ⟨A, n, c, rfl, hs⟩, [_], [], rfl, rfl, rfl⟩
theorem size_Reader : lay_Reader.size = 2 := rfl

end Go.Proofs.Ytbcahbgdjoahaaa
