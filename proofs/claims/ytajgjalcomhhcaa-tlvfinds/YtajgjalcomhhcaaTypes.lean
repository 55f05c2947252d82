/-
  The document's types as layouts.
-/
import Derived.Test.YtajgjalcomhhcaaLay
import Derived.Test.YtajgjalcomhhcaaRows
namespace Go.Proofs.Ytajgjalcomhhcaa
open Go.ChangeShapes Go.WideShapes Go.RowKit Go.WalkArith Go.Deep

/-- api.Record. -/
structure Rec where
  T : Int
  V : List Int
  deriving DecidableEq
def lay_Record : Lay Rec := ((Lay.int .u64).prod ((Lay.slice (Lay.int .u8)).prod Lay.unit)).via fun r => (r.T, r.V, ())
theorem of_Record : LayOf Try.prog 36 lay_Record :=
  layOf_via (layOf_struct Try.underlying36 (by kernel_rfl) (.cons rfl (layOf_int Try.underlying34 (by kernel_rfl)) (.cons rfl (layOf_slice Try.underlying23 (by kernel_rfl) (layOf_int Try.underlying5 (by kernel_rfl)) (by decide)) (.nil _)))) _
    fun ⟨t, v, _⟩ => ⟨⟨t, v⟩, rfl⟩
theorem rep_Record {w : World} {S : Nat → Prop} {r : Rec} {cs : List Value} : lay_Record.rep w S r cs ↔ ∃ A n c, cs = [.int .u64 r.T, .slice A n c] ∧ (Lit.int .u64 r.T).wf = true ∧ Sl (Lay.int .u8) w S A n c r.V := by
  constructor
  · rintro ⟨c1, c2, rfl, ⟨rfl, hw⟩, c3, c4, rfl, ⟨A, n, c, rfl, hs⟩, rfl⟩
    exact ⟨A, n, c, rfl, hw, hs⟩
  · rintro ⟨A, n, c, rfl, hw, hs⟩
    exact ⟨[_], [_], rfl, ⟨rfl, hw⟩, [_], [], rfl, ⟨A, n, c, rfl, hs⟩, rfl⟩
theorem size_Record : lay_Record.size = 2 := rfl

/-- The j-th record: its cells in memory, its number's bounds, its octets. -/
theorem rec_at {w : World} {S : Nat → Prop} {A : Option Addr} {n c : Nat} {l : List Rec} (h : Sl lay_Record w S A n c l) {j : Nat} (hj : j < n) :
    ∃ b off A' n' c', ∃ hx : j < l.length, A = some ⟨b, off, none⟩ ∧ S b ∧ w.cell? ⟨b, off + j * 2, none⟩ = some (.int .u64 l[j].T) ∧ w.cell? ⟨b, off + j * 2 + 1, none⟩ = some (.slice A' n' c') ∧ (0 ≤ l[j].T ∧ l[j].T ≤ 18446744073709551615) ∧ Sl (Lay.int .u8) w S A' n' c' l[j].V := by
  obtain ⟨b, off, cs, hx, rfl, hb, hr, hc⟩ := h.at_ hj
  obtain ⟨A', n', c', rfl, hw, hs⟩ := rep_Record.1 hr
  exact ⟨b, off, A', n', c', hx, rfl, hb, hc 0 _ rfl, hc 1 _ rfl, bounds_u64 hw, hs⟩

end Go.Proofs.Ytajgjalcomhhcaa
