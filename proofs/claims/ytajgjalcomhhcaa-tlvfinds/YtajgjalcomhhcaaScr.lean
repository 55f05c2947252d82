/-
  Writing octets over what was answered: what such writing leaves alone.
-/
import Derived.Test.YtajgjalcomhhcaaTypes
import Derived.Test.YtajgjalcomhhcaaStep
namespace Go.Proofs.Ytajgjalcomhhcaa
open Go.RowKit Go.WalkArith

/-- From w on octets alone were written over octets, in no block below B, and not in block g. -/
structure Scr (B g : Nat) (w wr : World) : Prop where
  bel : Below B w wr
  size : wr.heap.size = w.heap.size
  own : wr.heap[g]? = w.heap[g]?
  u8 : ∀ b off x, w.cell? ⟨b, off, none⟩ = some (.int .u8 x) → ∃ y, wr.cell? ⟨b, off, none⟩ = some (.int .u8 y)
  fz : ∀ a, wr.frozen? a = w.frozen? a

theorem Scr.refl (B g : Nat) (w : World) : Scr B g w w := ⟨Below.refl _ _, rfl, rfl, fun _ _ x h => ⟨x, h⟩, fun _ => rfl⟩
theorem Scr.put {B g : Nat} {w wr : World} (h : Scr B g w wr) {b off : Nat} (hb : B ≤ b) (hne : b ≠ g) (y : Int) {z : Int} (hz : wr.cell? ⟨b, off, none⟩ = some (.int .u8 z)) : Scr B g w (wr.setCell ⟨b, off, none⟩ (.int .u8 y)) := by
  refine ⟨h.bel.setCell hb _, by simpa using h.size, (Below.heap_setCell _ _ _ _ (fun e => hne e.symm)).trans h.own, fun b' off' x hx => ?_, fun a => by rw [World.frozen?_setCell]; exact h.fz a⟩
  obtain ⟨y', hy'⟩ := h.u8 b' off' x hx
  by_cases e : (⟨b, off, none⟩ : Addr) = ⟨b', off', none⟩
  · injection e with e1 e2
    subst e1 e2
    exact ⟨y, World.cell?_setCell_same' _ _ _ (by rw [hz]; rfl)⟩
  · exact ⟨y', by rw [World.cell?_setCell_other _ _ _ _ e]; exact hy'⟩
theorem Scr.cell {B g : Nat} {w wr : World} (h : Scr B g w wr) (j : Nat) : wr.cell? ⟨g, j, none⟩ = w.cell? ⟨g, j, none⟩ := World.cell?_of_block (a := ⟨g, j, none⟩) h.own

/-- Where the octets of new records lie. -/
theorem OwnL.octs {w : World} {base lo : Nat} {e : TypeId} {A : Option Addr} {n c : Nat} {p : List Rec} (h : OwnL lay_Record w base (some lo) e (.slice A n c) p) :
    p.length = n ∧ (n ≤ c ∧ c ≤ maxLen) ∧ (0 < n → ∃ g, A = some ⟨g, 0, none⟩ ∧ g < w.heap.size ∧ ∀ j, j < n → ∃ A' n' c', w.cell? ⟨g, j * 2 + 1, none⟩ = some (.slice A' n' c') ∧ (n' ≤ c' ∧ c' ≤ maxLen) ∧
      (0 < n' → ∃ b off, A' = some ⟨b, off, none⟩ ∧ lo ≤ b ∧ b ≠ g ∧ ∀ k, k < n' → w.frozen? ⟨b, off + k, none⟩ = false ∧ ∃ x, w.cell? ⟨b, off + k, none⟩ = some (.int .u8 x))) := by
  obtain ⟨cs, h1, h2⟩ := h
  rcases h1.2 with ⟨hv, h0⟩ | ⟨g, cap, cur, hv, hbg, hg, hnc, hcm, hcs, htake⟩
  · injection hv with hA hn hc
    subst hA hn hc
    exact ⟨h0, ⟨Nat.le_refl _, Nat.zero_le _⟩, fun h => absurd h (by omega)⟩
  · injection hv with hA hn hc
    subst hA hn hc
    refine ⟨rfl, ⟨hnc, hcm⟩, fun hpos => ⟨g, rfl, (Array.getElem?_eq_some_iff.1 hg).1, fun j hj => ?_⟩⟩
    obtain ⟨cj, hrep, hci⟩ := h2.at_ hj
    obtain ⟨A', n', c', rfl, hw, hs⟩ := rep_Record.1 hrep
    refine ⟨A', n', c', ?_, hs.cap, fun hn' => ?_⟩
    · have h3 := hci 1 (by decide)
      have h4 := h1.cells (g := g) rfl (j * lay_Record.size + 1) (.slice A' n' c') (by rw [h3]; rfl)
      rw [Addr.add_lit, Nat.zero_add, size_Record] at h4
      exact h4
    · obtain ⟨b, off, cs', rfl, hb, hr, hc⟩ := hs.row hn'
      obtain ⟨rfl, _⟩ := repRow_ints.1 hr
      have hl := hs.len
      refine ⟨b, off, rfl, hb.1.1, fun e => hb.2.2 (by rw [e]; rfl), fun k hk => ⟨hb.1.2 _, p[j].V[k]'(by omega), hc k _ ?_⟩⟩
      simp [List.getElem?_eq_getElem (show k < p[j].V.length by omega)]

end Go.Proofs.Ytajgjalcomhhcaa
