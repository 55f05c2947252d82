/-
  Writing numbers over numbers in what was answered: what such writing leaves alone (by the cells' kinds; no row need be apart from another).
-/
import Derived.Test.YtannjlejghmfpaaStep
namespace Go.Proofs.Ytannjlejghmfpaa
open Go.RowKit Go.WalkArith

structure Scb (B : Nat) (w wr : World) : Prop where
  bel : Below B w wr
  size : wr.heap.size = w.heap.size
  ints : ∀ b off k x, w.cell? ⟨b, off, none⟩ = some (.int k x) → ∃ y, wr.cell? ⟨b, off, none⟩ = some (.int k y)
  rest : ∀ b off v, w.cell? ⟨b, off, none⟩ = some v → (∀ k x, v ≠ .int k x) → wr.cell? ⟨b, off, none⟩ = some v
  fz : ∀ a, wr.frozen? a = w.frozen? a

theorem Scb.refl (B : Nat) (w : World) : Scb B w w := ⟨Below.refl _ _, rfl, fun _ _ _ x h => ⟨x, h⟩, fun _ _ _ h _ => h, fun _ => rfl⟩
theorem Scb.put {B : Nat} {w wr : World} (h : Scb B w wr) {b off : Nat} {k : IntKind} {z : Int} (hb : B ≤ b) (hz : w.cell? ⟨b, off, none⟩ = some (.int k z)) (y : Int) : Scb B w (wr.setCell ⟨b, off, none⟩ (.int k y)) := by
  obtain ⟨z', hz'⟩ := h.ints b off k z hz
  refine ⟨h.bel.setCell hb _, by simpa using h.size, fun b' off' k' x hx => ?_, fun b' off' v hv hn => ?_, fun a => by rw [World.frozen?_setCell]; exact h.fz a⟩
  · obtain ⟨y', hy'⟩ := h.ints b' off' k' x hx
    by_cases e : (⟨b, off, none⟩ : Addr) = ⟨b', off', none⟩
    · injection e with e1 e2
      subst e1 e2
      rw [hz] at hx
      injection hx with hx
      injection hx with hk _
      subst hk
      exact ⟨y, World.cell?_setCell_same' _ _ _ (by rw [hz']; rfl)⟩
    · exact ⟨y', by rw [World.cell?_setCell_other _ _ _ _ e]; exact hy'⟩
  · have e : (⟨b, off, none⟩ : Addr) ≠ ⟨b', off', none⟩ := fun e => by
      injection e with e1 e2
      subst e1 e2
      rw [hz] at hv
      injection hv with hv
      exact hn k z hv.symm
    rw [World.cell?_setCell_other _ _ _ _ e]
    exact h.rest b' off' v hv hn
theorem Scb.sl {B : Nat} {w wr : World} (h : Scb B w wr) {b off : Nat} {A : Option Addr} {n c : Nat} (hc : w.cell? ⟨b, off, none⟩ = some (.slice A n c)) : wr.cell? ⟨b, off, none⟩ = some (.slice A n c) := h.rest b off _ hc (fun _ _ => by simp)
/-- Where numbers of a new slice lie. -/
theorem nums_at {w : World} {k : IntKind} {lo : Nat} {A : Option Addr} {n c : Nat} {xs : List Int} (h : Sl (Lay.int k) w (From w lo) A n c xs) (hn : 0 < n) : ∃ b off, A = some ⟨b, off, none⟩ ∧ lo ≤ b ∧ ∀ i, i < n → w.frozen? ⟨b, off + i, none⟩ = false ∧ ∃ x, w.cell? ⟨b, off + i, none⟩ = some (.int k x) := by
  obtain ⟨b, off, cs, rfl, hb, hr, hc⟩ := h.row hn
  obtain ⟨rfl, _⟩ := repRow_ints.1 hr
  have hl := h.len
  refine ⟨b, off, rfl, hb.1, fun i hi => ⟨hb.2.2 _, xs[i]'(by omega), hc i _ ?_⟩⟩
  simp [List.getElem?_eq_getElem (show i < xs.length by omega)]
end Go.Proofs.Ytannjlejghmfpaa
