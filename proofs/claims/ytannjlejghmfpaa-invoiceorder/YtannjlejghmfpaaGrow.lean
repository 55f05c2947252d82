/-
  Room made ahead of appends: 'append(nil, make(S, n)...)[:0]'; the elements of a row of rows.
-/
import Derived.Test.YtannjlejghmfpaaOwnPut
import Derived.Test.YtannjlejghmfpaaStd
import Derived.Lib.AppendZeros
namespace Go.Proofs.Ytannjlejghmfpaa
open Go.RowKit Go.WalkArith

theorem run_zeros0 {α : Type} {P : Program} (L : Lay α) (w : World) (t tn ty e : TypeId) (k kn : IntKind) {z : Value} {bytes : Nat} (ht : P.underlying t = some (.slice e)) (htn : P.underlying tn = some (.int kn))
    (hi : (P.info? e).map (fun i => (i.zero, i.size, i.bytes)) = some (some z, L.size, bytes)) (hzs : z.cells.size = L.size) (hsz : 0 < L.size) (lo : Option Nat) (n : Nat) (h0 : 0 < n) (hn : n ≤ 1048576) (hby : bytes ≤ 1048576) :
    ∃ cap W, (Builtin.append_ #[t, tn] ty #[.slice none 0 0, .int k n]).run P w = .ok (.slice (some ⟨w.heap.size, 0, none⟩) n cap) W ∧ OwnL L W w.heap.size lo e (.slice (some ⟨w.heap.size, 0, none⟩) 0 cap) [] ∧ Below w.heap.size w W := by
  obtain ⟨i, hi, hz0, hz1, hz2⟩ := info_parts hi
  have hb : n * i.bytes ≤ 281474976710656 := Nat.le_trans (Nat.mul_le_mul hn (by rw [hz2]; exact hby)) (by decide)
  have hr := Lib.run_append_nil_zeros (P := P) w t tn ty e i z k kn ht htn hi hz0 n h0 (by rw [hz1]; exact hsz) (by omega) hb
  have hge := grownCap_ge w n 0 e
  have hle := grownCap_le_maxLen w n 0 e (by unfold maxLen; omega)
  generalize grownCap w n 0 e = cap at *
  refine ⟨cap, _, hr, ⟨[], ⟨by simp, .inr ⟨w.heap.size, cap, _, rfl, Nat.le_refl _, heap_alloc_new w.drew _, Nat.zero_le _, hle, ?_, by simp⟩⟩, rfl⟩, bel_alloc (Below.refl _ _).drew _⟩
  rw [Array.size_append, size_zeroCells, size_zeroCells, hzs, ← Nat.add_mul]
  congr 1
  omega
/-- The j-th one of a row of rows. -/
theorem row_at {α : Type} {L : Lay α} {w : World} {S : Nat → Prop} {A : Option Addr} {n c : Nat} {ls : List (List α)} (h : Sl (Lay.slice L) w S A n c ls) {j : Nat} (hj : j < n) :
    ∃ b off A' n' c', ∃ hx : j < ls.length, A = some ⟨b, off, none⟩ ∧ S b ∧ w.cell? ⟨b, off + j, none⟩ = some (.slice A' n' c') ∧ Sl L w S A' n' c' ls[j] := by
  obtain ⟨b, off, cs, hx, rfl, hb, ⟨A', n', c', rfl, hs⟩, hc⟩ := h.at_ hj
  have := hc 0 _ rfl
  rw [show (Lay.slice L).size = 1 from rfl, Nat.mul_one, Nat.add_zero] at this
  exact ⟨b, off, A', n', c', hx, rfl, hb, this, hs⟩
theorem flat_take {α : Type} {ls : List (List α)} {j : Nat} (hj : j < ls.length) : (ls.take (j + 1)).flatten = (ls.take j).flatten ++ ls[j] := by
  rw [List.take_succ_eq_append_getElem hj, List.flatten_append]
  simp
/-- So many elements the rows ahead of place j have. -/
def lenF {α : Type} (ls : List (List α)) (j : Nat) : Nat := (ls.take j).flatten.length
theorem flat_take_len {α : Type} (ls : List (List α)) (j : Nat) : lenF ls j ≤ ls.flatten.length := by
  unfold lenF
  conv => rhs; rw [← List.take_append_drop j ls]
  rw [List.flatten_append, List.length_append]
  omega
end Go.Proofs.Ytannjlejghmfpaa
