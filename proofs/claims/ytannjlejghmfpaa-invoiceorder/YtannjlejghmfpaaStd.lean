/-
  Slices of laid elements cut, and the library's functions that programs lean on: bytes.Clone, bytes.Equal.
-/
import Derived.Test.YtannjlejghmfpaaStep
import Derived.Test.YtannjlejghmfpaaBigsize
import Derived.ArgAppend
namespace Go.Proofs.Ytannjlejghmfpaa
open Go.RowKit Go.WalkArith

theorem Sl.drewN {α : Type} {L : Lay α} {w : World} {S : Nat → Prop} {A : Option Addr} {n c : Nat} {xs : List α} (h : Sl L w S A n c xs) (m : Nat) : Sl L (w.drewN m) S A n c xs := h.keep fun _ _ => rfl
/-- 's[:k]', elements of whatever size. -/
theorem run_uptoL {P : Program} (t e : TypeId) {b sz : Nat} {z : Value} (kd : IntKind) (ht : P.underlying t = some (.slice e)) (hel : P.elem t = e) (hi : (P.info? e).map (fun i => (i.zero, i.size, i.bytes)) = some (some z, sz, b)) (A : Option Addr) (n c k : Nat) (hk : k ≤ c) (w : World) :
    (Instr.slice t (.slice A n c) none (some (.int kd (k : Int))) none).run P w = .ok (.slice A k c) w := by
  obtain ⟨i, hi, hz0, hz1, hz2⟩ := info_parts hi
  subst hel
  rw [run_slice_h w t A n c ht kd (k : Int) (by omega) (by omega)]
  have ha : ∀ a : Addr, a.add 0 = a := fun a => by simp [Addr.add]
  cases A <;> simp [sizeOf, typeInfo, hi, sliced, ha]
/-- 's[:k:k]'. -/
theorem run_uptoM {P : Program} (t e : TypeId) {b sz : Nat} {z : Value} (kd km : IntKind) (ht : P.underlying t = some (.slice e)) (hel : P.elem t = e) (hi : (P.info? e).map (fun i => (i.zero, i.size, i.bytes)) = some (some z, sz, b)) (A : Option Addr) (n c k : Nat) (hk : k ≤ c) (w : World) :
    (Instr.slice t (.slice A n c) none (some (.int kd (k : Int))) (some (.int km (k : Int)))).run P w = .ok (.slice A k k) w := by
  obtain ⟨i, hi, hz0, hz1, hz2⟩ := info_parts hi
  subst hel
  rw [run_slice_hm w t A n c ht kd km (k : Int) (k : Int) (by omega) (by omega) (by omega)]
  have ha : ∀ a : Addr, a.add 0 = a := fun a => by simp [Addr.add]
  cases A <;> simp [sizeOf, typeInfo, hi, sliced, ha]
/-- 's[k:]'. -/
theorem run_fromL {P : Program} (t e : TypeId) {b sz : Nat} {z : Value} (kd : IntKind) (ht : P.underlying t = some (.slice e)) (hel : P.elem t = e) (hi : (P.info? e).map (fun i => (i.zero, i.size, i.bytes)) = some (some z, sz, b)) (A : Option Addr) (n c k : Nat) (hk : k ≤ n) (w : World) :
    (Instr.slice t (.slice A n c) (some (.int kd (k : Int))) none none).run P w = .ok (.slice (cutS sz A c k) (n - k) (c - k)) w := by
  obtain ⟨i, hi, hz0, hz1, hz2⟩ := info_parts hi
  subst hel
  rw [run_slice_l w t A n c ht kd (k : Int) (by omega) (by omega)]
  simp [sizeOf, typeInfo, hi, hz1, sliced, cutS]

/-- An empty literal, just laid. -/
theorem Own.lit0 (w : World) (e : TypeId) (k : IntKind) : Own (w.alloc (.cells #[] e)) w.heap.size e k (.slice (some ⟨w.heap.size, 0, none⟩) 0 0) [] :=
  ⟨⟨rfl, .inr ⟨w.heap.size, 0, #[], rfl, Nat.le_refl _, heap_alloc_new w _, Nat.le_refl _, by simp [maxLen], rfl, rfl⟩⟩, by simp⟩

theorem run_is_nil {P : Program} (w : World) (t e : TypeId) (a : Option Addr) (l c : Nat) (h : P.underlying t = some (.slice e)) : (binOp .eql t (.slice a l c) (.slice none 0 0)).run P w = .ok (.bool a.isNone) w := by
  have h8 : ∀ d, (Op.equalIn (d + 1) t (.slice a l c) (.slice none 0 0)).run P w = .ok a.isNone w := fun d => by cases a <;> simp [Op.equalIn, run_underlying h]
  have h9 : (Op.equal t (.slice a l c) (.slice none 0 0)).run P w = .ok a.isNone w := h8 9999
  simp [binOp, h9]

end Go.Proofs.Ytannjlejghmfpaa
