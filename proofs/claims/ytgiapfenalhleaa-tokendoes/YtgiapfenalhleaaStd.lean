/-
  Slices of laid elements cut, and the library's functions that programs lean on: bytes.Clone, bytes.Equal.
-/
import Derived.Test.YtgiapfenalhleaaStep
import Derived.Test.YtgiapfenalhleaaBigsize
import Derived.ArgAppend
namespace Go.Proofs.Ytgiapfenalhleaa
open Go.RowKit Go.WalkArith

theorem Sl.drewN {α : Type} {L : Lay α} {w : World} {S : Nat → Prop} {A : Option Addr} {n c : Nat} {xs : List α} (h : Sl L w S A n c xs) (m : Nat) : Sl L (w.drewN m) S A n c xs := h.keep fun _ _ => rfl
/-- 's[:k]', elements of whatever size. -/
theorem run_uptoL {P : Program} (t e : TypeId) {b sz : Nat} {z : Value} (kd : IntKind) (ht : P.underlying t = some (.slice e)) (hel : P.elem t = e) (hi : (P.info? e).map (fun i => (i.zero, i.size, i.bytes)) = some (some z, sz, b)) (A : Option Addr) (n c k : Nat) (hk : k ≤ c) (w : World) :
    (Instr.slice t (.slice A n c) none (some (.int kd (k : Int))) none).run P w = .ok (.slice A k c) w := by
  obtain ⟨i, hi, hz0, hz1, hz2⟩ := info_parts hi
  subst hel
  rw [run_slice_h w t A n c ht kd (k : Int) (by omega) (by omega)]
  have ha : ∀ a : Addr, a.add 0 = a := fun a => by simp [Addr.add]
  cases A <;> simp [sizeOf, typeInfo, hi, sliced, ha]
/-- 's[:k:k]'. -/
theorem run_uptoM {P : Program} (t e : TypeId) {b sz : Nat} {z : Value} (kd km : IntKind) (ht : P.underlying t = some (.slice e)) (hel : P.elem t = e) (hi : (P.info? e).map (fun i => (i.zero, i.size, i.bytes)) = some (some z, sz, b)) (A : Option Addr) (n c k : Nat) (hk : k ≤ c) (w : World) :
    (Instr.slice t (.slice A n c) none (some (.int kd (k : Int))) (some (.int km (k : Int)))).run P w = .ok (.slice A k k) w := by
  obtain ⟨i, hi, hz0, hz1, hz2⟩ := info_parts hi
  subst hel
  rw [run_slice_hm w t A n c ht kd km (k : Int) (k : Int) (by omega) (by omega) (by omega)]
  have ha : ∀ a : Addr, a.add 0 = a := fun a => by simp [Addr.add]
  cases A <;> simp [sizeOf, typeInfo, hi, sliced, ha]
/-- 's[k:]'. -/
theorem run_fromL {P : Program} (t e : TypeId) {b sz : Nat} {z : Value} (kd : IntKind) (ht : P.underlying t = some (.slice e)) (hel : P.elem t = e) (hi : (P.info? e).map (fun i => (i.zero, i.size, i.bytes)) = some (some z, sz, b)) (A : Option Addr) (n c k : Nat) (hk : k ≤ n) (w : World) :
    (Instr.slice t (.slice A n c) (some (.int kd (k : Int))) none none).run P w = .ok (.slice (cutS sz A c k) (n - k) (c - k)) w := by
  obtain ⟨i, hi, hz0, hz1, hz2⟩ := info_parts hi
  subst hel
  rw [run_slice_l w t A n c ht kd (k : Int) (by omega) (by omega)]
  simp [sizeOf, typeInfo, hi, hz1, sliced, cutS]

/-- An empty literal, just laid. -/
theorem Own.lit0 (w : World) (e : TypeId) (k : IntKind) : Own (w.alloc (.cells #[] e)) w.heap.size e k (.slice (some ⟨w.heap.size, 0, none⟩) 0 0) [] :=
  ⟨⟨rfl, .inr ⟨w.heap.size, 0, #[], rfl, Nat.le_refl _, heap_alloc_new w _, Nat.le_refl _, by simp [maxLen], rfl, rfl⟩⟩, by simp⟩

theorem run_is_nil {P : Program} (w : World) (t e : TypeId) (a : Option Addr) (l c : Nat) (h : P.underlying t = some (.slice e)) : (binOp .eql t (.slice a l c) (.slice none 0 0)).run P w = .ok (.bool a.isNone) w := by
  have h8 : ∀ d, (Op.equalIn (d + 1) t (.slice a l c) (.slice none 0 0)).run P w = .ok a.isNone w := fun d => by cases a <;> simp [Op.equalIn, run_underlying h]
  have h9 : (Op.equal t (.slice a l c) (.slice none 0 0)).run P w = .ok a.isNone w := h8 9999
  simp [binOp, h9]

/-- bytes.Clone. -/
theorem clone_any (A : Option Addr) (n c B : Nat) (xs : List Int) (w : World) (hr : Rd w B .u8 A n c xs) (hB : B ≤ w.heap.size) (hn : n < 140737488355328) :
    Calls Try.prog 62 #[.slice A n c] w fun e w' => ∃ v', e = .returned v' ∧ Own w' w.heap.size 5 .u8 v' xs ∧ Below w.heap.size w w' := by
  have hnil := fun W => run_is_nil (P := Try.prog) W 46 5 A n c Try.underlying46
  cases A with
  | none =>
    have hc := hr.no rfl
    have hn0 : n = 0 := by have := hr.cap; omega
    subst hc hn0
    have hx : xs = [] := List.eq_nil_of_length_eq_zero hr.len
    subst hx
    go_enter Try.func62, Try.ntmps62
    go_wp2
    go_ret
    exact ⟨_, rfl, Own.nil _ _ _ _, Below.refl _ _⟩
  | some a =>
    go_enter Try.func62, Try.ntmps62
    go_wp2_with (at_builtin; go_must (refine wpList_cat rfl _ _ 46 rfl w.heap.size 5 .u8 1 Try.underlying46 Try.infoU8 _ [] B (some a) n c xs rfl rfl (Own.lit0 _ _ _) (hr.alloc hB _) (by simp) (by simp; omega) (by simp; omega) ?_; intro v3 w3 hown3 hext3))
    go_ret
    simp only [List.nil_append] at hown3
    exact ⟨_, rfl, hown3, (bel_alloc (Below.refl _ _) _).trans ((Own.lit0 w _ .u8).below hext3 (by simp))⟩

/-- bytes.Equal. -/
theorem equal_any (A1 A2 : Option Addr) (n1 c1 n2 c2 B1 B2 : Nat) (xs ys : List Int) (w : World) (h1 : Rd w B1 .u8 A1 n1 c1 xs) (h2 : Rd w B2 .u8 A2 n2 c2 ys) :
    Calls Try.prog 66 #[.slice A1 n1 c1, .slice A2 n2 c2] w fun e w' => e = .returned (.bool (decide (xs = ys))) ∧ w = w' := by
  have k1 := h1.str (P := Try.prog) Try.underlying46 Try.underlying5 Try.underlying9
  have k2 := h2.str (P := Try.prog) Try.underlying46 Try.underlying5 Try.underlying9
  have HE := hid (str_eq (xs := xs) (ys := ys) (fun x hx => bounds_u8 (h1.wf x hx)) (fun x hx => bounds_u8 (h2.wf x hx)))
  generalize strOfNums xs = s1 at *
  generalize strOfNums ys = s2 at *
  go_enter Try.func66, Try.ntmps66
  go_wp2
  go_ret
  exact ⟨ret_bool HE.out, rfl⟩
end Go.Proofs.Ytgiapfenalhleaa
