/-
  The example of layer 3's chapter.
-/
import Derived.Test.YtbcahbgdjoahaaaFrame
import Derived.Lib.SlBytesConst
namespace Go.Proofs.Ytbcahbgdjoahaaa
open Go.RowKit Go.WalkArith

theorem cell_marked (W : World) (cs : Array Value) (e : TypeId) (f : Nat × Nat) (i : Nat) : (W.alloc (.cells cs e f)).cell? ⟨W.heap.size, i, none⟩ = cs[i]? := by
  have h := heap_alloc_new W (.cells cs e f)
  simp only [World.cell?, h]
  rfl
theorem pt_eg : ptE [104, 105] = 0 ∧ ptO [104, 105] = [0, 2, 104, 105] := ⟨rfl, rfl⟩

set_option maxHeartbeats 1000000 in
theorem live3_any (w : World) :
    Calls Try.prog 7 #[] w fun e w' => e = .returned (.bool true) ∧ Below w.heap.size w w' := by
  have hlit := str4 (P := Try.prog) Try.underlying22 Try.underlying5 Try.underlying9 0 2 104 105
  have HARG := hid (show ∀ W : World, Rd (W.alloc (Obj.cells #[Value.int IntKind.u8 104, Value.int IntKind.u8 105] 5 (2, 2 + 1))) (W.alloc (Obj.cells #[Value.int IntKind.u8 104, Value.int IntKind.u8 105] 5 (2, 2 + 1))).heap.size .u8 (some ⟨W.heap.size, 0, none⟩) 2 2 [104, 105] from fun W => Rd.lit2 (cell_marked _ _ _ _ 0) (cell_marked _ _ _ _ 1) (by decide) (by decide))
  have kc := fun (w : World) (C : Array Value) (n c : Nat) => Lib.run_convert_bytes_const (P := Try.prog) w 22 5 C n c Try.underlying22 Try.underlying5
  go_enter Try.func7, Try.ntmps7
  go_wp2_with fail
  with_reducible refine (framePut_any _ _ _ _ [104, 105] _ (HARG.out w) (Nat.le_refl _)).mono ?_
  rw [pt_eg.1, pt_eg.2]
  rintro e w2 ⟨v2, rfl, hown2, hb2⟩
  obtain ⟨A2, n2, c2, rfl, hr2⟩ := hown2.formN
  have k2 := hr2.str (P := Try.prog) Try.underlying22 Try.underlying5 Try.underlying9
  have k3 := fun o => (hr2.alloc (Nat.le_refl _) o).str (P := Try.prog) Try.underlying22 Try.underlying5 Try.underlying9
  go_wp2
  go_ret
  exact ⟨rfl, by (repeat (first | exact Below.refl _ _ | refine Below.drew ?_ | refine bel_drewN ?_ _ | refine bel_alloc ?_ _ | refine bel_call ?_ (by assumption)))⟩

/-- A variable that has just been laid. -/
theorem Var2.new (w : World) (t : TypeId) (x y : Value) : Var2 (w.alloc (.cells #[x, y] t)) w.heap.size t x y := heap_alloc_new _ _
end Go.Proofs.Ytbcahbgdjoahaaa
