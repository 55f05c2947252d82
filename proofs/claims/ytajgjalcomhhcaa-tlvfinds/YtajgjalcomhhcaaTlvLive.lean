/-
  The example of layer 2's chapter.
-/
import Derived.Test.YtajgjalcomhhcaaTlv5
import Derived.Test.YtajgjalcomhhcaaTlvLaws
namespace Go.Proofs.Ytajgjalcomhhcaa
open Go.RowKit Go.WalkArith

def egRec : Rec := ⟨3, [7, 8]⟩
theorem eg_maybe : MayBe [egRec] := ⟨by simp, fun j h _ => by
  obtain rfl : j = 0 := by simp at h; omega
  exact ⟨by simp [egRec], fun h => absurd h (by omega)⟩⟩
theorem eg_put : pO [egRec] = [3, 2, 7, 8] ∧ pE [egRec] = 0 := by
  rw [pO_ok eg_maybe, pE_ok eg_maybe]
  exact ⟨by decide, by decide⟩

set_option maxHeartbeats 1000000 in
theorem live2_any (w : World) :
    Calls Try.prog 9 #[] w fun e w' => e = .returned (.bool true) ∧ Below w.heap.size w w' := by
  have hlit := str4 (P := Try.prog) Try.underlying23 Try.underlying5 Try.underlying9 3 2 7 8
  go_enter Try.func9, Try.ntmps9
  have harg : ∀ W : World, Sl lay_Record ((W.alloc (Obj.cells #[Value.int IntKind.u8 7, Value.int IntKind.u8 8] 5)).alloc (Obj.cells #[Value.int IntKind.u64 3, Value.slice (some { block := W.heap.size, off := 0 }) 2 2] 36)) (· < ((W.alloc (Obj.cells #[Value.int IntKind.u8 7, Value.int IntKind.u8 8] 5)).alloc (Obj.cells #[Value.int IntKind.u64 3, Value.slice (some { block := W.heap.size, off := 0 }) 2 2] 36)).heap.size) (some ⟨W.heap.size + 1, 0, none⟩) 1 1 [egRec] := by
    intro W
    refine Sl.lit1 (cs := [.int .u64 3, .slice (some ⟨W.heap.size, 0, none⟩) 2 2]) (by simp) (rep_Record.2 ⟨_, _, _, rfl, by decide, (Rd.lit2 ?_ ?_ (by decide) (by decide)).sl⟩) ?_
    · go_simp
    · go_simp
    · intro i v hv
      match i, hv with
      | 0, hv => simp at hv; subst hv; go_simp
      | 1, hv => simp at hv; subst hv; go_simp
  have HARG := hid harg
  clear harg
  go_wp2_with fail
  with_reducible refine (tlvPut_any _ _ _ _ _ (HARG.out w)).mono ?_
  rw [eg_put.1, eg_put.2]
  rintro e w2 ⟨v2, rfl, hown2, hb2⟩
  obtain ⟨A2, n2, c2, rfl, hr2⟩ := hown2.formN
  have k2 := hr2.str (P := Try.prog) Try.underlying23 Try.underlying5 Try.underlying9
  have k3 := fun o => (hr2.alloc (Nat.le_refl _) o).str (P := Try.prog) Try.underlying23 Try.underlying5 Try.underlying9
  go_wp2
  go_ret
  exact ⟨rfl, by (repeat (first | exact Below.refl _ _ | refine Below.drew ?_ | refine bel_drewN ?_ _ | refine bel_alloc ?_ _ | refine bel_call ?_ (by assumption)))⟩

theorem recs_wf {w : World} {S : Nat → Prop} {A : Option Addr} {n c : Nat} {l : List Rec} (h : Sl lay_Record w S A n c l) (hS : ∀ b, S b → b < w.heap.size) : ∀ r ∈ l, RecWf r := fun r hr => by
  obtain ⟨j, hj, rfl⟩ := List.getElem_of_mem hr
  obtain ⟨b, off, A', n', c', hx, _, _, _, _, hT, hV⟩ := rec_at h (j := j) (by rw [← h.len]; exact hj)
  exact ⟨hT, fun x hx' => bounds_u8 ((hV.rd hS).wf x hx')⟩

end Go.Proofs.Ytajgjalcomhhcaa
