/-
  SameBytes, and the chapter's example ('live').
-/
import Derived.Test.YtfmlifdoibjogaaBigsize
import Derived.Deep.RegionWith
namespace Go.Proofs.Ytfmlifdoibjogaa
open Go.RowKit Go.WalkArith

set_option maxHeartbeats 1000000 in
theorem live_any (w : World) :
    Calls Try.prog 7 #[] w fun e w' => e = .returned (.bool true) ∧ Below w.heap.size w w' := by
  go_enter Try.func7, Try.ntmps7
  have hlit := str3 (P := Try.prog) Try.underlying24 Try.underlying5 Try.underlying9 253 0 253
  go_wp2
  go_region_with (go_at_call 13; go_must (refine (put_any _ _ _ [253] _ (Rd.lit1 ?_ (wf_u64 (by omega))) (by omega)).mono ?_; go_simp; rintro e w2 ⟨v2, rfl, hown2, hbel2⟩; rw [show octs [253] = [253, 0, 253] from by decide] at hown2; obtain ⟨A2, c2, rfl, hr2⟩ := hown2.form; change Rd w2 w2.heap.size .u8 A2 3 c2 [253, 0, 253] at hr2; have hk := hr2.str (P := Try.prog) Try.underlying24 Try.underlying5 Try.underlying9; have hco := cells_old hbel2; have q0 := hco w.heap.size; have q1 := hco (w.heap.size + 1); clear hco; (try simp [go_sem] at q0); (try simp [go_sem] at q1); have hk2 := fun o => (hr2.alloc (Nat.le_refl _) o).str (P := Try.prog) Try.underlying24 Try.underlying5 Try.underlying9))
  all_goals (go_wp2; go_ret; refine ⟨rfl, ?_⟩; (repeat (first | exact Below.refl _ _ | refine Below.drew ?_ | refine bel_drewN ?_ _ | refine bel_alloc ?_ _ | refine bel_call ?_ (by assumption))))
end Go.Proofs.Ytfmlifdoibjogaa
