/-
  The contract of the document's own Number of layer 2.
-/
import Derived.Test.YtgiapfenalhleaaTlvRefGet
import Derived.Test.YtgiapfenalhleaaTlvRefFind
namespace Go.Proofs.Ytgiapfenalhleaa
open Go.RowKit Go.WalkArith

set_option maxRecDepth 100000 in
set_option maxHeartbeats 1000000 in
theorem refNumber_any (A : Option Addr) (n c : Nat) (l : List Rec) (t : Int) (w : World) (hr : Sl lay_Record w (· < w.heap.size) A n c l) :
    Calls Try.prog 59 #[.slice A n c, .int .u64 t] w fun e w' => e = .returned (.tuple #[.int .u64 (nV l t), .int .i64 (nE l t)]) ∧ Below w.heap.size w w' := by
  unfold nV nE
  have HF := refFind_any A n c l t w hr
  generalize fE l t = e at *
  generalize fV l t = xs at *
  by_cases he : e = 0
  case neg =>
    rw [if_pos he, if_pos he]
    have hb : (e != 0) = true := by simpa using he
    clear he
    go_enter Try.func59, Try.ntmps59
    go_wp2_with (go_at_call 58; go_must (refine HF.mono ?_; rintro e w1 ⟨v1, rfl, hown1, hb1⟩))
    go_ret2
    exact ⟨rfl, hb1⟩
  subst he
  rw [if_neg (by simp), if_neg (by simp)]
  unfold numV numE
  by_cases he : getE xs = 0
  case neg =>
    rw [if_pos he, if_pos he]
    have HE := hid he
    have hb : (getE xs != 0) = true := by simpa using he
    clear he
    go_enter Try.func59, Try.ntmps59
    go_wp2_with (go_at_call 58; go_must (refine HF.mono ?_; rintro e w1 ⟨v1, rfl, hown1, hb1⟩; obtain ⟨A1, n1, c1, rfl, hr1⟩ := hown1.formN))
    with_reducible refine (refGet_bad _ _ _ xs _ hr1 HE.out).mono ?_
    rintro e w2 ⟨rfl, hb2⟩
    go_wp2
    go_ret2
    exact ⟨rfl, bel_call hb1 hb2⟩
  have hne : ¬ (getE xs ≠ 0) := by simp [he]
  rw [if_neg hne, if_neg hne]
  have HE := hid he
  clear he hne
  by_cases hkk : (oct (rdN xs)).length = xs.length
  all_goals
    have HK := hid hkk
    first | rw [if_pos hkk, if_pos hkk] | rw [if_neg hkk, if_neg hkk]
    clear hkk
    go_enter Try.func59, Try.ntmps59
    go_wp2_with (go_at_call 58; go_must (refine HF.mono ?_; rintro e w1 ⟨v1, rfl, hown1, hb1⟩; obtain ⟨A1, n1, c1, rfl, hr1⟩ := hown1.formN))
    obtain ⟨m, k, hX, hK, hk1, hk9, hkn, hm, -⟩ := num_at hr1 HE.out
    have HL := hid hr1.len
    have X := hid hX
    have K := hid hK
    clear hX hK
    with_reducible refine (refGet_ok _ _ _ xs _ hr1 HE.out).mono ?_
    rw [K.out, X.out]
    rintro e w2 ⟨rfl, hb2⟩
  · have hkk : k = n1 := by rw [← K.out, HK.out, HL.out]
    subst hkk
    go_wp2
    go_ret2
    exact ⟨by rw [X.out]; rfl, bel_call hb1 hb2⟩
  · have hkk : k ≠ n1 := fun h => HK.out (by rw [K.out, HL.out, h])
    have hne : ((k : Int) != (n1 : Int)) = true := by simp; omega
    go_wp2
    go_ret2
    exact ⟨rfl, bel_call hb1 hb2⟩
end Go.Proofs.Ytgiapfenalhleaa
