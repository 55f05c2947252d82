/-
  The words of what package roots answers; the laws' own 'live' of layer 8 over them.
-/
import Derived.Test.YtlenoiaepanejaaRootsRef1
namespace Go.Proofs.Ytlenoiaepanejaa
open Go.RowKit Go.WalkArith

/-- What package roots answers. -/
structure RootsSpec : Prop where
  check : ∀ (A : Option Addr) (n c : Nat) (l : List Rtk) (w : World), Sl lay_RootKey w (· < w.heap.size) A n c l →
    Calls Try.prog 18 #[.slice A n c] w fun e w' => e = .returned (.int .i64 (rkE l)) ∧ Below w.heap.size w w'
  same : ∀ (A A' : Option Addr) (n c n' c' : Nat) (l o : List Rtk) (w : World), Sl lay_RootKey w (· < w.heap.size) A n c l → Sl lay_RootKey w (· < w.heap.size) A' n' c' o →
    Calls Try.prog 20 #[.slice A n c, .slice A' n' c'] w fun e w' => e = .returned (.bool (decide (l = o))) ∧ Below w.heap.size w w'
  key : ∀ (A : Option Addr) (n c : Nat) (l : List Rtk) (id : Int) (w : World), Sl lay_RootKey w (· < w.heap.size) A n c l → (Lit.int .u64 id).wf = true →
    Calls Try.prog 15 #[.slice A n c, .int .u64 id] w fun e w' => e = .returned (.tuple #[.int .u64 (kyV l id), .int .i64 (kyE l id)]) ∧ Below w.heap.size w w'
  add : ∀ (A : Option Addr) (n c : Nat) (l : List Rtk) (id key : Int) (w : World), Sl lay_RootKey w (· < w.heap.size) A n c l → (Lit.int .u64 id).wf = true → (Lit.int .u64 key).wf = true →
    Calls Try.prog 9 #[.slice A n c, .int .u64 id, .int .u64 key] w fun e w' => ∃ v', e = .returned (.tuple #[v', .int .i64 (adE l id key)]) ∧ OwnL lay_RootKey w' w.heap.size (some w.heap.size) 34 v' (adL l id key) ∧ Below w.heap.size w w'
  turn : ∀ (A : Option Addr) (n c : Nat) (l : List Rtk) (id key : Int) (w : World), Sl lay_RootKey w (· < w.heap.size) A n c l → (Lit.int .u64 id).wf = true → (Lit.int .u64 key).wf = true →
    Calls Try.prog 11 #[.slice A n c, .int .u64 id, .int .u64 key] w fun e w' => ∃ v', e = .returned (.tuple #[v', .int .i64 (tnE l id key)]) ∧ OwnL lay_RootKey w' w.heap.size (some w.heap.size) 34 v' (tnL l id key) ∧ Below w.heap.size w w'
  revoke : ∀ (A : Option Addr) (n c : Nat) (l : List Rtk) (id : Int) (w : World), Sl lay_RootKey w (· < w.heap.size) A n c l → (Lit.int .u64 id).wf = true →
    Calls Try.prog 13 #[.slice A n c, .int .u64 id] w fun e w' => ∃ v', e = .returned (.tuple #[v', .int .i64 (kyE l id)]) ∧ OwnL lay_RootKey w' w.heap.size (some w.heap.size) 34 v' (rvL l id) ∧ Below w.heap.size w w'

theorem eg8 : adE [] 3 9 = 0 ∧ kyE (adL [] 3 9) 3 = 0 ∧ kyE (rvL (adL [] 3 9) 3) 3 = 13 := by decide

set_option maxHeartbeats 1000000 in
theorem live8_any (HR : RootsSpec) (w : World) : Calls Try.prog 8 #[] w fun e w' => e = .returned (.bool true) ∧ Below w.heap.size w w' := by
  obtain ⟨e1, e2, e3⟩ := eg8
  have H1 := hid (HR.add none 0 0 [] 3 9 w (Sl.nil _ _ _) (by decide) (by decide))
  rw [e1] at H1
  have E2 := hid e2
  have E3 := hid e3
  clear e1 e2 e3
  generalize adL [] 3 9 = l1 at *
  go_enter Try.func8, Try.ntmps8
  go_wp2_with fail
  refine H1.out.mono ?_
  rintro e w1 ⟨v1, rfl, ho1, hb1⟩
  obtain ⟨A1, n1, c1, rfl, hs1⟩ := ho1.read
  go_wp2_with fail
  refine (HR.revoke _ _ _ l1 3 w1 hs1 (by decide)).mono ?_
  rw [E2.out]
  rintro e w2 ⟨v2, rfl, ho2, hb2⟩
  obtain ⟨A2, n2, c2, rfl, hs2⟩ := ho2.read
  go_wp2_with fail
  refine (HR.key _ _ _ (rvL l1 3) 3 w2 hs2 (by decide)).mono ?_
  rw [E3.out]
  rintro e w3 ⟨rfl, hb3⟩
  go_wp2
  go_ret
  exact ⟨rfl, bel_call (bel_call hb1 hb2) hb3⟩
end Go.Proofs.Ytlenoiaepanejaa
