/-
  The walk of CaveatMore.
-/
import Derived.Test.YtikfdfdancgnpaaCaveatLive
import Derived.Test.YtikfdfdancgnpaaOwn3
import Derived.Laws.OwnMore
import Derived.Deep.RegionHeld3
import Derived.Deep.Cut
import Derived.Deep.CutRange
namespace Go.Proofs.Ytikfdfdancgnpaa
open Go.RowKit Go.WalkArith

theorem Try.infoCav : (Try.prog.info? 24).map (fun i => (i.zero, i.size, i.bytes)) = some (some (.agg #[.int .i64 0, .int .u64 0, .int .u64 0]), lay_Caveat.size, 24) := by kernel_rfl
/-- A literal of one element, just laid. -/
theorem OwnL.litC {α : Type} {L : Lay α} {w : World} {S : Nat → Prop} {x : α} {cy : Array Value} (e : TypeId) (lo : Option Nat) (h1 : cy.size = L.size) (hr : L.rep w S x cy.toList) (hS : ∀ b, S b → New w lo b ∧ b < w.heap.size) :
    OwnL L (w.alloc (.cells cy e)) w.heap.size lo e (.slice (some ⟨w.heap.size, 0, none⟩) 1 1) [x] := by
  have hb : Below w.heap.size w (w.alloc (.cells cy e)) := bel_alloc (Below.refl _ _) _
  refine ⟨cy.toList, World.ownsRow_lit w cy 1 (Nat.le_refl _) (by simp [maxLen]) (by rw [h1]; omega), RepRow.single ?_⟩
  refine L.wide (L.keep hr fun p hp => hb.cell (hS _ hp).2) fun b hb' => ?_
  have h2 := hS b hb'
  exact ⟨h2.1.of_block (hb.block b h2.2), Nat.lt_of_lt_of_le h2.2 hb.size, fun he => by simp [Value.ownBlock] at he; omega⟩

set_option maxRecDepth 100000 in
set_option maxHeartbeats 8000000 in
theorem caveatMore_walk (A0 : Option Addr) (n0 c0 : Nat) (x0 : List Cav) (s1 : Array Value) (x1 : Cav) (s2 : Array Value) (x2 : Usx) (w : World) (r0 : Sl lay_Caveat w (· < w.heap.size) A0 n0 c0 x0) (r1 : lay_Caveat.rep w (· < w.heap.size) x1 s1.toList) (r2 : lay_Use.rep w (· < w.heap.size) x2 s2.toList) :
    Calls Try.prog 5 #[.slice A0 n0 c0, .agg s1, .agg s2] w fun e w' => e = .returned (.bool true) ∧ Below w.heap.size w w' := by
  obtain ⟨rfl, h1⟩ := agg_Caveat r1
  obtain ⟨rfl, h2⟩ := agg_Use r2
  clear r1 r2
  have hc0 := r0.cap
  unfold maxLen at hc0
  have HL := hid r0.len
  have hb0 : Below w.heap.size w ((w.alloc (Obj.cells #[.int .i64 x1.Kind, .int .u64 x1.A, .int .u64 x1.B] 24)).alloc (Obj.cells #[.int .u64 x2.Tick, .int .i64 x2.Method, .int .u64 x2.Amount, .int .u64 x2.Who] 27)) := bel_alloc (bel_alloc (Below.refl _ _) _) _
  have v1 : Var3 ((w.alloc (Obj.cells #[.int .i64 x1.Kind, .int .u64 x1.A, .int .u64 x1.B] 24)).alloc (Obj.cells #[.int .u64 x2.Tick, .int .i64 x2.Method, .int .u64 x2.Amount, .int .u64 x2.Who] 27)) w.heap.size 24 (.int .i64 x1.Kind) (.int .u64 x1.A) (.int .u64 x1.B) := heap_alloc2_old _ _ _
  have v2 : Var4 ((w.alloc (Obj.cells #[.int .i64 x1.Kind, .int .u64 x1.A, .int .u64 x1.B] 24)).alloc (Obj.cells #[.int .u64 x2.Tick, .int .i64 x2.Method, .int .u64 x2.Amount, .int .u64 x2.Who] 27)) (w.heap.size + 1) 27 (.int .u64 x2.Tick) (.int .i64 x2.Method) (.int .u64 x2.Amount) (.int .u64 x2.Who) := alloc2_new _ _ _
  have P0 := hid (Sl.call r0 hb0)
  have P1 := hid (fun (W : World) (S : Nat → Prop) => (show lay_Caveat.rep W S x1 #[.int .i64 x1.Kind, .int .u64 x1.A, .int .u64 x1.B].toList from rep_Caveat.2 ⟨rfl, h1⟩))
  have P2 := hid (fun W : World => (show lay_Use.rep W (fun _ => True) x2 #[.int .u64 x2.Tick, .int .i64 x2.Method, .int .u64 x2.Amount, .int .u64 x2.Who].toList from rep_Use.2 ⟨rfl, h2⟩))
  clear r0
  go_enter Try.func5, Try.ntmps5
  go_wp2_with fail
  generalize ((w.alloc (Obj.cells #[.int .i64 x1.Kind, .int .u64 x1.A, .int .u64 x1.B] 24)).alloc (Obj.cells #[.int .u64 x2.Tick, .int .i64 x2.Method, .int .u64 x2.Amount, .int .u64 x2.Who] 27)) = W0 at *
  have KK := hid (fun (W : World) (h : Below W0.heap.size W0 W) => (show W.cell? ⟨w.heap.size, 0, none⟩ = some (.int .i64 x1.Kind) ∧ W.cell? ⟨w.heap.size, 1, none⟩ = some (.int .u64 x1.A) ∧ W.cell? ⟨w.heap.size, 2, none⟩ = some (.int .u64 x1.B) ∧ W.cell? ⟨w.heap.size + 1, 0, none⟩ = some (.int .u64 x2.Tick) ∧ W.cell? ⟨w.heap.size + 1, 1, none⟩ = some (.int .i64 x2.Method) ∧ W.cell? ⟨w.heap.size + 1, 2, none⟩ = some (.int .u64 x2.Amount) ∧ W.cell? ⟨w.heap.size + 1, 3, none⟩ = some (.int .u64 x2.Who) from ⟨(v1.call h).c0, (v1.call h).c1, (v1.call h).c2, (v2.call h).c0, (v2.call h).c1, (v2.call h).c2, (v2.call h).c3⟩))
  have PW := hid (fun (W : World) (h : Below W0.heap.size W0 W) => Sl.call P0.out h)
  clear P0 v1 v2
  refine (live6_any _).mono ?_
  rintro e w1 ⟨rfl, hb1⟩
  have HB := hb1
  clear hb1
  by_cases hbig : 15 < n0
  · have d1 : (15 : Int) < (n0 : Int) := by omega
    go_wp2
    go_ret
    exact ⟨rfl, bel_call hb0 HB⟩
  have d1 : decide ((15 : Int) < (n0 : Int)) = false := by simp; omega
  have HLAW := hid (more_laws (c := x1) (u := x2) (show x0.length ≤ 15 from by rw [HL.out]; omega))
  obtain ⟨aE, haE⟩ : ∃ p, alE x0 x2 = p := ⟨_, rfl⟩
  obtain ⟨aV, haV⟩ : ∃ p, alV x0 x2 = p := ⟨_, rfl⟩
  obtain ⟨bE, hbE⟩ : ∃ p, alE (x0 ++ [x1]) x2 = p := ⟨_, rfl⟩
  obtain ⟨bV, hbV⟩ : ∃ p, alV (x0 ++ [x1]) x2 = p := ⟨_, rfl⟩
  obtain ⟨oE, hoE⟩ : ∃ p, hlE x1 x2 = p := ⟨_, rfl⟩
  obtain ⟨oV, hoV⟩ : ∃ p, hlV x1 x2 = p := ⟨_, rfl⟩
  have HCE := hid HLAW.out.1
  have HCV := hid HLAW.out.2.1
  have HWAY := hid HLAW.out.2.2
  rw [haE, haV, hbE, hbV, hoE, hoV] at HWAY
  have AE := hid haE
  have AV := hid haV
  have BE := hid hbE
  have BV := hid hbV
  have OE := hid hoE
  have OV := hid hoV
  clear haE haV hbE hbV hoE hoV HLAW
  obtain ⟨k0, k1, k2, j0, j1, j2, j3⟩ := KK.out _ HB
  go_wp2_with fail
  refine (cAll_any _ _ _ x0 _ x2 _ (PW.out _ HB) (P2.out _)).mono ?_
  rw [AE.out, AV.out]
  rintro e w2 ⟨rfl, hb2⟩
  replace HB := bel_call HB hb2
  clear hb2 k0 k1 k2 j0 j1 j2 j3
  have hlen0 : x0.length ≤ 15 := by rw [HL.out]; omega
  go_upto_region 6 with (fail)
  go_cut [9, 10] from 26 to 35 (fun a b wc => a = .bool bV ∧ b = .int .i64 bE ∧ Below W0.heap.size W0 wc)
  case first =>
    have P6 := hid (PW.out _ HB)
    have hS0 := KK.out _ HB
    obtain ⟨k0, k1, k2, j0, j1, j2, j3⟩ := KK.out _ HB
    have K7 := hid (fun (W : World) (h : Below w2.heap.size w2 W) => KK.out _ (bel_call HB h))
    have hlen1 : (x0.length + 1) * 24 ≤ 140737488355328 := by omega
    have hlen2 : x0.length + 1 ≤ maxLen := by unfold maxLen; omega
    have hba := fun (W : World) (h : Below w2.heap.size w2 W) => bel_alloc h (Obj.cells #[.int .i64 x1.Kind, .int .u64 x1.A, .int .u64 x1.B] 24)
    have HH := Below.refl w2.heap.size w2
    go_region_held3 (fun W => W.cell? ⟨w.heap.size, 0, none⟩ = some (.int .i64 x1.Kind) ∧ W.cell? ⟨w.heap.size, 1, none⟩ = some (.int .u64 x1.A) ∧ W.cell? ⟨w.heap.size, 2, none⟩ = some (.int .u64 x1.B) ∧ W.cell? ⟨w.heap.size + 1, 0, none⟩ = some (.int .u64 x2.Tick) ∧ W.cell? ⟨w.heap.size + 1, 1, none⟩ = some (.int .i64 x2.Method) ∧ W.cell? ⟨w.heap.size + 1, 2, none⟩ = some (.int .u64 x2.Amount) ∧ W.cell? ⟨w.heap.size + 1, 3, none⟩ = some (.int .u64 x2.Who))
      (first | exact K7.out _ HH | exact K7.out _ HH.drew | exact K7.out _ (hba _ HH.drew) | exact K7.out _ hb7 | exact K7.out _ (hba _ hb7) | exact K7.out _ hb8 | exact K7.out _ hb9 | go_keep)
      (first
        | (refine step_catL (by rfl) (.const (.slice none 0 0)) (.tmp 27) 41 (by rfl) w2.heap.size none 24 _ 24 Try.underlying41 Try.infoCav rfl (by decide) (.slice none 0 0) [] x0 (· < w2.heap.size) A0 n0 c0 (by rfl) (by rfl) (OwnL.nil _ _ _ _ _) (P6.out.drewN 1) (fun b hb => ⟨trivial, hb, by simp [Value.ownBlock]⟩) (Nat.le_refl _) (by simp; omega) (by simp; unfold maxLen; omega) ?_; intro v7 w7 ho7 hx7; rw [List.nil_append] at ho7; have hb7 : Below w2.heap.size w2 w7 := (Below.refl w2.heap.size w2).drew.trans hx7.of_nil)
        | (refine step_pushL (w := w7) (by rfl) (.tmp 28) (.tmp 30) 41 (by rfl) w2.heap.size none 24 _ 24 Try.underlying41 Try.infoCav rfl (by decide) v7 x0 x1 #[.int .i64 x1.Kind, .int .u64 x1.A, .int .u64 x1.B] (fun _ => False) w7.heap.size (by rfl) (by rfl) (bel_alloc (Below.refl _ _) _) (heap_alloc_new _ _) ho7 (P1.out _ _) (fun b hb => hb.elim) hb7.size hlen1 hlen2 ?_; intro v8 w8 ho8 hx8; obtain ⟨A8, n8, c8, rfl, hs8⟩ := ho8.read; have hb8 : Below w2.heap.size w2 w8 := (hb7.alloc hb7.size _).trans ((ho7.keep (bel_alloc (Below.refl _ _) _)).below hx8 (Nat.le_trans hb7.size (by simp))))
        | (refine step_catL (w := (w2.drewN 1).alloc (.cells #[.int .i64 x1.Kind, .int .u64 x1.A, .int .u64 x1.B] 24)) (by rfl) (.const (.slice none 0 0)) (.tmp 27) 41 (by rfl) (w2.heap.size + 1) none 24 _ 24 Try.underlying41 Try.infoCav rfl (by decide) (.slice none 0 0) [] x0 (· < w2.heap.size) A0 n0 c0 (by rfl) (by rfl) (OwnL.nil _ _ _ _ _) ((P6.out.drewN 1).keep fun p hp => (bel_alloc (Below.refl w2.heap.size (w2.drewN 1)) _).cell hp) (fun b hb => ⟨trivial, by show b < ((w2.drewN 1).alloc _).heap.size; simp; omega, by simp [Value.ownBlock]⟩) (by simp) (by simp; omega) (by simp; unfold maxLen; omega) ?_; intro v7 w7 ho7 hx7; rw [List.nil_append] at ho7; have hbx : Below (w2.heap.size + 1) ((w2.drewN 1).alloc (.cells #[.int .i64 x1.Kind, .int .u64 x1.A, .int .u64 x1.B] 24)) w7 := hx7.of_nilB (by simp); have hb7 : Below w2.heap.size w2 w7 := ((bel_drewN (Below.refl w2.heap.size w2) 1).alloc (Nat.le_refl _) _).trans (hbx.mono (by omega)); have hg7 := (hbx.block w2.heap.size (by omega)).trans (heap_alloc_new (w2.drewN 1) (.cells #[.int .i64 x1.Kind, .int .u64 x1.A, .int .u64 x1.B] 24)))
        | (refine step_pushW (w := w7) (by rfl) (.tmp 28) (.tmp 30) 41 (by rfl) (w2.heap.size + 1) none 24 _ 24 Try.underlying41 Try.infoCav rfl (by decide) v7 x0 x1 #[.int .i64 x1.Kind, .int .u64 x1.A, .int .u64 x1.B] (fun _ => False) w2.heap.size (by rfl) (by rfl) hg7 ho7 (P1.out _ _) (fun b hb => hb.elim) (lt_of_block hg7) hlen1 hlen2 ?_; intro v8 w8 ho8 hx8; obtain ⟨A8, n8, c8, rfl, hs8⟩ := ho8.read; have hb8 : Below w2.heap.size w2 w8 := hb7.trans ((ho7.below hx8 (lt_of_block hg7)).mono (by omega)))
        | (go_at_call 20; go_must (refine (cAll_any _ _ _ (x0 ++ [x1]) _ x2 w8 hs8 (P2.out _)).mono ?_; rw [BE.out, BV.out]; rintro e w9 ⟨rfl, hb9'⟩; have hb9 := bel_call hb8 hb9')))
    all_goals
      go_wp2_with fail
      go_meet
      case rel => exact ⟨rfl, rfl, bel_call HB hb9⟩
  case rest =>
  obtain ⟨rfl, rfl, HBC⟩ := hcut
  replace HB := HBC
  clear HBC
  go_upto_region 7 with (fail)
  go_cut [11, 12] from 36 to 44 (fun a b wd => a = .bool bV ∧ b = .int .i64 bE ∧ Below W0.heap.size W0 wd)
  case first =>
    have P6 := hid (PW.out _ HB)
    obtain ⟨k0, k1, k2, j0, j1, j2, j3⟩ := KK.out _ HB
    have K7 := hid (fun (W : World) (h : Below wc.heap.size wc W) => KK.out _ (bel_call HB h))
    have hlen1 : (1 + n0) * 24 ≤ 140737488355328 := by omega
    have hlen2 : 1 + n0 ≤ maxLen := by unfold maxLen; omega
    have hba := fun (W : World) (h : Below wc.heap.size wc W) => bel_alloc h (Obj.cells #[.int .i64 x1.Kind, .int .u64 x1.A, .int .u64 x1.B] 24)
    have HH := Below.refl wc.heap.size wc
    have HLT := hid (OwnL.litC (L := lay_Caveat) (w := wc.drewN 1) (S := fun _ => False) (cy := #[.int .i64 x1.Kind, .int .u64 x1.A, .int .u64 x1.B]) 24 none rfl (P1.out _ _) (fun b hb => hb.elim))
    go_region_held3 (fun W => W.cell? ⟨w.heap.size, 0, none⟩ = some (.int .i64 x1.Kind) ∧ W.cell? ⟨w.heap.size, 1, none⟩ = some (.int .u64 x1.A) ∧ W.cell? ⟨w.heap.size, 2, none⟩ = some (.int .u64 x1.B) ∧ W.cell? ⟨w.heap.size + 1, 0, none⟩ = some (.int .u64 x2.Tick) ∧ W.cell? ⟨w.heap.size + 1, 1, none⟩ = some (.int .i64 x2.Method) ∧ W.cell? ⟨w.heap.size + 1, 2, none⟩ = some (.int .u64 x2.Amount) ∧ W.cell? ⟨w.heap.size + 1, 3, none⟩ = some (.int .u64 x2.Who))
      (first | exact K7.out _ HH | exact K7.out _ HH.drew | exact K7.out _ (hba _ HH.drew) | exact K7.out _ hb7 | exact K7.out _ hb9 | go_keep)
      (first
        | (refine step_catL (w := (wc.drewN 1).alloc (.cells #[.int .i64 x1.Kind, .int .u64 x1.A, .int .u64 x1.B] 24)) (by rfl) (.tmp 38) (.tmp 39) 41 (by rfl) wc.heap.size none 24 _ 24 Try.underlying41 Try.infoCav rfl (by decide) (.slice (some ⟨wc.heap.size, 0, none⟩) 1 1) [x1] x0 (· < wc.heap.size) A0 n0 c0 (by rfl) (by rfl) HLT.out ((P6.out.drewN 1).keep fun p hp => (bel_alloc (Below.refl wc.heap.size (wc.drewN 1)) _).cell hp) (fun b hb => ⟨trivial, by show b < ((wc.drewN 1).alloc _).heap.size; simp; omega, fun he => by simp [Value.ownBlock] at he; omega⟩) (by simp) hlen1 hlen2 ?_; intro v7 w7 ho7 hx7; obtain ⟨A8, n8, c8, rfl, hs8⟩ := ho7.read; have hb7 : Below wc.heap.size wc w7 := ((bel_drewN (Below.refl wc.heap.size wc) 1).alloc (Nat.le_refl _) _).trans (HLT.out.below hx7 (by simp)))
        | (go_at_call 20; go_must (refine (cAll_any _ _ _ ([x1] ++ x0) _ x2 w7 hs8 (P2.out _)).mono ?_; rw [show [x1] ++ x0 = x1 :: x0 from rfl, HCE.out, HCV.out, BE.out, BV.out]; rintro e w9 ⟨rfl, hb9'⟩; have hb9 := bel_call hb7 hb9')))
    all_goals
      go_wp2_with fail
      go_meet
      case rel => exact ⟨rfl, rfl, bel_call HB hb9⟩
  case rest =>
  obtain ⟨rfl, rfl, HBC⟩ := hcut
  replace HB := HBC
  clear HBC
  have hnb : (bV != bV) = false := by cases bV <;> rfl
  rcases HWAY.out with ⟨q1, q2⟩ | ⟨q1, q2, q3, q4⟩
  · subst q1 q2
    clear HWAY
    go_wp2
    go_ret
    exact ⟨rfl, bel_call hb0 HB⟩
  · subst q1 q2 q3
    have Q4 := hid q4
    clear q4 HWAY
    obtain ⟨k0, k1, k2, j0, j1, j2, j3⟩ := KK.out _ HB
    go_wp2_with fail
    refine (cHolds_any _ _ (fun _ => True) x1 x2 _ (P1.out _ _) (P2.out _)).mono ?_
    rw [OE.out, OV.out]
    rintro e w9 ⟨rfl, hb9⟩
    have HBE := hid (bel_call hb0 (bel_call HB hb9))
    clear k0 k1 k2 j0 j1 j2 j3
    have q := Q4.out
    cases aV <;> cases oV <;> cases bV
    all_goals try (simp at q; done)
    all_goals
      clear q Q4
      go_wp2
      go_ret
      exact ⟨rfl, HBE.out⟩
end Go.Proofs.Ytikfdfdancgnpaa
