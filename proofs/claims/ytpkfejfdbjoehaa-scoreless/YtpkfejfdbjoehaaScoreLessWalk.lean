/-
  The walk of ScoreLess.
-/
import Derived.Test.YtpkfejfdbjoehaaScoreSpec
namespace Go.Proofs.Ytpkfejfdbjoehaa
open Go.RowKit Go.WalkArith

/-- How three may stand to each other. -/
theorem three_ways (p q r : Int × Int) : (ltK p q = false ∧ ltK q p = false ∧ ltK q r = false ∧ ltK r q = false ∧ ltK p r = false ∧ ltK r p = false) ∨
    (ltK p q = false ∧ ltK q p = false ∧ ltK q r = false ∧ ltK r q = true ∧ ltK p r = false ∧ ltK r p = true) ∨
    (ltK p q = false ∧ ltK q p = false ∧ ltK q r = true ∧ ltK r q = false ∧ ltK p r = true ∧ ltK r p = false) ∨
    (ltK p q = false ∧ ltK q p = true ∧ ltK q r = false ∧ ltK r q = false ∧ ltK p r = false ∧ ltK r p = true) ∨
    (ltK p q = false ∧ ltK q p = true ∧ ltK q r = false ∧ ltK r q = true ∧ ltK p r = false ∧ ltK r p = true) ∨
    (ltK p q = false ∧ ltK q p = true ∧ ltK q r = true ∧ ltK r q = false ∧ ltK p r = false ∧ ltK r p = false) ∨
    (ltK p q = false ∧ ltK q p = true ∧ ltK q r = true ∧ ltK r q = false ∧ ltK p r = false ∧ ltK r p = true) ∨
    (ltK p q = false ∧ ltK q p = true ∧ ltK q r = true ∧ ltK r q = false ∧ ltK p r = true ∧ ltK r p = false) ∨
    (ltK p q = true ∧ ltK q p = false ∧ ltK q r = false ∧ ltK r q = false ∧ ltK p r = true ∧ ltK r p = false) ∨
    (ltK p q = true ∧ ltK q p = false ∧ ltK q r = false ∧ ltK r q = true ∧ ltK p r = false ∧ ltK r p = false) ∨
    (ltK p q = true ∧ ltK q p = false ∧ ltK q r = false ∧ ltK r q = true ∧ ltK p r = false ∧ ltK r p = true) ∨
    (ltK p q = true ∧ ltK q p = false ∧ ltK q r = false ∧ ltK r q = true ∧ ltK p r = true ∧ ltK r p = false) ∨
    (ltK p q = true ∧ ltK q p = false ∧ ltK q r = true ∧ ltK r q = false ∧ ltK p r = true ∧ ltK r p = false) := by
  cases h1 : ltK p q <;> cases h2 : ltK q p <;> cases h3 : ltK q r <;> cases h4 : ltK r q <;> cases h5 : ltK p r <;> cases h6 : ltK r p <;>
  first
  | (simp; done)
  | (exfalso
     have a1 := @ltK_asym p q
     have a2 := @ltK_asym q r
     have a3 := @ltK_asym p r
     have t1 := @ltK_trans p q r
     have t2 := @ltK_trans r q p
     have t3 := @ltK_trans q p r
     have t4 := @ltK_trans r p q
     have t5 := @ltK_trans p r q
     have t6 := @ltK_trans q r p
     have l1 := @ltK_le p q r
     have l2 := @ltK_le r q p
     have l3 := @ltK_le q p r
     have l4 := @ltK_le r p q
     have l5 := @ltK_le p r q
     have l6 := @ltK_le q r p
     simp_all)
theorem nan_two (a b : Nat) : (nanB a = true ∧ ltK (scK a) (scK b) = (!nanB b) ∧ ltK (scK b) (scK a) = false) ∨ (nanB a = false ∧ nanB b = true ∧ ltK (scK a) (scK b) = false) ∨ (nanB a = false ∧ nanB b = false) := by
  cases ha : nanB a with
  | true =>
    refine .inl ⟨rfl, nan_lt ha, ?_⟩
    cases hb : nanB b with
    | true => rw [nan_lt hb, ha]; rfl
    | false => exact ltK_asym (by rw [nan_lt ha, hb]; rfl)
  | false =>
    cases hb : nanB b with
    | true => exact .inr (.inl ⟨rfl, rfl, ltK_asym (by rw [nan_lt hb, ha]; rfl)⟩)
    | false => exact .inr (.inr ⟨rfl, rfl⟩)

set_option maxRecDepth 100000 in
set_option maxHeartbeats 8000000 in
theorem scoreLess_walkH (HS : ScoreSpec) (a0 a1 a2 : Nat) (w : World) (_ : (Lit.float .f64 a0).wf = true) (_ : (Lit.float .f64 a1).wf = true) (_ : (Lit.float .f64 a2).wf = true) :
    Calls Try.prog 4 #[.float .f64 a0, .float .f64 a1, .float .f64 a2] w fun e w' => e = .returned (.bool true) ∧ Below w.heap.size w w' := by
  have Haa := hid (fun (W : World) => (by have := HS.less a0 a0 W; rw [ltK_irr] at this; exact this))
  have Hab := hid (fun (W : World) => HS.less a0 a1 W)
  have Hba := hid (fun (W : World) => HS.less a1 a0 W)
  have Hbc := hid (fun (W : World) => HS.less a1 a2 W)
  have Hcb := hid (fun (W : World) => HS.less a2 a1 W)
  have Hac := hid (fun (W : World) => HS.less a0 a2 W)
  have Hca := hid (fun (W : World) => HS.less a2 a0 W)
  have n0 := order_ne a0
  have n1 := order_ne a1
  have s1 := order_same a1
  have lt0 := order_lt a0 a1
  have HW := three_ways (scK a0) (scK a1) (scK a2)
  have HN := nan_two a0 a1
  generalize scK a0 = p at *
  generalize scK a1 = q at *
  generalize scK a2 = r at *
  generalize nanB a0 = na at *
  generalize nanB a1 = nb at *
  go_enter Try.func4, Try.ntmps4
  go_wp2_with fail
  refine (live11_any HS _).mono ?_
  rintro e w1 ⟨rfl, HB⟩
  rcases HW with ⟨e1, e2, e3, e4, e5, e6⟩ | ⟨e1, e2, e3, e4, e5, e6⟩ | ⟨e1, e2, e3, e4, e5, e6⟩ | ⟨e1, e2, e3, e4, e5, e6⟩ | ⟨e1, e2, e3, e4, e5, e6⟩ | ⟨e1, e2, e3, e4, e5, e6⟩ | ⟨e1, e2, e3, e4, e5, e6⟩ | ⟨e1, e2, e3, e4, e5, e6⟩ | ⟨e1, e2, e3, e4, e5, e6⟩ | ⟨e1, e2, e3, e4, e5, e6⟩ | ⟨e1, e2, e3, e4, e5, e6⟩ | ⟨e1, e2, e3, e4, e5, e6⟩ | ⟨e1, e2, e3, e4, e5, e6⟩
  all_goals
    rw [e1] at Hab
    rw [e2] at Hba
    rw [e3] at Hbc
    rw [e4] at Hcb
    rw [e5] at Hac
    rw [e6] at Hca
    rw [e1, e2] at HN
    rw [e1] at lt0
    clear e1 e2 e3 e4 e5 e6
    rcases HN with ⟨rfl, k1, k2⟩ | ⟨rfl, rfl, k1⟩ | ⟨rfl, rfl⟩
    all_goals first
    | (exfalso; simp at k1; done)
    | (exfalso; simp at k2; done)
    | (try simp at k1
       try subst k1
       try (have lt1 := lt0 rfl)
       try clear k1
       try clear k2
       clear lt0
       go_wp2_with (first
         | ((with_reducible refine (Haa.out _).mono ?_); rintro e wx ⟨rfl, hb⟩; replace HB := bel_call HB hb; clear hb)
         | ((with_reducible refine (Hab.out _).mono ?_); rintro e wx ⟨rfl, hb⟩; replace HB := bel_call HB hb; clear hb)
         | ((with_reducible refine (Hba.out _).mono ?_); rintro e wx ⟨rfl, hb⟩; replace HB := bel_call HB hb; clear hb)
         | ((with_reducible refine (Hbc.out _).mono ?_); rintro e wx ⟨rfl, hb⟩; replace HB := bel_call HB hb; clear hb)
         | ((with_reducible refine (Hcb.out _).mono ?_); rintro e wx ⟨rfl, hb⟩; replace HB := bel_call HB hb; clear hb)
         | ((with_reducible refine (Hac.out _).mono ?_); rintro e wx ⟨rfl, hb⟩; replace HB := bel_call HB hb; clear hb)
         | ((with_reducible refine (Hca.out _).mono ?_); rintro e wx ⟨rfl, hb⟩; replace HB := bel_call HB hb; clear hb))
       go_ret
       exact ⟨rfl, HB⟩)
end Go.Proofs.Ytpkfejfdbjoehaa
