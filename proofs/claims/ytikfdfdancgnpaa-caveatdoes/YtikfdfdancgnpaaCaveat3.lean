/-
  The contract of package caveat's own Put.
-/
import Derived.Test.YtikfdfdancgnpaaCaveat2
namespace Go.Proofs.Ytikfdfdancgnpaa
open Go.RowKit Go.WalkArith

theorem rd_row {w : World} {g : Nat} {t : TypeId} {x y z : Int} (n : Nat) (hn : n ≤ 3) (h0 : 0 < n) (V : Var3 w g t (.int .u64 x) (.int .u64 y) (.int .u64 z)) (hx : (Lit.int .u64 x).wf = true) (hy : (Lit.int .u64 y).wf = true) (hz : (Lit.int .u64 z).wf = true) : Rd w w.heap.size .u64 (some ⟨g, 0, none⟩) n 3 ([x, y, z].take n) := by
  have hm : ∀ v ∈ [x, y, z], (Lit.int .u64 v).wf = true := by simpa using ⟨hx, hy, hz⟩
  refine ⟨by simp; omega, hn, by simp [maxLen], fun v hv => hm v (List.mem_of_mem_take hv), by simp, fun _ => ⟨g, 0, rfl, V.lt, fun j hj => ?_⟩⟩
  have e : nth ([x, y, z].take n) j = nth [x, y, z] j := by simp [nth, hj]
  rw [e]
  match j, (by omega : j < 3) with
  | 0, _ => exact V.c0
  | 1, _ => exact V.c1
  | 2, _ => exact V.c2

set_option maxHeartbeats 1000000 in
theorem cPut_any (s : Array Value) (S : Nat → Prop) (c : Cav) (w : World) (h : lay_Caveat.rep w S c s.toList) :
    Calls Try.prog 9 #[.agg s] w fun e w' => ∃ v', e = .returned (.tuple #[v', .int .i64 (cavE c)]) ∧ Own w' w.heap.size 5 .u8 v' (putC c) ∧ Below w.heap.size w w' := by
  obtain ⟨rfl, hw⟩ := agg_Caveat h
  clear h
  have bd := cav_bd hw
  have hb0 : Below w.heap.size w (w.alloc (Obj.cells #[.int .i64 c.Kind, .int .u64 c.A, .int .u64 c.B] 24)) := bel_alloc (Below.refl _ _) _
  have V0 := Var3.new w 24 (.int .i64 c.Kind) (.int .u64 c.A) (.int .u64 c.B)
  have HCK := hid (fun W => cCheck_any #[.int .i64 c.Kind, .int .u64 c.A, .int .u64 c.B] (fun _ => True) c W (rep_Caveat.2 ⟨rfl, hw⟩))
  go_enter Try.func9, Try.ntmps9
  go_wp2_with fail
  refine (HCK.out _).mono ?_
  rintro e w1 ⟨rfl, hb1⟩
  have HB1 := bel_call hb0 hb1
  have V1 := V0.call hb1
  have k0 := V1.c0
  have k1 := V1.c1
  have k2 := V1.c2
  have hz1 := HB1.size
  clear hb1 hb0 V0 HCK
  rcases cavE_is (c := c) with ⟨hE, hok⟩ | ⟨hE, hok⟩
  · rw [hE]
    have HP := hid (show putC c = octs (numsC c) from if_pos hok)
    have HE := hid hE
    clear hE
    have hk := hok.1
    have hk2 := hok.2.1
    have HWK := hid (wf_u64 (by omega) : (Lit.int .u64 c.Kind).wf = true)
    by_cases h4 : c.Kind = 4
    · have HN := hid (show numsC c = [4, c.A, c.B] from if_pos h4)
      have L1 := Var3.new w1 50 (.int .u64 c.Kind) (.int .u64 c.A) (.int .u64 c.B)
      have HPU := hid (put_any _ _ _ _ _ (rd_row 3 (by decide) (by decide) L1 HWK.out hw.a hw.b) (by decide))
      have HWR := hid (written_any c.Kind (w1.alloc (Obj.cells #[.int .u64 c.Kind, .int .u64 c.A, .int .u64 c.B] 50)))
      rw [if_pos h4] at HWR
      clear hw hok hk hk2 L1
      obtain ⟨k, a, b⟩ := c
      simp only at *
      subst h4
      go_wp2_with fail
      refine HWR.out.mono ?_
      rintro e w2 ⟨rfl, rfl⟩
      go_wp2_with fail
      refine HPU.out.mono ?_
      rintro e w2 ⟨v2, rfl, ho2, hb2⟩
      go_wp2
      go_ret2
      exact ⟨_, by rw [HE.out]; rfl, by rw [HP.out, HN.out]; exact ho2.weaken (by simp; omega), bel_call (bel_alloc HB1 _) hb2⟩
    · have HN := hid (show numsC c = [c.Kind, c.A] from if_neg h4)
      have L1 := Var3.new w1 50 (.int .u64 c.Kind) (.int .u64 c.A) (.int .u64 c.B)
      have HPU := hid (put_any _ _ _ _ _ (rd_row 2 (by decide) (by decide) L1 HWK.out hw.a hw.b) (by decide))
      have HWR := hid (written_any c.Kind (w1.alloc (Obj.cells #[.int .u64 c.Kind, .int .u64 c.A, .int .u64 c.B] 50)))
      rw [if_neg h4] at HWR
      clear hw hok L1
      obtain ⟨k, a, b⟩ := c
      simp only at *
      go_wp2_with fail
      refine HWR.out.mono ?_
      rintro e w2 ⟨rfl, rfl⟩
      go_wp2_with fail
      refine HPU.out.mono ?_
      rintro e w2 ⟨v2, rfl, ho2, hb2⟩
      go_wp2
      go_ret2
      exact ⟨_, by rw [HE.out]; rfl, by rw [HP.out, HN.out]; exact ho2.weaken (by simp; omega), bel_call (bel_alloc HB1 _) hb2⟩
  · rw [hE]
    have HP := hid (show putC c = [] from if_neg hok)
    have HE := hid hE
    clear hE hok hw
    obtain ⟨k, a, b⟩ := c
    simp only at *
    go_wp2
    go_ret2
    exact ⟨_, by rw [HE.out]; rfl, by rw [HP.out]; exact Own.nil _ _ _ _, HB1⟩
end Go.Proofs.Ytikfdfdancgnpaa
