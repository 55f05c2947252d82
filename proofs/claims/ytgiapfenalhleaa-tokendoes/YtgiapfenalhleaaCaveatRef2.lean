/-
  The contracts of the document's answers of layer 6: a caveat's octets, whether it holds, whether one is tighter.
-/
import Derived.Test.YtgiapfenalhleaaCaveatRef1
import Derived.Test.YtgiapfenalhleaaVars
namespace Go.Proofs.Ytgiapfenalhleaa
open Go.RowKit Go.WalkArith

theorem rd_nums2 {w : World} {t : TypeId} {x y : Int} (hx : (Lit.int .u64 x).wf = true) (hy : (Lit.int .u64 y).wf = true) : Rd (w.alloc (.cells #[.int .u64 x, .int .u64 y] t)) (w.alloc (.cells #[.int .u64 x, .int .u64 y] t)).heap.size .u64 (some ⟨w.heap.size, 0, none⟩) 2 2 [x, y] :=
  Rd.lit2 (by rw [World.cell?_alloc_at _ _ _ _ rfl]; rfl) (by rw [World.cell?_alloc_at _ _ _ _ rfl]; rfl) hx hy
theorem rd_nums3 {w : World} {t : TypeId} {x y z : Int} (hx : (Lit.int .u64 x).wf = true) (hy : (Lit.int .u64 y).wf = true) (hz : (Lit.int .u64 z).wf = true) : Rd (w.alloc (.cells #[.int .u64 x, .int .u64 y, .int .u64 z] t)) (w.alloc (.cells #[.int .u64 x, .int .u64 y, .int .u64 z] t)).heap.size .u64 (some ⟨w.heap.size, 0, none⟩) 3 3 [x, y, z] :=
  ⟨rfl, Nat.le_refl _, by simp [maxLen], by simpa using ⟨hx, hy, hz⟩, by simp, fun _ => ⟨w.heap.size, 0, rfl, by simp, fun j hj => by
    match j, hj with
    | 0, _ => rw [World.cell?_alloc_at _ _ _ _ rfl]; rfl
    | 1, _ => rw [World.cell?_alloc_at _ _ _ _ rfl]; rfl
    | 2, _ => rw [World.cell?_alloc_at _ _ _ _ rfl]; rfl⟩⟩

set_option maxHeartbeats 1000000 in
theorem refPutC_any (s : Array Value) (S : Nat → Prop) (c : Cav) (w : World) (h : lay_Caveat.rep w S c s.toList) :
    Calls Try.prog 41 #[.agg s] w fun e w' => ∃ v', e = .returned (.tuple #[v', .int .i64 (cavE c)]) ∧ Own w' w.heap.size 5 .u8 v' (putC c) ∧ Below w.heap.size w w' := by
  obtain ⟨rfl, hw⟩ := agg_Caveat h
  clear h
  have bd := cav_bd hw
  have hb0 : Below w.heap.size w (w.alloc (Obj.cells #[.int .i64 c.Kind, .int .u64 c.A, .int .u64 c.B] 30)) := bel_alloc (Below.refl _ _) _
  have V0 := Var3.new w 30 (.int .i64 c.Kind) (.int .u64 c.A) (.int .u64 c.B)
  have HCK := hid (fun W => refCheckC_any #[.int .i64 c.Kind, .int .u64 c.A, .int .u64 c.B] (fun _ => True) c W (rep_Caveat.2 ⟨rfl, hw⟩))
  go_enter Try.func41, Try.ntmps41
  go_wp2_with fail
  refine (HCK.out _).mono ?_
  rintro e w1 ⟨rfl, hb1⟩
  have HB1 := bel_call hb0 hb1
  have V1 := V0.call hb1
  have k0 := V1.c0
  have k1 := V1.c1
  have k2 := V1.c2
  have hz1 := HB1.size
  clear hb1 hb0 V0 HCK
  rcases cavE_is (c := c) with ⟨hE, hok⟩ | ⟨hE, hok⟩
  · rw [hE]
    have HP := hid (show putC c = octs (numsC c) from if_pos hok)
    have HE := hid hE
    clear hE
    have hk := hok.1
    have hk2 := hok.2.1
    by_cases h4 : c.Kind = 4
    · have HN := hid (show numsC c = [4, c.A, c.B] from if_pos h4)
      have HPU := hid (refPut_any _ _ _ _ _ (rd_nums3 (w := w1) (t := 25) (by decide : (Lit.int .u64 4).wf = true) hw.a hw.b) (by decide))
      have d4 : (c.Kind == 4) = true := by simpa using h4
      clear hw hok hk hk2 h4
      obtain ⟨k, a, b⟩ := c
      simp only at *
      go_wp2_with fail
      refine HPU.out.mono ?_
      rintro e w2 ⟨v2, rfl, ho2, hb2⟩
      go_wp2
      go_ret2
      exact ⟨_, by rw [HE.out]; rfl, by rw [HP.out, HN.out]; exact ho2.weaken (by simp; omega), bel_call (bel_alloc HB1 _) hb2⟩
    · have HN := hid (show numsC c = [c.Kind, c.A] from if_neg h4)
      have HPU := hid (refPut_any _ _ _ _ _ (rd_nums2 (w := w1) (t := 25) (wf_u64 (by omega) : (Lit.int .u64 c.Kind).wf = true) hw.a) (by decide))
      have d4 : (c.Kind == 4) = false := by simpa using h4
      have wk : IntKind.u64.wrap c.Kind = c.Kind := IntWalk.u64_in _ (by omega)
      clear hw hok hk hk2 h4
      obtain ⟨k, a, b⟩ := c
      simp only at *
      go_wp2_with fail
      refine HPU.out.mono ?_
      rintro e w2 ⟨v2, rfl, ho2, hb2⟩
      go_wp2
      go_ret2
      exact ⟨_, by rw [HE.out]; rfl, by rw [HP.out, HN.out]; exact ho2.weaken (by simp; omega), bel_call (bel_alloc HB1 _) hb2⟩
  · rw [hE]
    have HP := hid (show putC c = [] from if_neg hok)
    have HE := hid hE
    clear hE hok hw
    obtain ⟨k, a, b⟩ := c
    simp only at *
    go_wp2
    go_ret2
    exact ⟨_, by rw [HE.out]; rfl, by rw [HP.out]; exact Own.nil _ _ _ _, HB1⟩

theorem hl_is {c : Cav} {u : Usx} : (hlE c u = 0 ∧ hlV c u = hldB c u ∧ CavOk c ∧ UseOk u) ∨ (hlE c u = 1 ∧ hlV c u = false ∧ ¬ (CavOk c ∧ UseOk u)) := by
  unfold hlE hlV
  by_cases h : CavOk c ∧ UseOk u
  · exact .inl ⟨if_pos h, by simp [h], h.1, h.2⟩
  · exact .inr ⟨if_neg h, by rw [decide_eq_false h]; rfl, h⟩

theorem tg_is {a b : Cav} : (tgE a b = 0 ∧ tgV a b = tgB a b ∧ TightOk a b) ∨ (tgE a b = 1 ∧ tgV a b = false ∧ ¬ TightOk a b) := by
  unfold tgE tgV
  by_cases h : TightOk a b
  · exact .inl ⟨if_pos h, by simp [h], h⟩
  · exact .inr ⟨if_neg h, by rw [decide_eq_false h]; rfl, h⟩
theorem sub_to {a b : Int} {j : Nat} (h : ∀ i, i < j → (!bitN a i || bitN b i) = true) (hj : (!bitN a j || bitN b j) = true) : ∀ i, i < j + 1 → (!bitN a i || bitN b i) = true := fun i hi => by
  rcases Nat.lt_or_ge i j with h1 | h1
  · exact h i h1
  · obtain rfl : i = j := by omega
    exact hj
theorem sub_all {a b : Int} (h : ∀ i, i < 16 → (!bitN a i || bitN b i) = true) : subB a b = true := by
  unfold subB
  rw [List.all_eq_true]
  intro i hi
  exact h i (by simpa using hi)
theorem sub_bad {a b : Int} {j : Nat} (hj : j < 16) (h : (!bitN a j || bitN b j) = false) : subB a b = false := by
  unfold subB
  rw [List.all_eq_false]
  exact ⟨j, by simpa using hj, by rw [h]; decide⟩

end Go.Proofs.Ytgiapfenalhleaa
