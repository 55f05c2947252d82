/-
  Variables of structs: blocks of one, three, and four cells.
  The contracts of the document's answers of layer 6: a caveat's octets, whether it holds, whether one is tighter.
-/
import Derived.OneCell
import Derived.Test.YtgiapfenalhleaaPack1
import Derived.Test.YtgiapfenalhleaaPack2
import Derived.Test.YtgiapfenalhleaaPack3
import Derived.Test.YtgiapfenalhleaaPack4
import Derived.Test.YtgiapfenalhleaaPack5
import Derived.Test.YtgiapfenalhleaaPack6
namespace Go.Proofs.Ytgiapfenalhleaa
open Go.RowKit Go.WalkArith

theorem range3 {w : World} {b o : Nat} {x y z : Value} (h0 : w.cell? ⟨b, o, none⟩ = some x) (h1 : w.cell? ⟨b, o + 1, none⟩ = some y) (h2 : w.cell? ⟨b, o + 2, none⟩ = some z) : w.rangeAt b o [x, y, z] := fun j v hj => by
  match j, hj with
  | 0, hj => simp at hj; subst hj; exact h0
  | 1, hj => simp at hj; subst hj; exact h1
  | 2, hj => simp at hj; subst hj; exact h2

/-- A struct's variable of one cell. -/
def Var1 (w : World) (g : Nat) (t : TypeId) (x : Value) : Prop := w.heap[g]? = some (.cells #[x] t (0, 0))
theorem Var1.c0 {w : World} {g : Nat} {t : TypeId} {x : Value} (h : Var1 w g t x) : w.cell? ⟨g, 0, none⟩ = some x := cell_of_one h
theorem Var1.lt {w : World} {g : Nat} {t : TypeId} {x : Value} (h : Var1 w g t x) : g < w.heap.size := (Array.getElem?_eq_some_iff.1 h).1
theorem Var1.call {w w' : World} {g : Nat} {t : TypeId} {x : Value} (h : Var1 w g t x) (hb : Below w.heap.size w w') : Var1 w' g t x := (hb.block g h.lt).trans h
theorem Var1.set {w : World} {g : Nat} {t : TypeId} {x : Value} (h : Var1 w g t x) (u : Value) : Var1 (w.setCell ⟨g, 0, none⟩ u) g t u := one_setCell h
theorem Var1.setOther {w : World} {g b : Nat} {t : TypeId} {x : Value} (h : Var1 w g t x) (hne : g ≠ b) (i : Nat) (u : Value) : Var1 (w.setCell ⟨b, i, none⟩ u) g t x := (Below.heap_setCell _ _ _ _ hne).trans h
theorem Var1.f {w : World} {g : Nat} {t : TypeId} {x : Value} (h : Var1 w g t x) : w.frozen? ⟨g, 0, none⟩ = false := free_of_one h
theorem Var1.new (w : World) (t : TypeId) (x : Value) : Var1 (w.alloc (.cells #[x] t)) w.heap.size t x := heap_alloc_new w _

/-- A struct's variable of three cells. -/
def Var3 (w : World) (g : Nat) (t : TypeId) (x y z : Value) : Prop := w.heap[g]? = some (.cells #[x, y, z] t (0, 0))
section
variable {w w' : World} {g : Nat} {t : TypeId} {x y z : Value}
theorem Var3.c0 (h : Var3 w g t x y z) : w.cell? ⟨g, 0, none⟩ = some x := by unfold Var3 at h; simp [World.cell?, h]
theorem Var3.c1 (h : Var3 w g t x y z) : w.cell? ⟨g, 1, none⟩ = some y := by unfold Var3 at h; simp [World.cell?, h]
theorem Var3.c2 (h : Var3 w g t x y z) : w.cell? ⟨g, 2, none⟩ = some z := by unfold Var3 at h; simp [World.cell?, h]
theorem Var3.f (h : Var3 w g t x y z) (i : Nat) : w.frozen? ⟨g, i, none⟩ = false := by unfold Var3 at h; simp [World.frozen?, h]
theorem Var3.lt (h : Var3 w g t x y z) : g < w.heap.size := (Array.getElem?_eq_some_iff.1 h).1
theorem Var3.keep {B : Nat} (h : Var3 w g t x y z) (hb : Below B w w') (hg : g < B) : Var3 w' g t x y z := (hb.block g hg).trans h
theorem Var3.call (h : Var3 w g t x y z) (hb : Below w.heap.size w w') : Var3 w' g t x y z := h.keep hb h.lt
theorem Var3.set (h : Var3 w g t x y z) (u v r : Value) : Var3 (((w.setCell ⟨g, 0, none⟩ u).setCell ⟨g, 1, none⟩ v).setCell ⟨g, 2, none⟩ r) g t u v r := by
  unfold Var3 at *
  have h1 : (w.setCell ⟨g, 0, none⟩ u).heap[g]? = some (.cells #[u, y, z] t (0, 0)) := heap_setCell_same w g 0 _ t u h
  have h2 : ((w.setCell ⟨g, 0, none⟩ u).setCell ⟨g, 1, none⟩ v).heap[g]? = some (.cells #[u, v, z] t (0, 0)) := heap_setCell_same _ g 1 _ t v h1
  exact heap_setCell_same _ g 2 _ t r h2
end

/-- .. of four. -/
def Var4 (w : World) (g : Nat) (t : TypeId) (x y z u : Value) : Prop := w.heap[g]? = some (.cells #[x, y, z, u] t (0, 0))
section
variable {w w' : World} {g : Nat} {t : TypeId} {x y z u : Value}
theorem Var4.c0 (h : Var4 w g t x y z u) : w.cell? ⟨g, 0, none⟩ = some x := by unfold Var4 at h; simp [World.cell?, h]
theorem Var4.c1 (h : Var4 w g t x y z u) : w.cell? ⟨g, 1, none⟩ = some y := by unfold Var4 at h; simp [World.cell?, h]
theorem Var4.c2 (h : Var4 w g t x y z u) : w.cell? ⟨g, 2, none⟩ = some z := by unfold Var4 at h; simp [World.cell?, h]
theorem Var4.c3 (h : Var4 w g t x y z u) : w.cell? ⟨g, 3, none⟩ = some u := by unfold Var4 at h; simp [World.cell?, h]
theorem Var4.lt (h : Var4 w g t x y z u) : g < w.heap.size := (Array.getElem?_eq_some_iff.1 h).1
theorem Var4.call (h : Var4 w g t x y z u) (hb : Below w.heap.size w w') : Var4 w' g t x y z u := (hb.block g h.lt).trans h
end
/-- What has turned is one block, and what is new. -/
theorem grown_below {B b : Nat} {w w' : World} (h : w.grownBy w' (some b)) (hb : B ≤ b) (hB : B ≤ w.heap.size) : Below B w w' := ⟨h.os, h.tape, h.output, h.size, fun i hi => h.block i (by omega) (fun e => by injection e with e; omega)⟩
theorem Var3.set1 {w : World} {g : Nat} {t : TypeId} {x y z : Value} (h : Var3 w g t x y z) (v : Value) : Var3 (w.setCell ⟨g, 1, none⟩ v) g t x v z := heap_setCell_same w g 1 _ t v h
theorem Var3.set2 {w : World} {g : Nat} {t : TypeId} {x y z : Value} (h : Var3 w g t x y z) (v : Value) : Var3 (w.setCell ⟨g, 2, none⟩ v) g t x y v := heap_setCell_same w g 2 _ t v h
theorem Var3.setOther {w : World} {g b : Nat} {t : TypeId} {x y z : Value} (h : Var3 w g t x y z) (hne : g ≠ b) (i : Nat) (u : Value) : Var3 (w.setCell ⟨b, i, none⟩ u) g t x y z := (Below.heap_setCell _ _ _ _ hne).trans h
theorem Var3.new (w : World) (t : TypeId) (x y z : Value) : Var3 (w.alloc (.cells #[x, y, z] t)) w.heap.size t x y z := heap_alloc_new w _
theorem Var4.new (w : World) (t : TypeId) (x y z u : Value) : Var4 (w.alloc (.cells #[x, y, z, u] t)) w.heap.size t x y z u := heap_alloc_new w _
/-- Three variables of a law, boxed at its beginning. -/
theorem three_vars {w : World} {a b c : Obj} : (((w.alloc a).alloc b).alloc c).heap[w.heap.size]? = some a ∧ (((w.alloc a).alloc b).alloc c).heap[w.heap.size + 1]? = some b ∧ (((w.alloc a).alloc b).alloc c).heap[w.heap.size + 1 + 1]? = some c := by
  refine ⟨?_, ?_, ?_⟩
  · rw [heap_alloc_old _ _ (by simp <;> omega)]; exact heap_alloc2_old _ _ _
  · rw [heap_alloc_old _ _ (by simp)]; exact heap_alloc2_new _ _ _
  · have := heap_alloc2_new (w.alloc a) b c
    simpa using this
/-- Five. -/
theorem five_vars {w : World} {a b c d e : Obj} : (((((w.alloc a).alloc b).alloc c).alloc d).alloc e).heap[w.heap.size]? = some a ∧ (((((w.alloc a).alloc b).alloc c).alloc d).alloc e).heap[w.heap.size + 1]? = some b ∧ (((((w.alloc a).alloc b).alloc c).alloc d).alloc e).heap[w.heap.size + 1 + 1]? = some c ∧
    (((((w.alloc a).alloc b).alloc c).alloc d).alloc e).heap[w.heap.size + 1 + 1 + 1]? = some d ∧ (((((w.alloc a).alloc b).alloc c).alloc d).alloc e).heap[w.heap.size + 1 + 1 + 1 + 1]? = some e := by
  obtain ⟨h1, h2, h3⟩ := three_vars (w := w) (a := a) (b := b) (c := c)
  obtain ⟨-, -, h5⟩ := three_vars (w := (w.alloc a).alloc b) (a := c) (b := d) (c := e)
  have h4 := heap_alloc2_new ((w.alloc a).alloc b) c d
  refine ⟨?_, ?_, ?_, ?_, ?_⟩
  · rw [heap_alloc_old _ _ (by simp <;> omega), heap_alloc_old _ _ (by simp <;> omega)]; exact h1
  · rw [heap_alloc_old _ _ (by simp <;> omega), heap_alloc_old _ _ (by simp <;> omega)]; exact h2
  · rw [heap_alloc_old _ _ (by simp <;> omega), heap_alloc_old _ _ (by simp <;> omega)]; exact h3
  · rw [heap_alloc_old _ _ (by simp <;> omega)]
    simpa using h4
  · simpa using h5
end Go.Proofs.Ytgiapfenalhleaa
namespace Go.Proofs.Ytgiapfenalhleaa
open Go.RowKit Go.WalkArith

theorem rd_nums2 {w : World} {t : TypeId} {x y : Int} (hx : (Lit.int .u64 x).wf = true) (hy : (Lit.int .u64 y).wf = true) : Rd (w.alloc (.cells #[.int .u64 x, .int .u64 y] t)) (w.alloc (.cells #[.int .u64 x, .int .u64 y] t)).heap.size .u64 (some ⟨w.heap.size, 0, none⟩) 2 2 [x, y] :=
  Rd.lit2 (by rw [World.cell?_alloc_at _ _ _ _ rfl]; rfl) (by rw [World.cell?_alloc_at _ _ _ _ rfl]; rfl) hx hy
theorem rd_nums3 {w : World} {t : TypeId} {x y z : Int} (hx : (Lit.int .u64 x).wf = true) (hy : (Lit.int .u64 y).wf = true) (hz : (Lit.int .u64 z).wf = true) : Rd (w.alloc (.cells #[.int .u64 x, .int .u64 y, .int .u64 z] t)) (w.alloc (.cells #[.int .u64 x, .int .u64 y, .int .u64 z] t)).heap.size .u64 (some ⟨w.heap.size, 0, none⟩) 3 3 [x, y, z] :=
  ⟨rfl, Nat.le_refl _, by simp [maxLen], by simpa using ⟨hx, hy, hz⟩, by simp, fun _ => ⟨w.heap.size, 0, rfl, by simp, fun j hj => by
    match j, hj with
    | 0, _ => rw [World.cell?_alloc_at _ _ _ _ rfl]; rfl
    | 1, _ => rw [World.cell?_alloc_at _ _ _ _ rfl]; rfl
    | 2, _ => rw [World.cell?_alloc_at _ _ _ _ rfl]; rfl⟩⟩

set_option maxHeartbeats 1000000 in
theorem refPutC_any (s : Array Value) (S : Nat → Prop) (c : Cav) (w : World) (h : lay_Caveat.rep w S c s.toList) :
    Calls Try.prog 41 #[.agg s] w fun e w' => ∃ v', e = .returned (.tuple #[v', .int .i64 (cavE c)]) ∧ Own w' w.heap.size 5 .u8 v' (putC c) ∧ Below w.heap.size w w' := by
  obtain ⟨rfl, hw⟩ := agg_Caveat h
  clear h
  have bd := cav_bd hw
  have hb0 : Below w.heap.size w (w.alloc (Obj.cells #[.int .i64 c.Kind, .int .u64 c.A, .int .u64 c.B] 30)) := bel_alloc (Below.refl _ _) _
  have V0 := Var3.new w 30 (.int .i64 c.Kind) (.int .u64 c.A) (.int .u64 c.B)
  have HCK := hid (fun W => refCheckC_any #[.int .i64 c.Kind, .int .u64 c.A, .int .u64 c.B] (fun _ => True) c W (rep_Caveat.2 ⟨rfl, hw⟩))
  go_enter Try.func41, Try.ntmps41
  go_wp2_with fail
  refine (HCK.out _).mono ?_
  rintro e w1 ⟨rfl, hb1⟩
  have HB1 := bel_call hb0 hb1
  have V1 := V0.call hb1
  have k0 := V1.c0
  have k1 := V1.c1
  have k2 := V1.c2
  have hz1 := HB1.size
  clear hb1 hb0 V0 HCK
  rcases cavE_is (c := c) with ⟨hE, hok⟩ | ⟨hE, hok⟩
  · rw [hE]
    have HP := hid (show putC c = octs (numsC c) from if_pos hok)
    have HE := hid hE
    clear hE
    have hk := hok.1
    have hk2 := hok.2.1
    by_cases h4 : c.Kind = 4
    · have HN := hid (show numsC c = [4, c.A, c.B] from if_pos h4)
      have HPU := hid (refPut_any _ _ _ _ _ (rd_nums3 (w := w1) (t := 25) (by decide : (Lit.int .u64 4).wf = true) hw.a hw.b) (by decide))
      have d4 : (c.Kind == 4) = true := by simpa using h4
      clear hw hok hk hk2 h4
      obtain ⟨k, a, b⟩ := c
      simp only at *
      go_wp2_with fail
      refine HPU.out.mono ?_
      rintro e w2 ⟨v2, rfl, ho2, hb2⟩
      go_wp2
      go_ret2
      exact ⟨_, by rw [HE.out]; rfl, by rw [HP.out, HN.out]; exact ho2.weaken (by simp; omega), bel_call (bel_alloc HB1 _) hb2⟩
    · have HN := hid (show numsC c = [c.Kind, c.A] from if_neg h4)
      have HPU := hid (refPut_any _ _ _ _ _ (rd_nums2 (w := w1) (t := 25) (wf_u64 (by omega) : (Lit.int .u64 c.Kind).wf = true) hw.a) (by decide))
      have d4 : (c.Kind == 4) = false := by simpa using h4
      have wk : IntKind.u64.wrap c.Kind = c.Kind := IntWalk.u64_in _ (by omega)
      clear hw hok hk hk2 h4
      obtain ⟨k, a, b⟩ := c
      simp only at *
      go_wp2_with fail
      refine HPU.out.mono ?_
      rintro e w2 ⟨v2, rfl, ho2, hb2⟩
      go_wp2
      go_ret2
      exact ⟨_, by rw [HE.out]; rfl, by rw [HP.out, HN.out]; exact ho2.weaken (by simp; omega), bel_call (bel_alloc HB1 _) hb2⟩
  · rw [hE]
    have HP := hid (show putC c = [] from if_neg hok)
    have HE := hid hE
    clear hE hok hw
    obtain ⟨k, a, b⟩ := c
    simp only at *
    go_wp2
    go_ret2
    exact ⟨_, by rw [HE.out]; rfl, by rw [HP.out]; exact Own.nil _ _ _ _, HB1⟩

theorem hl_is {c : Cav} {u : Usx} : (hlE c u = 0 ∧ hlV c u = hldB c u ∧ CavOk c ∧ UseOk u) ∨ (hlE c u = 1 ∧ hlV c u = false ∧ ¬ (CavOk c ∧ UseOk u)) := by
  unfold hlE hlV
  by_cases h : CavOk c ∧ UseOk u
  · exact .inl ⟨if_pos h, by simp [h], h.1, h.2⟩
  · exact .inr ⟨if_neg h, by rw [decide_eq_false h]; rfl, h⟩

theorem tg_is {a b : Cav} : (tgE a b = 0 ∧ tgV a b = tgB a b ∧ TightOk a b) ∨ (tgE a b = 1 ∧ tgV a b = false ∧ ¬ TightOk a b) := by
  unfold tgE tgV
  by_cases h : TightOk a b
  · exact .inl ⟨if_pos h, by simp [h], h⟩
  · exact .inr ⟨if_neg h, by rw [decide_eq_false h]; rfl, h⟩
theorem sub_to {a b : Int} {j : Nat} (h : ∀ i, i < j → (!bitN a i || bitN b i) = true) (hj : (!bitN a j || bitN b j) = true) : ∀ i, i < j + 1 → (!bitN a i || bitN b i) = true := fun i hi => by
  rcases Nat.lt_or_ge i j with h1 | h1
  · exact h i h1
  · obtain rfl : i = j := by omega
    exact hj
theorem sub_all {a b : Int} (h : ∀ i, i < 16 → (!bitN a i || bitN b i) = true) : subB a b = true := by
  unfold subB
  rw [List.all_eq_true]
  intro i hi
  exact h i (by simpa using hi)
theorem sub_bad {a b : Int} {j : Nat} (hj : j < 16) (h : (!bitN a j || bitN b j) = false) : subB a b = false := by
  unfold subB
  rw [List.all_eq_false]
  exact ⟨j, by simpa using hj, by rw [h]; decide⟩

end Go.Proofs.Ytgiapfenalhleaa
