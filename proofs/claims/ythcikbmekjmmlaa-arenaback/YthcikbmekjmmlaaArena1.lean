/-
  The contracts of package arena's small functions: whether a text is too long, whether a term may stand at a place, what tells it from all others, whether two arenas are the same.
-/
import Derived.Test.YthcikbmekjmmlaaArenaRef3
import Derived.Test.YthcikbmekjmmlaaArenaMap
import Derived.Deep.Cut
namespace Go.Proofs.Ythcikbmekjmmlaa
open Go.RowKit Go.WalkArith

set_option maxHeartbeats 1000000 in
theorem anyLong1_any (A : Option Addr) (n c : Nat) (w : World) (hc : n ≤ maxLen) :
    Calls Try.prog 43 #[.slice A n c] w fun e w' => e = .returned (.bool (decide (4096 < n))) ∧ w = w' := by
  unfold maxLen at hc
  have HD := hid (show decide ((4096 : Int) < (n : Int)) = decide (4096 < n) from by simp; omega)
  go_enter Try.func43, Try.ntmps43
  go_wp2
  go_ret
  exact ⟨ret_bool HD.out, rfl⟩

/-- Whether one of the texts is too long. -/
def longT (l : List (List Int)) : Bool := !decide (shortT l)
theorem longT_yes {l : List (List Int)} (h : ¬ shortT l) : longT l = true := by simp [longT, h]
theorem longT_no {l : List (List Int)} (h : shortT l) : longT l = false := by simp [longT, h]
def fitB (i : Nat) (x : Trm) : Bool := decide (Fit i x)
theorem fitB_iff {i : Nat} {x : Trm} : fitB i x = true ↔ Fit i x := by simp [fitB]
theorem short_step {l : List (List Int)} {j : Nat} (hj : j < l.length) (h : shortT (l.take j)) (e : l[j].length ≤ 4096) : shortT (l.take (j + 1)) := by
  rw [List.take_succ_eq_append_getElem hj]
  intro t ht
  rcases List.mem_append.1 ht with ht | ht
  · exact h t ht
  · simp at ht; subst ht; exact e

set_option maxHeartbeats 1000000 in
theorem indexLong_any (A : Option Addr) (n c : Nat) (S : Nat → Prop) (l : List (List Int)) (w : World) (h : Sl lay_Txt w S A n c l) :
    Calls Try.prog 44 #[.slice A n c, .func (.func 43) #[] #[]] w fun e w' => (∃ r : Int, e = .returned (.int .i64 r) ∧ decide (0 ≤ r) = longT l) ∧ w = w' := by
  have HL := hid h.len
  have hcap := h.cap
  unfold maxLen at hcap
  go_enter Try.func44, Try.ntmps44
  go_wp2
  go_loop [8] (fun i => ∃ j : Nat, j ≤ n ∧ i = .int .i64 j ∧ shortT (l.take j)) (fun i => n - (intOf i).toNat)
  case atStart => exact ⟨0, Nat.zero_le _, rfl, by intro t ht; simp at ht⟩
  case round =>
    obtain ⟨j, hj, rfl, hpre⟩ := hrel
    have HP := hid hpre
    clear hpre
    by_cases hlt : j < n
    · obtain ⟨b1, o1, A', n', c', hx1, rfl, hb1, t1, hV1⟩ := txt_atA h hlt
      have HX := hid hV1.len
      have hc2 := Nat.le_trans hV1.cap.1 hV1.cap.2
      clear hV1
      have HA := hid (anyLong1_any A' n' c' w hc2)
      by_cases g1 : 4096 < n'
      · have HN := hid (show decide (0 ≤ (j : Int)) = longT l from by
          rw [decide_eq_true (show (0 : Int) ≤ (j : Int) by omega), longT_yes fun k => by have := k _ (List.getElem_mem hx1); rw [HX.out] at this; omega])
        rw [decide_eq_true g1] at HA
        go_wp2_with (go_at_call 43; go_must (refine HA.out.mono ?_; rintro e w1 ⟨rfl, rfl⟩))
        go_ret
        exact ⟨⟨_, rfl, HN.out⟩, rfl⟩
      · have HN := hid (short_step hx1 HP.out (by rw [HX.out]; omega))
        rw [decide_eq_false g1] at HA
        go_wp2_with (go_at_call 43; go_must (refine HA.out.mono ?_; rintro e w1 ⟨rfl, rfl⟩))
        go_round
        case rel => exact ⟨j + 1, by omega, by go_num, HN.out⟩
        case measure => simp [intOf]; omega
    · have HN := hid (show decide (0 ≤ (-1 : Int)) = longT l from by
        have := HP.out
        rw [List.take_of_length_le (by rw [HL.out]; omega)] at this
        rw [decide_eq_false (by omega), longT_no this])
      go_wp2
      go_ret
      exact ⟨⟨_, rfl, HN.out⟩, rfl⟩

set_option maxHeartbeats 1000000 in
theorem containsLong_any (A : Option Addr) (n c : Nat) (S : Nat → Prop) (l : List (List Int)) (w : World) (h : Sl lay_Txt w S A n c l) :
    Calls Try.prog 42 #[.slice A n c, .func (.func 43) #[] #[]] w fun e w' => e = .returned (.bool (longT l)) ∧ w = w' := by
  go_enter Try.func42, Try.ntmps42
  go_wp2_with (go_at_call 44; go_must (refine (indexLong_any _ _ _ _ _ _ h).mono ?_; rintro e w1 ⟨⟨r, rfl, hr⟩, rfl⟩))
  have HR := hid hr
  clear hr
  go_wp2
  go_ret
  exact ⟨rfl, rfl⟩

set_option maxHeartbeats 1000000 in
theorem anyLong_any (A : Option Addr) (n c : Nat) (S : Nat → Prop) (l : List (List Int)) (w : World) (h : Sl lay_Txt w S A n c l) :
    Calls Try.prog 35 #[.slice A n c] w fun e w' => e = .returned (.bool (longT l)) ∧ w = w' := by
  go_enter Try.func35, Try.ntmps35
  go_wp2_with (go_at_call 42; go_must (refine (containsLong_any _ _ _ _ _ _ h).mono ?_; rintro e w1 ⟨rfl, rfl⟩))
  go_ret
  exact ⟨rfl, rfl⟩
/-- One text, laid in a block of its own just now. -/
theorem anyLong_one (A : Option Addr) (n c : Nat) (t : List Int) (w : World) (h : Sl (Lay.int .u8) w (· < w.heap.size) A n c t) :
    Calls Try.prog 35 #[.slice (some ⟨w.heap.size, 0, none⟩) 1 1] (w.alloc (.cells #[.slice A n c] 26)) fun e w' => e = .returned (.bool (decide (4096 < n))) ∧ Below w.heap.size w w' := by
  have hb : Below w.heap.size w (w.alloc (Obj.cells #[.slice A n c] 26)) := bel_alloc (Below.refl _ _) _
  have hs : Sl lay_Txt (w.alloc (Obj.cells #[.slice A n c] 26)) (· < (w.alloc (Obj.cells #[.slice A n c] 26)).heap.size) (some ⟨w.heap.size, 0, none⟩) 1 1 [t] :=
    Sl.lit1 (cs := [.slice A n c]) (by simp) ⟨A, n, c, rfl, Sl.call h hb⟩ fun i v hv => by
      match i, hv with
      | 0, hv => simp at hv; subst hv; rw [World.cell?_alloc_at _ _ _ _ rfl]; rfl
  refine (anyLong_any _ _ _ _ _ _ hs).mono ?_
  rintro e w1 ⟨rfl, rfl⟩
  refine ⟨ret_bool ?_, hb⟩
  have hl := h.len
  by_cases g : 4096 < n
  · rw [decide_eq_true g, longT_yes fun k => by have := k t (by simp); omega]
  · rw [decide_eq_false g, longT_no fun x hx => by simp at hx; subst hx; omega]

set_option maxRecDepth 100000 in
set_option maxHeartbeats 2000000 in
theorem mayStand_any (s : Array Value) (x : Trm) (i : Nat) (w : World) (h : lay_Term.rep w (· < w.heap.size) x s.toList) (hi : i ≤ 1048576) :
    Calls Try.prog 41 #[.agg s, .int .i64 i] w fun e w' => e = .returned (.bool (fitB i x)) ∧ Below w.heap.size w w' := by
  obtain ⟨A, n, c, rfl, h1, h2, hV⟩ := agg_Term h
  clear h
  have bK := bounds_u64 h1
  have bU := bounds_i64 h2
  have HX := hid hV.len
  have hcap := hV.cap
  unfold maxLen at hcap
  have hb0 : Below w.heap.size w (w.alloc (Obj.cells #[.int .u64 x.Key, .int .i64 x.Up, .slice A n c] 39)) := bel_alloc (Below.refl _ _) _
  have hx0 := heap_alloc_new w (Obj.cells #[.int .u64 x.Key, .int .i64 x.Up, .slice A n c] 39)
  have HA := hid (anyLong_one A n c x.Text (w.alloc (Obj.cells #[.int .u64 x.Key, .int .i64 x.Up, .slice A n c] 39)) (Sl.call hV hb0))
  have hsz : (w.alloc (Obj.cells #[.int .u64 x.Key, .int .i64 x.Up, .slice A n c] 39)).heap.size = w.heap.size + 1 := by simp
  rw [hsz] at HA
  clear h1 h2 hV
  by_cases g1 : 4096 < n
  · have HD := hid (show fitB i x = false from Bool.eq_false_iff.2 fun k => by have := (fitB_iff.1 k).2.2.2; rw [HX.out] at this; omega)
    rw [decide_eq_true g1] at HA
    go_enter Try.func41, Try.ntmps41
    go_wp2_with (go_at_call 35; go_must (refine HA.out.mono ?_; rintro e w1 ⟨rfl, hb1⟩))
    go_ret
    exact ⟨ret_bool HD.out.symm, hb0.trans (hb1.mono (by omega))⟩
  rw [decide_eq_false g1] at HA
  have HF := hid (show fitB i x = true ↔ (x.Up = -1 ∨ 0 ≤ x.Up ∧ x.Up < i ∧ x.Key = 0) from by
    have hl := HX.out
    rw [fitB_iff]
    constructor
    · intro k
      obtain ⟨k1, k2, k3, k4⟩ := k
      by_cases hu : x.Up = -1
      · exact .inl hu
      · exact .inr ⟨by omega, k2, k3 (by omega)⟩
    · rintro (k | ⟨k1, k2, k3⟩)
      · exact ⟨by omega, by omega, fun k5 => by omega, by omega⟩
      · exact ⟨by omega, k2, fun _ => k3, by omega⟩)
  clear bK
  generalize fitB i x = F at *
  generalize x.Up = up at *
  generalize x.Key = key at *
  have HGO : ∀ r : Bool, r = (up == -1 || (decide (0 ≤ up) && decide (up < (i : Int)) && (key == 0))) → Hid (F = r) := fun r hr => hid (by
    have := HF.out
    by_cases hF : F = true
    · rw [hF, hr]
      rcases this.1 hF with k | ⟨k1, k2, k3⟩
      · simp [k]
      · simp [k1, k2, k3]
    · rw [Bool.eq_false_iff.2 hF, hr]
      have k := fun q => hF (this.2 q)
      by_cases q1 : up = -1
      · exact absurd (.inl q1) k
      by_cases q2 : 0 ≤ up ∧ up < (i : Int) ∧ key = 0
      · exact absurd (.inr q2) k
      simp [q1]
      intro a b c
      exact q2 ⟨a, b, c⟩)
  by_cases q1 : up = -1
  · subst q1
    have HR := HGO true (by simp)
    clear HGO
    go_enter Try.func41, Try.ntmps41
    go_wp2_with fail
    refine HA.out.mono ?_
    rintro e w1 ⟨rfl, hb1⟩
    have y0 := (hb1.block w.heap.size (by simp)).trans hx0
    have z1 : w1.cell? ⟨w.heap.size, 1, none⟩ = some (.int .i64 (-1)) := by simp [World.cell?, y0]
    have HB := bel_call hb0 (by rw [hsz]; exact hb1)
    go_wp2
    go_ret
    exact ⟨ret_bool HR.out.symm, HB⟩
  have p1 : (up == -1) = false := by simpa using q1
  by_cases q2 : 0 ≤ up
  · have p2 : decide (0 ≤ up) = true := by simpa using q2
    by_cases q3 : up < (i : Int)
    · have p3 : decide (up < (i : Int)) = true := by simpa using q3
      have HR := HGO (key == 0) (by rw [p1, p2, p3]; simp)
      clear HGO
      go_enter Try.func41, Try.ntmps41
      go_wp2_with fail
      refine HA.out.mono ?_
      rintro e w1 ⟨rfl, hb1⟩
      have y0 := (hb1.block w.heap.size (by simp)).trans hx0
      have z0 : w1.cell? ⟨w.heap.size, 0, none⟩ = some (.int .u64 key) := by simp [World.cell?, y0]
      have z1 : w1.cell? ⟨w.heap.size, 1, none⟩ = some (.int .i64 up) := by simp [World.cell?, y0]
      have HB := bel_call hb0 (by rw [hsz]; exact hb1)
      go_wp2
      go_ret
      exact ⟨ret_bool HR.out.symm, HB⟩
    · have p3 : decide (up < (i : Int)) = false := by simpa using q3
      have HR := HGO false (by rw [p1, p2, p3]; simp)
      clear HGO
      go_enter Try.func41, Try.ntmps41
      go_wp2_with fail
      refine HA.out.mono ?_
      rintro e w1 ⟨rfl, hb1⟩
      have y0 := (hb1.block w.heap.size (by simp)).trans hx0
      have z0 : w1.cell? ⟨w.heap.size, 0, none⟩ = some (.int .u64 key) := by simp [World.cell?, y0]
      have z1 : w1.cell? ⟨w.heap.size, 1, none⟩ = some (.int .i64 up) := by simp [World.cell?, y0]
      have HB := bel_call hb0 (by rw [hsz]; exact hb1)
      go_wp2
      go_ret
      exact ⟨ret_bool HR.out.symm, HB⟩
  · have p2 : decide (0 ≤ up) = false := by simpa using q2
    have HR := HGO false (by rw [p1, p2]; simp)
    clear HGO
    go_enter Try.func41, Try.ntmps41
    go_wp2_with fail
    refine HA.out.mono ?_
    rintro e w1 ⟨rfl, hb1⟩
    have y0 := (hb1.block w.heap.size (by simp)).trans hx0
    have z0 : w1.cell? ⟨w.heap.size, 0, none⟩ = some (.int .u64 key) := by simp [World.cell?, y0]
    have z1 : w1.cell? ⟨w.heap.size, 1, none⟩ = some (.int .i64 up) := by simp [World.cell?, y0]
    have HB := bel_call hb0 (by rw [hsz]; exact hb1)
    go_wp2
    go_ret
    exact ⟨ret_bool HR.out.symm, HB⟩

theorem range3 {w : World} {b o : Nat} {x y z : Value} (h0 : w.cell? ⟨b, o, none⟩ = some x) (h1 : w.cell? ⟨b, o + 1, none⟩ = some y) (h2 : w.cell? ⟨b, o + 2, none⟩ = some z) : w.rangeAt b o [x, y, z] := fun j v hj => by
  match j, hj with
  | 0, hj => simp at hj; subst hj; exact h0
  | 1, hj => simp at hj; subst hj; exact h1
  | 2, hj => simp at hj; subst hj; exact h2

/-- A struct's variable of three cells. -/
def Var3 (w : World) (g : Nat) (t : TypeId) (x y z : Value) : Prop := w.heap[g]? = some (.cells #[x, y, z] t (0, 0))
section
variable {w w' : World} {g : Nat} {t : TypeId} {x y z : Value}
theorem Var3.c0 (h : Var3 w g t x y z) : w.cell? ⟨g, 0, none⟩ = some x := by unfold Var3 at h; simp [World.cell?, h]
theorem Var3.c1 (h : Var3 w g t x y z) : w.cell? ⟨g, 1, none⟩ = some y := by unfold Var3 at h; simp [World.cell?, h]
theorem Var3.c2 (h : Var3 w g t x y z) : w.cell? ⟨g, 2, none⟩ = some z := by unfold Var3 at h; simp [World.cell?, h]
theorem Var3.f (h : Var3 w g t x y z) (i : Nat) : w.frozen? ⟨g, i, none⟩ = false := by unfold Var3 at h; simp [World.frozen?, h]
theorem Var3.lt (h : Var3 w g t x y z) : g < w.heap.size := (Array.getElem?_eq_some_iff.1 h).1
theorem Var3.keep {B : Nat} (h : Var3 w g t x y z) (hb : Below B w w') (hg : g < B) : Var3 w' g t x y z := (hb.block g hg).trans h
theorem Var3.call (h : Var3 w g t x y z) (hb : Below w.heap.size w w') : Var3 w' g t x y z := h.keep hb h.lt
theorem Var3.set (h : Var3 w g t x y z) (u v r : Value) : Var3 (((w.setCell ⟨g, 0, none⟩ u).setCell ⟨g, 1, none⟩ v).setCell ⟨g, 2, none⟩ r) g t u v r := by
  unfold Var3 at *
  have h1 : (w.setCell ⟨g, 0, none⟩ u).heap[g]? = some (.cells #[u, y, z] t (0, 0)) := heap_setCell_same w g 0 _ t u h
  have h2 : ((w.setCell ⟨g, 0, none⟩ u).setCell ⟨g, 1, none⟩ v).heap[g]? = some (.cells #[u, v, z] t (0, 0)) := heap_setCell_same _ g 1 _ t v h1
  exact heap_setCell_same _ g 2 _ t r h2
end

set_option maxHeartbeats 1000000 in
theorem formOf_any (s : Array Value) (x : Trm) (w : World) (h : lay_Term.rep w (· < w.heap.size) x s.toList) :
    Calls Try.prog 36 #[.agg s] w fun e w' => e = .returned (keyV x) ∧ Below w.heap.size w w' := by
  obtain ⟨A, n, c, rfl, h1, h2, hV⟩ := agg_Term h
  clear h
  unfold keyV
  have hb0 : Below w.heap.size w ((w.alloc (Obj.cells #[.int .u64 x.Key, .int .i64 x.Up, .slice A n c] 39)).alloc (Obj.cells #[.int .u64 0, .int .i64 0, .string ⟨#[]⟩] 63)) := bel_alloc (bel_alloc (Below.refl _ _) _) _
  have hx1 := cell_alloc2 (w := w) (a := Obj.cells #[.int .u64 x.Key, .int .i64 x.Up, .slice A n c] 39) (b := Obj.cells #[.int .u64 0, .int .i64 0, .string ⟨#[]⟩] 63)
  have hv : Var3 _ (w.heap.size + 1) 63 _ _ _ := hx1.2
  have hv0 : Var3 _ w.heap.size 39 _ _ _ := hx1.1
  have k1 := ((hV.rd (B := w.heap.size) fun _ h => h).below hb0).str (P := Try.prog) Try.underlying26 Try.underlying5 Try.underlying9
  clear h1 h2 hV hx1
  generalize strOfNums x.Text = str at *
  generalize x.Key = key at *
  generalize x.Up = up at *
  go_enter Try.func36, Try.ntmps36
  go_upto_region 1 with (fail)
  generalize ((w.alloc (Obj.cells #[.int .u64 key, .int .i64 up, .slice A n c] 39)).alloc (Obj.cells #[.int .u64 0, .int .i64 0, .string ⟨#[]⟩] 63)) = W at *
  have c0 := hv0.c0
  have c1 := hv0.c1
  have c2 := hv0.c2
  have d0 := hv.c0
  have d1 := hv.c1
  have d2 := hv.c2
  have f0 := hv.f 0
  have f1 := hv.f 1
  have f2 := hv.f 2
  have hv' := hid (hv.set (.int .u64 key) (.int .i64 up) (.string str))
  have HB := hid (((hb0.setCell (p := ⟨w.heap.size + 1, 0, none⟩) (by show w.heap.size ≤ w.heap.size + 1; omega) (.int .u64 key)).setCell (p := ⟨w.heap.size + 1, 1, none⟩) (by show w.heap.size ≤ w.heap.size + 1; omega) (.int .i64 up)).setCell (p := ⟨w.heap.size + 1, 2, none⟩) (by show w.heap.size ≤ w.heap.size + 1; omega) (.string str))
  clear hv hv0 hb0
  go_wp2
  refine bodyPost_ret_by (results_c rfl _ _ (w.heap.size + 1) 0 rfl [.int .u64 key, .int .i64 up, .string str] _ (range3 hv'.out.c0 hv'.out.c1 hv'.out.c2) Try.underlying63 rfl (by kernel_rfl)) rfl ?_
  exact ⟨rfl, HB.out⟩

set_option maxHeartbeats 1000000 in
theorem isTag_any (s : Array Value) (l : List Trm) (u : Int) (w : World) (g : lay_Arena.rep w (· < w.heap.size) l s.toList) (hu : (Lit.int .i64 u).wf = true) :
    Calls Try.prog 28 #[.agg s, .int .i64 u] w fun e w' => e = .returned (.bool (decide (0 ≤ u) && decide (u < l.length))) ∧ Below w.heap.size w w' := by
  obtain ⟨A, n, c, rfl, h⟩ := agg_Arena g
  clear g
  rw [h.len]
  have hcap := h.cap
  unfold maxLen at hcap
  have bU := bounds_i64 hu
  have hb0 : Below w.heap.size w (w.alloc (Obj.cells #[.slice A n c] 24)) := bel_alloc (Below.refl _ _) _
  by_cases g1 : 0 ≤ u
  · have d1 : decide (0 ≤ u) = true := by simpa using g1
    have HR := hid (show decide (u < (n : Int)) = (decide (0 ≤ u) && decide (u < (n : Int))) from by rw [d1, Bool.true_and])
    go_enter Try.func28, Try.ntmps28
    go_wp2
    go_ret
    exact ⟨ret_bool HR.out, hb0⟩
  · have d1 : decide (0 ≤ u) = false := by simpa using g1
    go_enter Try.func28, Try.ntmps28
    go_wp2
    go_ret
    exact ⟨ret_bool rfl, hb0⟩

set_option maxHeartbeats 1000000 in
theorem aSame1_any (s1 s2 : Array Value) (S : Nat → Prop) (x y : Trm) (w : World) (h1 : lay_Term.rep w S x s1.toList) (h2 : lay_Term.rep w S y s2.toList) (hS : ∀ b, S b → b < w.heap.size) :
    Calls Try.prog 33 #[.agg s1, .agg s2] w fun e w' => e = .returned (.bool (decide (x = y))) ∧ Below w.heap.size w w' := by
  obtain ⟨A1, n1, c1, rfl, -, -, hV1⟩ := agg_Term h1
  obtain ⟨A2, n2, c2, rfl, -, -, hV2⟩ := agg_Term h2
  have hb0 : Below w.heap.size w ((w.alloc (Obj.cells #[.int .u64 x.Key, .int .i64 x.Up, .slice A1 n1 c1] 39)).alloc (Obj.cells #[.int .u64 y.Key, .int .i64 y.Up, .slice A2 n2 c2] 39)) := bel_alloc (bel_alloc (Below.refl _ _) _) _
  have R1 := hid ((hV1.rd hS).below hb0)
  have R2 := hid ((hV2.rd hS).below hb0)
  clear hV1 hV2 h1 h2
  by_cases hk : x.Key = y.Key
  · have hk' : (x.Key == y.Key) = true := by simpa using hk
    by_cases hu : x.Up = y.Up
    · have hu' : (x.Up == y.Up) = true := by simpa using hu
      have HD := hid (show decide (x = y) = decide (x.Text = y.Text) from by
        by_cases hv : x.Text = y.Text
        · rw [decide_eq_true (Trm.ext' hk hu hv), decide_eq_true hv]
        · rw [decide_eq_false hv, decide_eq_false fun e => hv (by rw [e])])
      clear hk hu
      go_enter Try.func33, Try.ntmps33
      go_wp2_with (go_at_call 34; go_must (refine (equal_any _ _ _ _ _ _ _ _ _ _ _ R1.out R2.out).mono ?_; rintro e w' ⟨rfl, rfl⟩))
      go_ret
      exact ⟨ret_bool HD.out.symm, hb0⟩
    · have hu' : (x.Up == y.Up) = false := by simpa using hu
      have HD := hid (show decide (x = y) = false from decide_eq_false fun e => hu (by rw [e]))
      clear hk hu
      go_enter Try.func33, Try.ntmps33
      go_wp2
      go_ret
      exact ⟨ret_bool HD.out.symm, hb0⟩
  · have hk' : (x.Key == y.Key) = false := by simpa using hk
    have HD := hid (show decide (x = y) = false from decide_eq_false fun e => hk (by rw [e]))
    clear hk
    go_enter Try.func33, Try.ntmps33
    go_wp2
    go_ret
    exact ⟨ret_bool HD.out.symm, hb0⟩

set_option maxRecDepth 100000 in
set_option maxHeartbeats 1000000 in
theorem aEqualFunc_any (A1 A2 : Option Addr) (n1 c1 n2 c2 : Nat) (l o : List Trm) (w : World) (h1 : Sl lay_Term w (· < w.heap.size) A1 n1 c1 l) (h2 : Sl lay_Term w (· < w.heap.size) A2 n2 c2 o) :
    Calls Try.prog 32 #[.slice A1 n1 c1, .slice A2 n2 c2, .func (.func 33) #[] #[]] w fun e w' => e = .returned (.bool (decide (l = o))) ∧ Below w.heap.size w w' := by
  have K1 := hid h1.len
  have K2 := hid h2.len
  have k1 := h1.cap
  have k2 := h2.cap
  unfold maxLen at k1 k2
  by_cases hl : n1 = n2
  · subst hl
    have hne : ((n1 : Int) != (n1 : Int)) = false := by simp
    go_enter Try.func32, Try.ntmps32
    go_wp2
    go_loopw [17] (fun i wr => ∃ j : Nat, j ≤ n1 ∧ i = .int .i64 j ∧ l.take j = o.take j ∧ Below w.heap.size w wr) (fun i _ => n1 - (intOf i).toNat)
    case atStart => exact ⟨0, Nat.zero_le _, rfl, rfl, Below.refl _ _⟩
    case round =>
      obtain ⟨j, hj, rfl, hpre, hbel⟩ := hrel
      have HP := hid hpre
      clear hpre
      by_cases hlt : j < n1
      · obtain ⟨b1, o1, A', n', c', hx1, rfl, hb1, t1, u1, v1, e1, e2, hV1⟩ := trm_at h1 hlt
        obtain ⟨b2, o2, A'', n'', c'', hx2, rfl, hb2, t2, u2, v2, e3, e4, hV2⟩ := trm_at h2 hlt
        have q1 := (hbel.cell (p := ⟨b1, o1 + j * 3, none⟩) hb1).trans t1
        have q2 := (hbel.cell (p := ⟨b1, o1 + j * 3 + 1, none⟩) hb1).trans u1
        have q3 := (hbel.cell (p := ⟨b1, o1 + j * 3 + 2, none⟩) hb1).trans v1
        have q4 := (hbel.cell (p := ⟨b2, o2 + j * 3, none⟩) hb2).trans t2
        have q5 := (hbel.cell (p := ⟨b2, o2 + j * 3 + 1, none⟩) hb2).trans u2
        have q6 := (hbel.cell (p := ⟨b2, o2 + j * 3 + 2, none⟩) hb2).trans v2
        have hg1 : b1 < wr.heap.size := Nat.lt_of_lt_of_le hb1 hbel.size
        have hg2 : b2 < wr.heap.size := Nat.lt_of_lt_of_le hb2 hbel.size
        have hbb := (hbel.alloc hbel.size (Obj.cells #[.int .u64 l[j].Key, .int .i64 l[j].Up, .slice A' n' c'] 39)).alloc (by have := hbel.size; simp; omega) (Obj.cells #[.int .u64 o[j].Key, .int .i64 o[j].Up, .slice A'' n'' c''] 39)
        have P1 := hid (show lay_Term.rep _ (· < w.heap.size) l[j] #[.int .u64 l[j].Key, .int .i64 l[j].Up, .slice A' n' c'].toList from rep_Term.2 ⟨A', n', c', rfl, e1, e2, hV1.keep fun _ hp => hbb.cell hp⟩)
        have P2 := hid (show lay_Term.rep _ (· < w.heap.size) o[j] #[.int .u64 o[j].Key, .int .i64 o[j].Up, .slice A'' n'' c''].toList from rep_Term.2 ⟨A'', n'', c'', rfl, e3, e4, hV2.keep fun _ hp => hbb.cell hp⟩)
        have HS := hid (fun (b : Nat) (h : b < w.heap.size) => Nat.lt_of_lt_of_le h hbb.size)
        clear t1 v1 t2 v2 u1 u2 hV1 hV2 e1 e2 e3 e4
        by_cases he : l[j] = o[j]
        · have HN := hid (take_sameT hx1 hx2 HP.out he)
          have HD := hid (decide_eq_true he)
          clear he
          go_wp2_with (go_at_call 33; go_must (refine (aSame1_any _ _ _ l[j] o[j] _ P1.out P2.out HS.out).mono ?_; rw [HD.out]; rintro e w2 ⟨rfl, hb2⟩))
          go_roundw
          case rel => exact ⟨j + 1, by omega, by go_num, HN.out, hbb.trans (hb2.mono hbb.size)⟩
          case measure => simp [intOf]; omega
        · have HN := hid (show decide (l = o) = false from decide_eq_false fun e => he (by simp only [e]))
          have HD := hid (decide_eq_false he)
          clear he
          go_wp2_with (go_at_call 33; go_must (refine (aSame1_any _ _ _ l[j] o[j] _ P1.out P2.out HS.out).mono ?_; rw [HD.out]; rintro e w2 ⟨rfl, hb2⟩))
          go_ret
          exact ⟨ret_bool HN.out.symm, hbb.trans (hb2.mono hbb.size)⟩
      · have HN := hid (show decide (l = o) = true from by
          have := HP.out
          rw [List.take_of_length_le (by rw [K1.out]; omega), List.take_of_length_le (by rw [K2.out]; omega)] at this
          exact decide_eq_true this)
        go_wp2
        go_ret
        exact ⟨ret_bool HN.out.symm, hbel⟩
  · have hne : ((n1 : Int) != (n2 : Int)) = true := by simp; omega
    have HN := hid (show decide (l = o) = false from decide_eq_false fun e => by rw [e] at K1; have a1 := K1.out; have a2 := K2.out; omega)
    go_enter Try.func32, Try.ntmps32
    go_wp2
    go_ret
    exact ⟨ret_bool HN.out.symm, Below.refl _ _⟩

set_option maxHeartbeats 1000000 in
theorem aSame_any (s1 s2 : Array Value) (l o : List Trm) (w : World) (g1 : lay_Arena.rep w (· < w.heap.size) l s1.toList) (g2 : lay_Arena.rep w (· < w.heap.size) o s2.toList) :
    Calls Try.prog 19 #[.agg s1, .agg s2] w fun e w' => e = .returned (.bool (decide (l = o))) ∧ Below w.heap.size w w' := by
  obtain ⟨A1, n1, c1, rfl, h1⟩ := agg_Arena g1
  obtain ⟨A2, n2, c2, rfl, h2⟩ := agg_Arena g2
  clear g1 g2
  have hb0 : Below w.heap.size w ((w.alloc (Obj.cells #[.slice A1 n1 c1] 24)).alloc (Obj.cells #[.slice A2 n2 c2] 24)) := bel_alloc (bel_alloc (Below.refl _ _) _) _
  have P1 := hid (Sl.call h1 hb0)
  have P2 := hid (Sl.call h2 hb0)
  clear h1 h2
  go_enter Try.func19, Try.ntmps19
  go_wp2_with (go_at_call 32; go_must (refine (aEqualFunc_any _ _ _ _ _ _ l o _ P1.out P2.out).mono ?_; rintro e w1 ⟨rfl, hb1⟩))
  go_ret
  exact ⟨rfl, bel_call hb0 hb1⟩
end Go.Proofs.Ythcikbmekjmmlaa
