/-
  The contracts of the document's answers of layer 6: a caveat's octets, whether it holds, whether one is tighter.
-/
import Derived.Test.YtikfdfdancgnpaaCaveatRef1
import Derived.Test.YtikfdfdancgnpaaVars
namespace Go.Proofs.Ytikfdfdancgnpaa
open Go.RowKit Go.WalkArith

theorem rd_nums2 {w : World} {t : TypeId} {x y : Int} (hx : (Lit.int .u64 x).wf = true) (hy : (Lit.int .u64 y).wf = true) : Rd (w.alloc (.cells #[.int .u64 x, .int .u64 y] t)) (w.alloc (.cells #[.int .u64 x, .int .u64 y] t)).heap.size .u64 (some ⟨w.heap.size, 0, none⟩) 2 2 [x, y] :=
  Rd.lit2 (by rw [World.cell?_alloc_at _ _ _ _ rfl]; rfl) (by rw [World.cell?_alloc_at _ _ _ _ rfl]; rfl) hx hy
theorem rd_nums3 {w : World} {t : TypeId} {x y z : Int} (hx : (Lit.int .u64 x).wf = true) (hy : (Lit.int .u64 y).wf = true) (hz : (Lit.int .u64 z).wf = true) : Rd (w.alloc (.cells #[.int .u64 x, .int .u64 y, .int .u64 z] t)) (w.alloc (.cells #[.int .u64 x, .int .u64 y, .int .u64 z] t)).heap.size .u64 (some ⟨w.heap.size, 0, none⟩) 3 3 [x, y, z] :=
  ⟨rfl, Nat.le_refl _, by simp [maxLen], by simpa using ⟨hx, hy, hz⟩, by simp, fun _ => ⟨w.heap.size, 0, rfl, by simp, fun j hj => by
    match j, hj with
    | 0, _ => rw [World.cell?_alloc_at _ _ _ _ rfl]; rfl
    | 1, _ => rw [World.cell?_alloc_at _ _ _ _ rfl]; rfl
    | 2, _ => rw [World.cell?_alloc_at _ _ _ _ rfl]; rfl⟩⟩

set_option maxHeartbeats 1000000 in
theorem refPutC_any (s : Array Value) (S : Nat → Prop) (c : Cav) (w : World) (h : lay_Caveat.rep w S c s.toList) :
    Calls Try.prog 10 #[.agg s] w fun e w' => ∃ v', e = .returned (.tuple #[v', .int .i64 (cavE c)]) ∧ Own w' w.heap.size 5 .u8 v' (putC c) ∧ Below w.heap.size w w' := by
  obtain ⟨rfl, hw⟩ := agg_Caveat h
  clear h
  have bd := cav_bd hw
  have hb0 : Below w.heap.size w (w.alloc (Obj.cells #[.int .i64 c.Kind, .int .u64 c.A, .int .u64 c.B] 24)) := bel_alloc (Below.refl _ _) _
  have V0 := Var3.new w 24 (.int .i64 c.Kind) (.int .u64 c.A) (.int .u64 c.B)
  have HCK := hid (fun W => refCheckC_any #[.int .i64 c.Kind, .int .u64 c.A, .int .u64 c.B] (fun _ => True) c W (rep_Caveat.2 ⟨rfl, hw⟩))
  go_enter Try.func10, Try.ntmps10
  go_wp2_with fail
  refine (HCK.out _).mono ?_
  rintro e w1 ⟨rfl, hb1⟩
  have HB1 := bel_call hb0 hb1
  have V1 := V0.call hb1
  have k0 := V1.c0
  have k1 := V1.c1
  have k2 := V1.c2
  have hz1 := HB1.size
  clear hb1 hb0 V0 HCK
  rcases cavE_is (c := c) with ⟨hE, hok⟩ | ⟨hE, hok⟩
  · rw [hE]
    have HP := hid (show putC c = octs (numsC c) from if_pos hok)
    have HE := hid hE
    clear hE
    have hk := hok.1
    have hk2 := hok.2.1
    by_cases h4 : c.Kind = 4
    · have HN := hid (show numsC c = [4, c.A, c.B] from if_pos h4)
      have HPU := hid (refPut_any _ _ _ _ _ (rd_nums3 (w := w1) (t := 22) (by decide : (Lit.int .u64 4).wf = true) hw.a hw.b) (by decide))
      have d4 : (c.Kind == 4) = true := by simpa using h4
      clear hw hok hk hk2 h4
      obtain ⟨k, a, b⟩ := c
      simp only at *
      go_wp2_with fail
      refine HPU.out.mono ?_
      rintro e w2 ⟨v2, rfl, ho2, hb2⟩
      go_wp2
      go_ret2
      exact ⟨_, by rw [HE.out]; rfl, by rw [HP.out, HN.out]; exact ho2.weaken (by simp; omega), bel_call (bel_alloc HB1 _) hb2⟩
    · have HN := hid (show numsC c = [c.Kind, c.A] from if_neg h4)
      have HPU := hid (refPut_any _ _ _ _ _ (rd_nums2 (w := w1) (t := 22) (wf_u64 (by omega) : (Lit.int .u64 c.Kind).wf = true) hw.a) (by decide))
      have d4 : (c.Kind == 4) = false := by simpa using h4
      have wk : IntKind.u64.wrap c.Kind = c.Kind := IntWalk.u64_in _ (by omega)
      clear hw hok hk hk2 h4
      obtain ⟨k, a, b⟩ := c
      simp only at *
      go_wp2_with fail
      refine HPU.out.mono ?_
      rintro e w2 ⟨v2, rfl, ho2, hb2⟩
      go_wp2
      go_ret2
      exact ⟨_, by rw [HE.out]; rfl, by rw [HP.out, HN.out]; exact ho2.weaken (by simp; omega), bel_call (bel_alloc HB1 _) hb2⟩
  · rw [hE]
    have HP := hid (show putC c = [] from if_neg hok)
    have HE := hid hE
    clear hE hok hw
    obtain ⟨k, a, b⟩ := c
    simp only at *
    go_wp2
    go_ret2
    exact ⟨_, by rw [HE.out]; rfl, by rw [HP.out]; exact Own.nil _ _ _ _, HB1⟩

theorem hl_is {c : Cav} {u : Usx} : (hlE c u = 0 ∧ hlV c u = hldB c u ∧ CavOk c ∧ UseOk u) ∨ (hlE c u = 1 ∧ hlV c u = false ∧ ¬ (CavOk c ∧ UseOk u)) := by
  unfold hlE hlV
  by_cases h : CavOk c ∧ UseOk u
  · exact .inl ⟨if_pos h, by simp [h], h.1, h.2⟩
  · exact .inr ⟨if_neg h, by rw [decide_eq_false h]; rfl, h⟩

set_option maxRecDepth 100000 in
set_option maxHeartbeats 2000000 in
theorem refHolds_any (s1 s2 : Array Value) (S : Nat → Prop) (c : Cav) (u : Usx) (w : World) (h1 : lay_Caveat.rep w S c s1.toList) (h2 : lay_Use.rep w S u s2.toList) :
    Calls Try.prog 14 #[.agg s1, .agg s2] w fun e w' => e = .returned (.tuple #[.bool (hlV c u), .int .i64 (hlE c u)]) ∧ Below w.heap.size w w' := by
  obtain ⟨rfl, hw⟩ := agg_Caveat h1
  obtain ⟨rfl, hv⟩ := agg_Use h2
  clear h1 h2
  have bd := cav_bd hw
  have bm := bounds_i64 hv.method
  have HCK := hid (fun W => refCheckC_any #[.int .i64 c.Kind, .int .u64 c.A, .int .u64 c.B] (fun _ => True) c W (rep_Caveat.2 ⟨rfl, hw⟩))
  have HMY := hid (fun W => refMay_any #[.int .u64 u.Tick, .int .i64 u.Method, .int .u64 u.Amount, .int .u64 u.Who] (fun _ => True) u W (rep_Use.2 ⟨rfl, hv⟩))
  clear hw hv
  have HIS := hid (hl_is (c := c) (u := u))
  have HCE := hid (cavE_is (c := c))
  obtain ⟨k, a, b⟩ := c
  obtain ⟨t, m, am, wh⟩ := u
  simp only at *
  have hb0 : Below w.heap.size w ((w.alloc (Obj.cells #[.int .i64 k, .int .u64 a, .int .u64 b] 24)).alloc (Obj.cells #[.int .u64 t, .int .i64 m, .int .u64 am, .int .u64 wh] 27)) := bel_alloc (bel_alloc (Below.refl _ _) _) _
  have V0 : Var3 ((w.alloc (Obj.cells #[.int .i64 k, .int .u64 a, .int .u64 b] 24)).alloc (Obj.cells #[.int .u64 t, .int .i64 m, .int .u64 am, .int .u64 wh] 27)) w.heap.size 24 (.int .i64 k) (.int .u64 a) (.int .u64 b) := heap_alloc2_old _ _ _
  have U0 : Var4 ((w.alloc (Obj.cells #[.int .i64 k, .int .u64 a, .int .u64 b] 24)).alloc (Obj.cells #[.int .u64 t, .int .i64 m, .int .u64 am, .int .u64 wh] 27)) (w.heap.size + 1) 27 (.int .u64 t) (.int .i64 m) (.int .u64 am) (.int .u64 wh) := alloc2_new _ _ _
  go_enter Try.func14, Try.ntmps14
  go_wp2_with fail
  refine (HCK.out _).mono ?_
  rintro e w1 ⟨rfl, hb1⟩
  have HB1 := bel_call hb0 hb1
  have V1 := V0.call hb1
  have U1 := U0.call hb1
  have j0 := U1.c0
  have j1 := U1.c1
  have j2 := U1.c2
  have j3 := U1.c3
  clear hb1 hb0 V0 U0 HCK
  rcases HCE.out with ⟨hE, hok⟩ | ⟨hE, hok⟩
  rotate_left
  · rw [hE]
    rcases HIS.out with ⟨-, -, q, -⟩ | ⟨x1, x2, -⟩
    · exact absurd q hok
    have X1 := hid x1
    have X2 := hid x2
    clear x1 x2 hE hok
    go_wp2
    go_ret2
    exact ⟨by rw [X1.out, X2.out]; rfl, HB1⟩
  rw [hE]
  clear hE
  go_wp2_with fail
  refine (HMY.out _).mono ?_
  rintro e w2 ⟨rfl, hb2⟩
  have HB2 := bel_call HB1 hb2
  have V2 := V1.call hb2
  have U2 := U1.call hb2
  have k0 := V2.c0
  have k1 := V2.c1
  have i0 := U2.c0
  have i1 := U2.c1
  have i2 := U2.c2
  have i3 := U2.c3
  clear hb2 V1 U1 j0 j1 j2 j3 HMY
  by_cases hu : UseOk ⟨t, m, am, wh⟩
  rotate_left
  · rw [show useB ⟨t, m, am, wh⟩ = false from decide_eq_false hu]
    rcases HIS.out with ⟨-, -, -, q⟩ | ⟨x1, x2, -⟩
    · exact absurd q hu
    have X1 := hid x1
    have X2 := hid x2
    clear x1 x2 hu hok
    go_wp2
    go_ret2
    exact ⟨by rw [X1.out, X2.out]; rfl, HB2⟩
  rw [show useB ⟨t, m, am, wh⟩ = true from decide_eq_true hu]
  rcases HIS.out with ⟨x1, x2, -, -⟩ | ⟨-, -, q⟩
  rotate_left
  · exact absurd ⟨hok, hu⟩ q
  have X1 := hid x1
  have hk1 : 1 ≤ k := hok.1
  have hk2 : k ≤ 5 := hok.2.1
  have hm1 : 0 ≤ m := hu.1
  have hm2 : m ≤ 15 := hu.2.1
  clear x1 HIS HCE hok hu
  rcases (show k = 1 ∨ k = 2 ∨ k = 3 ∨ k = 4 ∨ k = 5 by omega) with hk | hk | hk | hk | hk
  all_goals subst hk
  · have X2 := hid (x2.trans (show hldB ⟨1, a, b⟩ ⟨t, m, am, wh⟩ = decide (t ≤ a) from rfl))
    clear x2
    go_wp2
    go_ret2
    exact ⟨by rw [X1.out, X2.out]; rfl, HB2⟩
  · have X2 := hid (x2.trans (show hldB ⟨2, a, b⟩ ⟨t, m, am, wh⟩ = bitN a m.toNat from rfl))
    obtain ⟨mn, rfl⟩ : ∃ mn : Nat, m = mn := ⟨m.toNat, by omega⟩
    have HBT := hid (refBit_any a mn w2 (by omega) (by omega) (by omega))
    rw [Int.toNat_natCast] at X2
    clear x2
    go_wp2_with fail
    refine HBT.out.mono ?_
    rintro e w3 ⟨rfl, rfl⟩
    go_wp2
    go_ret2
    exact ⟨by rw [X1.out, X2.out]; rfl, HB2⟩
  · have X2 := hid (x2.trans (show hldB ⟨3, a, b⟩ ⟨t, m, am, wh⟩ = decide (am ≤ a) from rfl))
    clear x2
    go_wp2
    go_ret2
    exact ⟨by rw [X1.out, X2.out]; rfl, HB2⟩
  · have X2 := hid (x2.trans (show hldB ⟨4, a, b⟩ ⟨t, m, am, wh⟩ = decide (am ≤ a) from rfl))
    clear x2
    go_wp2
    go_ret2
    exact ⟨by rw [X1.out, X2.out]; rfl, HB2⟩
  · have X2 := hid (x2.trans (show hldB ⟨5, a, b⟩ ⟨t, m, am, wh⟩ = (wh == a) from rfl))
    clear x2
    go_wp2
    go_ret2
    exact ⟨by rw [X1.out, X2.out]; rfl, HB2⟩

theorem tg_is {a b : Cav} : (tgE a b = 0 ∧ tgV a b = tgB a b ∧ TightOk a b) ∨ (tgE a b = 1 ∧ tgV a b = false ∧ ¬ TightOk a b) := by
  unfold tgE tgV
  by_cases h : TightOk a b
  · exact .inl ⟨if_pos h, by simp [h], h⟩
  · exact .inr ⟨if_neg h, by rw [decide_eq_false h]; rfl, h⟩
theorem sub_to {a b : Int} {j : Nat} (h : ∀ i, i < j → (!bitN a i || bitN b i) = true) (hj : (!bitN a j || bitN b j) = true) : ∀ i, i < j + 1 → (!bitN a i || bitN b i) = true := fun i hi => by
  rcases Nat.lt_or_ge i j with h1 | h1
  · exact h i h1
  · obtain rfl : i = j := by omega
    exact hj
theorem sub_all {a b : Int} (h : ∀ i, i < 16 → (!bitN a i || bitN b i) = true) : subB a b = true := by
  unfold subB
  rw [List.all_eq_true]
  intro i hi
  exact h i (by simpa using hi)
theorem sub_bad {a b : Int} {j : Nat} (hj : j < 16) (h : (!bitN a j || bitN b j) = false) : subB a b = false := by
  unfold subB
  rw [List.all_eq_false]
  exact ⟨j, by simpa using hj, by rw [h]; decide⟩

set_option maxRecDepth 100000 in
set_option maxHeartbeats 4000000 in
theorem refTighter_any (s1 s2 : Array Value) (S : Nat → Prop) (c d : Cav) (w : World) (h1 : lay_Caveat.rep w S c s1.toList) (h2 : lay_Caveat.rep w S d s2.toList) :
    Calls Try.prog 16 #[.agg s1, .agg s2] w fun e w' => e = .returned (.tuple #[.bool (tgV c d), .int .i64 (tgE c d)]) ∧ Below w.heap.size w w' := by
  obtain ⟨rfl, hw⟩ := agg_Caveat h1
  obtain ⟨rfl, hv⟩ := agg_Caveat h2
  clear h1 h2
  have bc := cav_bd hw
  have bd := cav_bd hv
  have HC1 := hid (fun W => refCheckC_any #[.int .i64 c.Kind, .int .u64 c.A, .int .u64 c.B] (fun _ => True) c W (rep_Caveat.2 ⟨rfl, hw⟩))
  have HC2 := hid (fun W => refCheckC_any #[.int .i64 d.Kind, .int .u64 d.A, .int .u64 d.B] (fun _ => True) d W (rep_Caveat.2 ⟨rfl, hv⟩))
  clear hw hv
  have HIS := hid (tg_is (a := c) (b := d))
  have HE1 := hid (cavE_is (c := c))
  have HE2 := hid (cavE_is (c := d))
  obtain ⟨k, a, b⟩ := c
  obtain ⟨k', a', b'⟩ := d
  simp only at *
  have hb0 : Below w.heap.size w ((w.alloc (Obj.cells #[.int .i64 k, .int .u64 a, .int .u64 b] 24)).alloc (Obj.cells #[.int .i64 k', .int .u64 a', .int .u64 b'] 24)) := bel_alloc (bel_alloc (Below.refl _ _) _) _
  have V0 : Var3 ((w.alloc (Obj.cells #[.int .i64 k, .int .u64 a, .int .u64 b] 24)).alloc (Obj.cells #[.int .i64 k', .int .u64 a', .int .u64 b'] 24)) w.heap.size 24 (.int .i64 k) (.int .u64 a) (.int .u64 b) := heap_alloc2_old _ _ _
  have U0 : Var3 ((w.alloc (Obj.cells #[.int .i64 k, .int .u64 a, .int .u64 b] 24)).alloc (Obj.cells #[.int .i64 k', .int .u64 a', .int .u64 b'] 24)) (w.heap.size + 1) 24 (.int .i64 k') (.int .u64 a') (.int .u64 b') := alloc2_new _ _ _
  go_enter Try.func16, Try.ntmps16
  go_wp2_with fail
  refine (HC1.out _).mono ?_
  rintro e w1 ⟨rfl, hb1⟩
  have HB1 := bel_call hb0 hb1
  have V1 := V0.call hb1
  have U1 := U0.call hb1
  have j0 := U1.c0
  have j1 := U1.c1
  have j2 := U1.c2
  clear hb1 hb0 V0 U0 HC1
  rcases HE1.out with ⟨hE, hok⟩ | ⟨hE, hok⟩
  rotate_left
  · rw [hE]
    rcases HIS.out with ⟨-, -, q⟩ | ⟨x1, x2, -⟩
    · exact absurd q.1 hok
    have X1 := hid x1
    have X2 := hid x2
    clear x1 x2 hE hok
    go_wp2
    go_ret2
    exact ⟨by rw [X1.out, X2.out]; rfl, HB1⟩
  rw [hE]
  clear hE
  go_wp2_with fail
  refine (HC2.out _).mono ?_
  rintro e w2 ⟨rfl, hb2⟩
  have HB2 := bel_call HB1 hb2
  have V2 := V1.call hb2
  have U2 := U1.call hb2
  have k0 := V2.c0
  have k1 := V2.c1
  have k2 := V2.c2
  have i0 := U2.c0
  have i1 := U2.c1
  have i2 := U2.c2
  clear hb2 V1 U1 j0 j1 j2 HC2
  rcases HE2.out with ⟨hE, hok2⟩ | ⟨hE, hok2⟩
  rotate_left
  · rw [hE]
    rcases HIS.out with ⟨-, -, q⟩ | ⟨x1, x2, -⟩
    · exact absurd q.2.1 hok2
    have X1 := hid x1
    have X2 := hid x2
    clear x1 x2 hE hok2 hok
    go_wp2
    go_ret2
    exact ⟨by rw [X1.out, X2.out]; rfl, HB2⟩
  rw [hE]
  clear hE
  by_cases hk : k = k'
  rotate_left
  · rcases HIS.out with ⟨-, -, q⟩ | ⟨x1, x2, -⟩
    · exact absurd q.2.2.1 hk
    have X1 := hid x1
    have X2 := hid x2
    have d1 : (k != k') = true := by simpa using hk
    clear x1 x2 hok2 hok hk
    go_wp2
    go_ret2
    exact ⟨by rw [X1.out, X2.out]; rfl, HB2⟩
  subst hk
  by_cases hb : b = b'
  rotate_left
  · rcases HIS.out with ⟨-, -, q⟩ | ⟨x1, x2, -⟩
    · exact absurd q.2.2.2 hb
    have X1 := hid x1
    have X2 := hid x2
    have d1 : (k != k) = false := by simp
    have d2 : (b != b') = true := by simpa using hb
    clear x1 x2 hok2 hok hb
    go_wp2
    go_ret2
    exact ⟨by rw [X1.out, X2.out]; rfl, HB2⟩
  subst hb
  rcases HIS.out with ⟨x1, x2, -⟩ | ⟨-, -, q⟩
  rotate_left
  · exact absurd ⟨hok, hok2, rfl, rfl⟩ q
  have X1 := hid x1
  have hk1 : 1 ≤ k := hok.1
  have hk2 : k ≤ 5 := hok.2.1
  clear x1 HIS HE1 HE2 hok hok2
  have dk : (k != k) = false := by simp
  have db : (b != b) = false := by simp
  rcases (show k = 1 ∨ k = 2 ∨ k = 3 ∨ k = 4 ∨ k = 5 by omega) with hk | hk | hk | hk | hk
  all_goals subst hk
  · have X2 := hid (x2.trans (show tgB ⟨1, a, b⟩ ⟨1, a', b⟩ = decide (a ≤ a') from rfl))
    clear x2
    go_wp2
    go_ret2
    exact ⟨by rw [X1.out, X2.out]; rfl, HB2⟩
  · have X2 := hid (x2.trans (show tgB ⟨2, a, b⟩ ⟨2, a', b⟩ = subB a a' from rfl))
    clear x2
    go_wp2
    go_loop [33] (fun i => ∃ j : Nat, j ≤ 16 ∧ i = .int .i64 j ∧ ∀ i, i < j → (!bitN a i || bitN a' i) = true) (fun i => 16 - (intOf i).toNat)
    case atStart => exact ⟨0, Nat.zero_le _, rfl, fun i hi => by omega⟩
    case round =>
      obtain ⟨j, hj, rfl, hpre⟩ := hrel
      have HP := hid hpre
      clear hpre
      by_cases hlt : j < 16
      · have HT1 := hid (refBit_any a j w2 (by omega) (by omega) (by omega))
        have HT2 := hid (refBit_any a' j w2 (by omega) (by omega) (by omega))
        cases p1 : bitN a j with
        | false =>
          have HN := hid (sub_to HP.out (by rw [p1]; rfl))
          rw [p1] at HT1
          clear p1
          go_wp2_with fail
          refine HT1.out.mono ?_
          rintro e w3 ⟨rfl, rfl⟩
          go_wp2
          go_round
          case rel => exact ⟨j + 1, by omega, by go_num, HN.out⟩
          case measure => simp [intOf]; omega
        | true =>
          rw [p1] at HT1
          cases p2 : bitN a' j with
          | true =>
            have HN := hid (sub_to HP.out (by rw [p1, p2]; rfl))
            rw [p2] at HT2
            clear p1 p2
            go_wp2_with fail
            refine HT1.out.mono ?_
            rintro e w3 ⟨rfl, rfl⟩
            go_wp2_with fail
            refine HT2.out.mono ?_
            rintro e w4 ⟨rfl, rfl⟩
            go_wp2
            go_round
            case rel => exact ⟨j + 1, by omega, by go_num, HN.out⟩
            case measure => simp [intOf]; omega
          | false =>
            have HN := hid (sub_bad hlt (show (!bitN a j || bitN a' j) = false from by rw [p1, p2]; rfl))
            rw [p2] at HT2
            clear p1 p2
            go_wp2_with fail
            refine HT1.out.mono ?_
            rintro e w3 ⟨rfl, rfl⟩
            go_wp2_with fail
            refine HT2.out.mono ?_
            rintro e w4 ⟨rfl, rfl⟩
            go_wp2
            go_ret2
            exact ⟨by rw [X1.out, X2.out, HN.out]; rfl, HB2⟩
      · obtain rfl : j = 16 := by omega
        have HN := hid (sub_all HP.out)
        go_wp2
        go_ret2
        exact ⟨by rw [X1.out, X2.out, HN.out]; rfl, HB2⟩
  · have X2 := hid (x2.trans (show tgB ⟨3, a, b⟩ ⟨3, a', b⟩ = decide (a ≤ a') from rfl))
    clear x2
    go_wp2
    go_ret2
    exact ⟨by rw [X1.out, X2.out]; rfl, HB2⟩
  · have X2 := hid (x2.trans (show tgB ⟨4, a, b⟩ ⟨4, a', b⟩ = decide (a ≤ a') from rfl))
    clear x2
    go_wp2
    go_ret2
    exact ⟨by rw [X1.out, X2.out]; rfl, HB2⟩
  · have X2 := hid (x2.trans (show tgB ⟨5, a, b⟩ ⟨5, a', b⟩ = (a == a') from rfl))
    clear x2
    go_wp2
    go_ret2
    exact ⟨by rw [X1.out, X2.out]; rfl, HB2⟩
end Go.Proofs.Ytikfdfdancgnpaa
