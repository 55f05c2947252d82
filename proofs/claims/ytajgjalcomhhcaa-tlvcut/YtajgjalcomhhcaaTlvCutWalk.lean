/-
  The walk of TlvCut.
-/
import Derived.Test.YtajgjalcomhhcaaTlvLive
import Derived.Test.YtajgjalcomhhcaaTlvCutLaws
import Derived.Test.YtajgjalcomhhcaaTlvOrderWalk
namespace Go.Proofs.Ytajgjalcomhhcaa
open Go.RowKit Go.WalkArith

theorem two_kept {w W : World} {g : Nat} {u v : Value} (hb : Below w.heap.size w W) (hg : g < w.heap.size) (h0 : w.cell? ⟨g, 0, none⟩ = some u) (h1 : w.cell? ⟨g, 1, none⟩ = some v) : W.cell? ⟨g, 0, none⟩ = some u ∧ W.cell? ⟨g, 1, none⟩ = some v :=
  ⟨(hb.cell (p := ⟨g, 0, none⟩) hg).trans h0, (hb.cell (p := ⟨g, 1, none⟩) hg).trans h1⟩
theorem lit_keptA {w W : World} {x y : Value} {t : TypeId} (hb : Below (w.alloc (Obj.cells #[x, y] t)).heap.size (w.alloc (Obj.cells #[x, y] t)) W) : W.cell? ⟨w.heap.size, 0, none⟩ = some x ∧ W.cell? ⟨w.heap.size, 1, none⟩ = some y :=
  ⟨(hb.cell (p := ⟨w.heap.size, 0, none⟩) (by simp)).trans (by rw [World.cell?_alloc_at _ _ _ _ rfl]; rfl), (hb.cell (p := ⟨w.heap.size, 1, none⟩) (by simp)).trans (by rw [World.cell?_alloc_at _ _ _ _ rfl]; rfl)⟩
theorem lit_kept0 {w W : World} {x y : Value} {t : TypeId} (hb : Below (w.drew.alloc (Obj.cells #[x, y] t)).heap.size (w.drew.alloc (Obj.cells #[x, y] t)) W) : W.cell? ⟨w.heap.size, 0, none⟩ = some x := (lit_keptA hb).1
theorem lit_kept1 {w W : World} {x y : Value} {t : TypeId} (hb : Below (w.drew.alloc (Obj.cells #[x, y] t)).heap.size (w.drew.alloc (Obj.cells #[x, y] t)) W) : W.cell? ⟨w.heap.size, 1, none⟩ = some y := (lit_keptA hb).2
theorem lit_rd {w : World} {k : IntKind} {x y : Int} {t : TypeId} (hx : (Lit.int k x).wf = true) (hy : (Lit.int k y).wf = true) : Rd (w.alloc (Obj.cells #[.int k x, .int k y] t)) (w.alloc (Obj.cells #[.int k x, .int k y] t)).heap.size k (some ⟨w.heap.size, 0, none⟩) 2 2 [x, y] :=
  Rd.lit2 (by rw [World.cell?_alloc_at _ _ _ _ rfl]; rfl) (by rw [World.cell?_alloc_at _ _ _ _ rfl]; rfl) hx hy

set_option maxRecDepth 100000 in
set_option maxHeartbeats 2000000 in
theorem tlvCut_walk (A0 : Option Addr) (n0 c0 : Nat) (x0 : List Rec) (a1 : Int) (s2 : Array Value) (x2 : Rec) (w : World) (r0 : Sl lay_Record w (· < w.heap.size) A0 n0 c0 x0) (b1 : -9223372036854775808 ≤ a1 ∧ a1 ≤ 9223372036854775807) (r2 : lay_Record.rep w (· < w.heap.size) x2 s2.toList) :
    Calls Try.prog 6 #[.slice A0 n0 c0, .int .i64 a1, .agg s2] w fun e w' => e = .returned (.bool true) ∧ Below w.heap.size w w' := by
  obtain ⟨A2, n2, c2, hcs, hT2, hV2⟩ := rep_Record.1 r2
  obtain rfl : s2 = #[.int .u64 x2.T, .slice A2 n2 c2] := Array.ext' hcs
  have hc2 := hV2.cap
  have hc0 := r0.cap
  unfold maxLen at hc2 hc0
  clear hcs
  have hb0 : Below w.heap.size w (w.alloc (Obj.cells #[.int .u64 x2.T, .slice A2 n2 c2] 36)) := bel_alloc (Below.refl _ _) _
  have a1' : (w.alloc (Obj.cells #[.int .u64 x2.T, .slice A2 n2 c2] 36)).cell? ⟨w.heap.size, 0, none⟩ = some (.int .u64 x2.T) := by go_simp
  have a2' : (w.alloc (Obj.cells #[.int .u64 x2.T, .slice A2 n2 c2] 36)).cell? ⟨w.heap.size, 1, none⟩ = some (.slice A2 n2 c2) := by go_simp
  have g1 : w.heap.size < (w.alloc (Obj.cells #[.int .u64 x2.T, .slice A2 n2 c2] 36)).heap.size := by simp
  have q0 := r0.call hb0
  have R2 := ((hV2.rd (B := w.heap.size) fun _ h => h).below hb0).more hb0.size
  have X0 := hid (recs_wf r0 fun _ h => h)
  have X2 : Hid (RecWf x2) := hid ⟨bounds_u64 hT2, fun x hx => bounds_u8 ((hV2.rd (B := w.heap.size) fun _ h => h).wf x hx)⟩
  have L0 := hid r0.len
  have L2 := hid hV2.len
  clear r0 r2 hV2
  go_enter Try.func6, Try.ntmps6
  go_wp2_with fail
  generalize (w.alloc (Obj.cells #[.int .u64 x2.T, .slice A2 n2 c2] 36)) = W0 at *
  have HBa := Below.refl W0.heap.size W0
  have k1 := a1'
  have k2 := a2'
  with_reducible refine (live2_any _).mono ?_
  rintro e w1 ⟨rfl, hb1⟩
  have HB1 := bel_call HBa hb1
  replace q0 := q0.call hb1
  replace R2 := (R2.below hb1).more hb1.size
  replace k1 := (HB1.cell (p := ⟨w.heap.size, 0, none⟩) g1).trans a1'
  replace k2 := (HB1.cell (p := ⟨w.heap.size, 1, none⟩) g1).trans a2'
  clear hb1 HBa
  go_wp2_with fail
  with_reducible refine (tlvPut_any _ _ _ _ _ q0).mono ?_
  rintro e w2 ⟨v2, rfl, hown2, hb2⟩
  have HB2 := bel_call HB1 hb2
  replace q0 := q0.call hb2
  replace R2 := (R2.below hb2).more hb2.size
  replace k1 := (HB2.cell (p := ⟨w.heap.size, 0, none⟩) g1).trans a1'
  replace k2 := (HB2.cell (p := ⟨w.heap.size, 1, none⟩) g1).trans a2'
  clear hb2 HB1
  obtain ⟨A3, n3, c3, rfl, q3⟩ := hown2.formN
  go_wp2_with fail
  with_reducible refine (few_any _ _ _ _ _ q0).mono ?_
  rintro e w3 ⟨rfl, hb3⟩
  have HB3 := bel_call HB2 hb3
  replace q0 := q0.call hb3
  replace R2 := (R2.below hb3).more hb3.size
  replace q3 := (q3.below hb3).more hb3.size
  replace k1 := (HB3.cell (p := ⟨w.heap.size, 0, none⟩) g1).trans a1'
  replace k2 := (HB3.cell (p := ⟨w.heap.size, 1, none⟩) g1).trans a2'
  clear hb3 HB2
  have HBE := hid (bel_call hb0 HB3)
  by_cases hf : fewB x0 = true
  case neg =>
    have hf' : fewB x0 = false := by simpa using hf
    clear hf
    go_wp2
    go_ret
    exact ⟨rfl, HBE.out⟩
  by_cases he : pE x0 = 0
  case neg =>
    have he' : (pE x0 != 0) = true := by simpa using he
    clear he
    go_wp2
    go_ret
    exact ⟨rfl, HBE.out⟩
  by_cases h1 : 20 < n0
  · have d1 : decide ((20 : Int) < (n0 : Int)) = true := by simp; omega
    go_wp2
    go_ret
    exact ⟨rfl, HBE.out⟩
  have d1 : decide ((20 : Int) < (n0 : Int)) = false := by simp; omega
  by_cases h2 : 100 < n2
  · have d2 : decide ((100 : Int) < (n2 : Int)) = true := by simp; omega
    go_wp2
    go_ret
    exact ⟨rfl, HBE.out⟩
  have d2 : decide ((100 : Int) < (n2 : Int)) = false := by simp; omega
  obtain ⟨P1, P2, P3⟩ := pE_zero he
  rw [P3] at q3
  have M1 := hid P1
  have M2 := hid P2
  clear P1 P2 P3 HBE hown2
  have hWN : (Lit.int .u64 (n2 : Int)).wf = true := wf_u64 (by omega)
  have hol2 := octs_len_le [x2.T, (n2 : Int)]
  have hol : (octs [x2.T, (n2 : Int)]).length ≤ 18 := by simpa using hol2
  have HOR := hid (show octR x2 = octs [x2.T, (n2 : Int)] ++ x2.V from by simp [octR, octs, L2.out])
  have hn3 : n3 ≤ 65535 := by rw [← q3.len]; exact M2.out
  have hVV : ∀ r ∈ x0, r.V.length ≤ 100 ∨ r.V.length = 4096 := fun r hr => by
    have h1 := M1.out.small r hr
    have h2 : fewOk r = true := by (unfold fewB at hf; simp only [Bool.and_eq_true] at hf; exact List.all_eq_true.1 hf.1 r hr)
    unfold fewOk at h2
    simp at h2
    omega
  have FM := hid (few_more hVV (by rw [L0.out]; omega) (show x2.V.length ≤ 100 from by rw [L2.out]; omega) M2.out)
  have hox : (octsR x0).length ≤ 65535 := M2.out
  clear hol2 hVV
  by_cases hcut : 0 ≤ a1 ∧ a1 < (n3 : Int)
  case neg =>
    have dc : decide (0 ≤ a1) = false ∨ decide (0 ≤ a1) = true ∧ decide (a1 < (n3 : Int)) = false := by (by_cases h : 0 ≤ a1; exact .inr ⟨by simpa using h, by simp; omega⟩; exact .inl (by simpa using h))
    by_cases hz : n0 = 0
    · subst hz
      rcases dc with dc | ⟨dc, dd⟩
      · go_wp2
        go_ret
        exact ⟨rfl, bel_call hb0 HB3⟩
      · go_wp2
        go_ret
        exact ⟨rfl, bel_call hb0 HB3⟩
    have hz' : ((n0 : Int) == 0) = false := by simp; omega
    rcases dc with dc | ⟨dc, dd⟩
    · skip
      have hgw : w.heap.size < w3.heap.size := Nat.lt_of_lt_of_le g1 HB3.size
      have hwr : IntKind.u64.wrap (n2 : Int) = (n2 : Int) := IntWalk.u64_in _ (by omega)
      go_wp2_with fail
      go_region_held3 (fun w' => w'.cell? ⟨w.heap.size, 0, none⟩ = some (.int .u64 x2.T) ∧ w'.cell? ⟨w.heap.size, 1, none⟩ = some (.slice A2 n2 c2)) (first | exact ⟨k1, k2⟩ | exact two_kept HC7 hgw k1 k2 | exact two_kept HC6 hgw k1 k2 | exact two_kept HC5 hgw k1 k2 | exact two_kept (bel_alloc HC5 _) hgw k1 k2 | exact two_kept (bel_alloc (Below.refl _ _).drew _) hgw k1 k2)
        (first
          | (refine step_cat (by rfl) (.const (.slice none 0 0)) (.tmp 88) 23 (by rfl) w3.heap.size 5 .u8 1 Try.underlying23 Try.infoU8 (.slice none 0 0) [] w3.heap.size A3 n3 c3 (octsR x0) (by rfl) (by rfl) (Own.nil _ _ _ _) q3 (Nat.le_refl _) (by simp; omega) (by simp; omega) ?_; intro v5 wa hown5 hext5; have HC5 : Below w3.heap.size w3 wa := (Below.refl w3.heap.size w3).drew.trans hext5.of_nil)
          | (refine step_cat (w := w3.drew.alloc (Obj.cells #[.int .u64 x2.T, .int .u64 (n2 : Int)] 34)) (by rfl) (.const (.slice none 0 0)) (.tmp 88) 23 (by rfl) w3.heap.size 5 .u8 1 Try.underlying23 Try.infoU8 (.slice none 0 0) [] w3.heap.size A3 n3 c3 (octsR x0) (by rfl) (by rfl) (Own.nil _ _ _ _) (q3.below (bel_alloc (Below.refl _ _).drew _)) (bel_alloc (Below.refl w3.heap.size w3).drew _).size (by simp; omega) (by simp; omega) ?_; intro v5 wa hown5 hext5; have HC5 : Below w3.heap.size w3 wa := bel_call (bel_alloc (Below.refl w3.heap.size w3).drew _) hext5.of_nil; have C50 := lit_kept0 hext5.of_nil; have C51 := lit_kept1 hext5.of_nil)
          | (go_at_call 26; refine (put_any _ _ _ [x2.T, (n2 : Int)] wa (Rd.lit2 C50 C51 hT2 hWN) (by omega)).mono ?_; rintro e wb ⟨v6, rfl, hown6, hb6⟩; obtain ⟨A6, n6, c6, rfl, q6⟩ := hown6.formN; have Y6 : Below wa.heap.size wa wb := hb6; have HC6 := bel_call HC5 Y6; have hn6 : n6 ≤ 18 := (by rw [← q6.len]; exact hol))
          | (go_at_call 26; go_must (refine (put_any _ _ _ [x2.T, (n2 : Int)] (wa.alloc (Obj.cells #[.int .u64 x2.T, .int .u64 (n2 : Int)] 34)) (lit_rd hT2 hWN) (by omega)).mono ?_); rintro e wb ⟨v6, rfl, hown6, hb6⟩; obtain ⟨A6, n6, c6, rfl, q6⟩ := hown6.formN; have Y6 : Below wa.heap.size wa wb := bel_call (bel_alloc (Below.refl _ _) _) hb6; have HC6 := bel_call HC5 Y6; have hn6 : n6 ≤ 18 := (by rw [← q6.len]; exact hol))
          | (refine step_cat (by rfl) (.tmp 89) (.tmp 97) 23 (by rfl) w3.heap.size 5 .u8 1 Try.underlying23 Try.infoU8 v5 (octsR x0) wb.heap.size A6 n6 c6 (octs [x2.T, (n2 : Int)]) (by rfl) (by rfl) (hown5.below_all Y6) q6 HC6.size (by omega) (by omega) ?_; intro v7 w7 hown7 hext7; have HC7 := HC6.trans ((hown5.below_all Y6).below hext7 HC6.size)))
      all_goals
        obtain ⟨k1', k2'⟩ := two_kept HC7 hgw k1 k2
        have R7 := R2.below HC7
        have hz7 := HC7.size
        have hla : (octsR x0 ++ octs [x2.T, (n2 : Int)]).length ≤ 65553 := by rw [List.length_append]; omega
        clear hwr hown5 hext5 hext7 HC5 HC6 q6 hown6 hb6 Y6
        go_wp2_with (at_builtin; go_must (refine wpList_cat rfl (.tmp 99) (.tmp 101) 23 rfl w3.heap.size 5 .u8 1 Try.underlying23 Try.infoU8 v7 (octsR x0 ++ octs [x2.T, (n2 : Int)]) w3.heap.size A2 n2 c2 x2.V rfl rfl hown7 R7 hz7 (by omega) (by omega) ?_; intro v8 w8 hown8 hext8))
        have HC8 := HC7.trans (hown7.below hext8 hz7)
        have HB8 := bel_call HB3 HC8
        have q08 := q0.call HC8
        rw [List.append_assoc, ← HOR.out, ← octsR_snoc] at hown8
        obtain ⟨A8, n8, c8, rfl, q8⟩ := hown8.formN
        clear k1' k2' R7 hz7 hla hown7 hext8 HC7 HC8
        with_reducible refine (tlvGet_any _ _ _ _ _ q8).mono ?_
        by_cases hT : x2.T ≤ lastT x0
        · rw [getR_behind_no X0.out M1.out X2.out (by rw [L0.out]; omega) hT FM.out]
          rintro e w9 ⟨v9, rfl, hown9, hb9⟩
          obtain ⟨A9, n9, c9, rfl, q9⟩ := hown9.read
          have hn9 := q9.len
          have HB9 := bel_call HB8 hb9
          have q09 := q08.call hb9
          have k9 := (HB9.cell (p := ⟨w.heap.size, 0, none⟩) g1).trans a1'
          obtain ⟨bu, ou, _, _, _, hx, e9, hS9, c9', _, hT9, _⟩ := rec_at q09 (j := n0 - 1) (by omega)
          obtain ⟨h9', hlt9⟩ := lastT_at (acc := x0) (by rw [L0.out]; omega)
          have hidx : lastT x0 = x0[n0 - 1].T := by rw [hlt9]; simp only [L0.out]
          rw [← hidx] at c9' hT9
          subst e9
          have wj : IntKind.i64.wrap ((n0 : Int) - 1) = (n0 : Int) - 1 := IntWalk.i64_in _ (by omega)
          have tj : ((n0 : Int) - 1).toNat = n0 - 1 := by omega
          have pj : (0 : Int) ≤ (n0 : Int) - 1 := by omega
          have lj : (n0 : Int) - 1 < (n0 : Int) := by omega
          have HBE := hid (bel_call hb0 HB9)
          have dT : decide (x2.T ≤ lastT x0) = true := by simpa using hT
          have hn9' : n9 = 0 := hn9.symm
          subst hn9'
          clear hidx hlt9 h9' hn9 HB9 HB8 q08 q09 q8 hown8 hown9
          generalize lastT x0 = lt at *
          clear hT
          go_wp2_with fail
          go_quiet (fail)
          go_wp2
          go_ret
          exact ⟨rfl, bel_drewN HBE.out _⟩
        · rw [getR_behind X0.out M1.out X2.out (by rw [L0.out]; omega) (by rw [L2.out]; omega) (by omega) FM.out]
          rintro e w9 ⟨v9, rfl, hown9, hb9⟩
          obtain ⟨A9, n9, c9, rfl, q9⟩ := hown9.read
          have hn9 := q9.len
          have HB9 := bel_call HB8 hb9
          have q09 := q08.call hb9
          have k9 := (HB9.cell (p := ⟨w.heap.size, 0, none⟩) g1).trans a1'
          obtain ⟨bu, ou, _, _, _, hx, e9, hS9, c9', _, hT9, _⟩ := rec_at q09 (j := n0 - 1) (by omega)
          obtain ⟨h9', hlt9⟩ := lastT_at (acc := x0) (by rw [L0.out]; omega)
          have hidx : lastT x0 = x0[n0 - 1].T := by rw [hlt9]; simp only [L0.out]
          rw [← hidx] at c9' hT9
          subst e9
          have wj : IntKind.i64.wrap ((n0 : Int) - 1) = (n0 : Int) - 1 := IntWalk.i64_in _ (by omega)
          have tj : ((n0 : Int) - 1).toNat = n0 - 1 := by omega
          have pj : (0 : Int) ≤ (n0 : Int) - 1 := by omega
          have lj : (n0 : Int) - 1 < (n0 : Int) := by omega
          have HBE := hid (bel_call hb0 HB9)
          have dT : decide (x2.T ≤ lastT x0) = false := by simp; omega
          have hn9' : n9 = n0 + 1 := by rw [← hn9, List.length_append, L0.out]; rfl
          subst hn9'
          have wp : IntKind.i64.wrap ((n0 : Int) + 1) = (n0 : Int) + 1 := IntWalk.i64_in _ (by omega)
          clear hidx hlt9 h9' hn9 HB9 HB8 q08 q09 q8 hown8 hown9
          generalize lastT x0 = lt at *
          clear hT
          go_wp2_with fail
          go_quiet (fail)
          go_wp2
          go_ret
          exact ⟨rfl, bel_drewN HBE.out _⟩
    · skip
      have hgw : w.heap.size < w3.heap.size := Nat.lt_of_lt_of_le g1 HB3.size
      have hwr : IntKind.u64.wrap (n2 : Int) = (n2 : Int) := IntWalk.u64_in _ (by omega)
      go_wp2_with fail
      go_region_held3 (fun w' => w'.cell? ⟨w.heap.size, 0, none⟩ = some (.int .u64 x2.T) ∧ w'.cell? ⟨w.heap.size, 1, none⟩ = some (.slice A2 n2 c2)) (first | exact ⟨k1, k2⟩ | exact two_kept HC7 hgw k1 k2 | exact two_kept HC6 hgw k1 k2 | exact two_kept HC5 hgw k1 k2 | exact two_kept (bel_alloc HC5 _) hgw k1 k2 | exact two_kept (bel_alloc (Below.refl _ _).drew _) hgw k1 k2)
        (first
          | (refine step_cat (by rfl) (.const (.slice none 0 0)) (.tmp 88) 23 (by rfl) w3.heap.size 5 .u8 1 Try.underlying23 Try.infoU8 (.slice none 0 0) [] w3.heap.size A3 n3 c3 (octsR x0) (by rfl) (by rfl) (Own.nil _ _ _ _) q3 (Nat.le_refl _) (by simp; omega) (by simp; omega) ?_; intro v5 wa hown5 hext5; have HC5 : Below w3.heap.size w3 wa := (Below.refl w3.heap.size w3).drew.trans hext5.of_nil)
          | (refine step_cat (w := w3.drew.alloc (Obj.cells #[.int .u64 x2.T, .int .u64 (n2 : Int)] 34)) (by rfl) (.const (.slice none 0 0)) (.tmp 88) 23 (by rfl) w3.heap.size 5 .u8 1 Try.underlying23 Try.infoU8 (.slice none 0 0) [] w3.heap.size A3 n3 c3 (octsR x0) (by rfl) (by rfl) (Own.nil _ _ _ _) (q3.below (bel_alloc (Below.refl _ _).drew _)) (bel_alloc (Below.refl w3.heap.size w3).drew _).size (by simp; omega) (by simp; omega) ?_; intro v5 wa hown5 hext5; have HC5 : Below w3.heap.size w3 wa := bel_call (bel_alloc (Below.refl w3.heap.size w3).drew _) hext5.of_nil; have C50 := lit_kept0 hext5.of_nil; have C51 := lit_kept1 hext5.of_nil)
          | (go_at_call 26; refine (put_any _ _ _ [x2.T, (n2 : Int)] wa (Rd.lit2 C50 C51 hT2 hWN) (by omega)).mono ?_; rintro e wb ⟨v6, rfl, hown6, hb6⟩; obtain ⟨A6, n6, c6, rfl, q6⟩ := hown6.formN; have Y6 : Below wa.heap.size wa wb := hb6; have HC6 := bel_call HC5 Y6; have hn6 : n6 ≤ 18 := (by rw [← q6.len]; exact hol))
          | (go_at_call 26; go_must (refine (put_any _ _ _ [x2.T, (n2 : Int)] (wa.alloc (Obj.cells #[.int .u64 x2.T, .int .u64 (n2 : Int)] 34)) (lit_rd hT2 hWN) (by omega)).mono ?_); rintro e wb ⟨v6, rfl, hown6, hb6⟩; obtain ⟨A6, n6, c6, rfl, q6⟩ := hown6.formN; have Y6 : Below wa.heap.size wa wb := bel_call (bel_alloc (Below.refl _ _) _) hb6; have HC6 := bel_call HC5 Y6; have hn6 : n6 ≤ 18 := (by rw [← q6.len]; exact hol))
          | (refine step_cat (by rfl) (.tmp 89) (.tmp 97) 23 (by rfl) w3.heap.size 5 .u8 1 Try.underlying23 Try.infoU8 v5 (octsR x0) wb.heap.size A6 n6 c6 (octs [x2.T, (n2 : Int)]) (by rfl) (by rfl) (hown5.below_all Y6) q6 HC6.size (by omega) (by omega) ?_; intro v7 w7 hown7 hext7; have HC7 := HC6.trans ((hown5.below_all Y6).below hext7 HC6.size)))
      all_goals
        obtain ⟨k1', k2'⟩ := two_kept HC7 hgw k1 k2
        have R7 := R2.below HC7
        have hz7 := HC7.size
        have hla : (octsR x0 ++ octs [x2.T, (n2 : Int)]).length ≤ 65553 := by rw [List.length_append]; omega
        clear hwr hown5 hext5 hext7 HC5 HC6 q6 hown6 hb6 Y6
        go_wp2_with (at_builtin; go_must (refine wpList_cat rfl (.tmp 99) (.tmp 101) 23 rfl w3.heap.size 5 .u8 1 Try.underlying23 Try.infoU8 v7 (octsR x0 ++ octs [x2.T, (n2 : Int)]) w3.heap.size A2 n2 c2 x2.V rfl rfl hown7 R7 hz7 (by omega) (by omega) ?_; intro v8 w8 hown8 hext8))
        have HC8 := HC7.trans (hown7.below hext8 hz7)
        have HB8 := bel_call HB3 HC8
        have q08 := q0.call HC8
        rw [List.append_assoc, ← HOR.out, ← octsR_snoc] at hown8
        obtain ⟨A8, n8, c8, rfl, q8⟩ := hown8.formN
        clear k1' k2' R7 hz7 hla hown7 hext8 HC7 HC8
        with_reducible refine (tlvGet_any _ _ _ _ _ q8).mono ?_
        by_cases hT : x2.T ≤ lastT x0
        · rw [getR_behind_no X0.out M1.out X2.out (by rw [L0.out]; omega) hT FM.out]
          rintro e w9 ⟨v9, rfl, hown9, hb9⟩
          obtain ⟨A9, n9, c9, rfl, q9⟩ := hown9.read
          have hn9 := q9.len
          have HB9 := bel_call HB8 hb9
          have q09 := q08.call hb9
          have k9 := (HB9.cell (p := ⟨w.heap.size, 0, none⟩) g1).trans a1'
          obtain ⟨bu, ou, _, _, _, hx, e9, hS9, c9', _, hT9, _⟩ := rec_at q09 (j := n0 - 1) (by omega)
          obtain ⟨h9', hlt9⟩ := lastT_at (acc := x0) (by rw [L0.out]; omega)
          have hidx : lastT x0 = x0[n0 - 1].T := by rw [hlt9]; simp only [L0.out]
          rw [← hidx] at c9' hT9
          subst e9
          have wj : IntKind.i64.wrap ((n0 : Int) - 1) = (n0 : Int) - 1 := IntWalk.i64_in _ (by omega)
          have tj : ((n0 : Int) - 1).toNat = n0 - 1 := by omega
          have pj : (0 : Int) ≤ (n0 : Int) - 1 := by omega
          have lj : (n0 : Int) - 1 < (n0 : Int) := by omega
          have HBE := hid (bel_call hb0 HB9)
          have dT : decide (x2.T ≤ lastT x0) = true := by simpa using hT
          have hn9' : n9 = 0 := hn9.symm
          subst hn9'
          clear hidx hlt9 h9' hn9 HB9 HB8 q08 q09 q8 hown8 hown9
          generalize lastT x0 = lt at *
          clear hT
          go_wp2_with fail
          go_quiet (fail)
          go_wp2
          go_ret
          exact ⟨rfl, bel_drewN HBE.out _⟩
        · rw [getR_behind X0.out M1.out X2.out (by rw [L0.out]; omega) (by rw [L2.out]; omega) (by omega) FM.out]
          rintro e w9 ⟨v9, rfl, hown9, hb9⟩
          obtain ⟨A9, n9, c9, rfl, q9⟩ := hown9.read
          have hn9 := q9.len
          have HB9 := bel_call HB8 hb9
          have q09 := q08.call hb9
          have k9 := (HB9.cell (p := ⟨w.heap.size, 0, none⟩) g1).trans a1'
          obtain ⟨bu, ou, _, _, _, hx, e9, hS9, c9', _, hT9, _⟩ := rec_at q09 (j := n0 - 1) (by omega)
          obtain ⟨h9', hlt9⟩ := lastT_at (acc := x0) (by rw [L0.out]; omega)
          have hidx : lastT x0 = x0[n0 - 1].T := by rw [hlt9]; simp only [L0.out]
          rw [← hidx] at c9' hT9
          subst e9
          have wj : IntKind.i64.wrap ((n0 : Int) - 1) = (n0 : Int) - 1 := IntWalk.i64_in _ (by omega)
          have tj : ((n0 : Int) - 1).toNat = n0 - 1 := by omega
          have pj : (0 : Int) ≤ (n0 : Int) - 1 := by omega
          have lj : (n0 : Int) - 1 < (n0 : Int) := by omega
          have HBE := hid (bel_call hb0 HB9)
          have dT : decide (x2.T ≤ lastT x0) = false := by simp; omega
          have hn9' : n9 = n0 + 1 := by rw [← hn9, List.length_append, L0.out]; rfl
          subst hn9'
          have wp : IntKind.i64.wrap ((n0 : Int) + 1) = (n0 : Int) + 1 := IntWalk.i64_in _ (by omega)
          clear hidx hlt9 h9' hn9 HB9 HB8 q08 q09 q8 hown8 hown9
          generalize lastT x0 = lt at *
          clear hT
          go_wp2_with fail
          go_quiet (fail)
          go_wp2
          go_ret
          exact ⟨rfl, bel_drewN HBE.out _⟩
  obtain ⟨hca, hcb⟩ := hcut
  obtain ⟨k, rfl⟩ := Int.eq_ofNat_of_zero_le hca
  have hk3 : k < n3 := by omega
  have hkl : k < (octsR x0).length := by rw [q3.len]; exact hk3
  have hcap3 := q3.cap
  have hup := run_upto (P := Try.prog) 23 5 Try.underlying23 Try.elemU8 Try.infoU8 A3 n3 c3 k (by omega)
  have q3u := q3.upto (Nat.le_of_lt hk3)
  have hz : n0 ≠ 0 := fun h => by
    have h1 : x0 = [] := List.eq_nil_of_length_eq_zero (by rw [L0.out]; exact h)
    rw [h1] at hkl
    simp [octsR] at hkl
  have hz' : ((n0 : Int) == 0) = false := by simp; omega
  have dk0 : decide ((0 : Int) ≤ (k : Int)) = true := by simp
  have dk1 : decide ((k : Int) < (n3 : Int)) = true := by simpa using hcb
  have GC := getR_cut X0.out M1.out M2.out hkl
  clear hkl hca
  rcases GC with ⟨j, hj, eg⟩ | eg
  · have EG := hid eg
    rw [L0.out] at hj
    have hupL := run_uptoL (P := Try.prog) 22 36 .i64 Try.underlying22 Try.elemRec Try.infoRec A0 n0 c0 j (by omega)
    clear eg
    go_wp2_with fail
    with_reducible refine (tlvGet_any _ _ _ _ _ q3u).mono ?_
    rw [EG.out]
    rintro e w4 ⟨v4, rfl, hown4, hb4⟩
    obtain ⟨A4, n4, c4, rfl, q4⟩ := hown4.read
    have hn4 : n4 = j := by rw [← q4.len, List.length_take, L0.out]; omega
    subst hn4
    have HB4 := bel_call HB3 hb4
    replace q0 := q0.call hb4
    replace R2 := (R2.below hb4).more hb4.size
    replace q3 := (q3.below hb4).more hb4.size
    replace k1 := (HB4.cell (p := ⟨w.heap.size, 0, none⟩) g1).trans a1'
    replace k2 := (HB4.cell (p := ⟨w.heap.size, 1, none⟩) g1).trans a2'
    clear hb4 HB3
    have dj : decide ((n0 : Int) ≤ (n4 : Int)) = false := by simp; omega
    have q0u := q0.upto (Nat.le_of_lt hj)
    have dm : decide (x0.take n4 = x0.take n4) = true := by simp
    go_wp2_with fail
    with_reducible refine (tlvSame_any _ _ _ _ _ _ _ _ _ q4 q0u).mono ?_
    rintro e w5 ⟨rfl, hb5⟩
    have HB5 := bel_call HB4 hb5
    replace q0 := q0.call hb5
    replace R2 := (R2.below hb5).more hb5.size
    replace q3 := (q3.below hb5).more hb5.size
    replace k1 := (HB5.cell (p := ⟨w.heap.size, 0, none⟩) g1).trans a1'
    replace k2 := (HB5.cell (p := ⟨w.heap.size, 1, none⟩) g1).trans a2'
    clear hb5 HB4
    clear hupL hup q3u q0u q4 hown4 EG
    have hgw : w.heap.size < w5.heap.size := Nat.lt_of_lt_of_le g1 HB5.size
    have hwr : IntKind.u64.wrap (n2 : Int) = (n2 : Int) := IntWalk.u64_in _ (by omega)
    go_wp2_with fail
    go_region_held3 (fun w' => w'.cell? ⟨w.heap.size, 0, none⟩ = some (.int .u64 x2.T) ∧ w'.cell? ⟨w.heap.size, 1, none⟩ = some (.slice A2 n2 c2)) (first | exact ⟨k1, k2⟩ | exact two_kept HC7 hgw k1 k2 | exact two_kept HC6 hgw k1 k2 | exact two_kept HC5 hgw k1 k2 | exact two_kept (bel_alloc HC5 _) hgw k1 k2 | exact two_kept (bel_alloc (Below.refl _ _).drew _) hgw k1 k2)
      (first
        | (refine step_cat (by rfl) (.const (.slice none 0 0)) (.tmp 88) 23 (by rfl) w5.heap.size 5 .u8 1 Try.underlying23 Try.infoU8 (.slice none 0 0) [] w5.heap.size A3 n3 c3 (octsR x0) (by rfl) (by rfl) (Own.nil _ _ _ _) q3 (Nat.le_refl _) (by simp; omega) (by simp; omega) ?_; intro v5 wa hown5 hext5; have HC5 : Below w5.heap.size w5 wa := (Below.refl w5.heap.size w5).drew.trans hext5.of_nil)
        | (refine step_cat (w := w5.drew.alloc (Obj.cells #[.int .u64 x2.T, .int .u64 (n2 : Int)] 34)) (by rfl) (.const (.slice none 0 0)) (.tmp 88) 23 (by rfl) w5.heap.size 5 .u8 1 Try.underlying23 Try.infoU8 (.slice none 0 0) [] w5.heap.size A3 n3 c3 (octsR x0) (by rfl) (by rfl) (Own.nil _ _ _ _) (q3.below (bel_alloc (Below.refl _ _).drew _)) (bel_alloc (Below.refl w5.heap.size w5).drew _).size (by simp; omega) (by simp; omega) ?_; intro v5 wa hown5 hext5; have HC5 : Below w5.heap.size w5 wa := bel_call (bel_alloc (Below.refl w5.heap.size w5).drew _) hext5.of_nil; have C50 := lit_kept0 hext5.of_nil; have C51 := lit_kept1 hext5.of_nil)
        | (go_at_call 26; refine (put_any _ _ _ [x2.T, (n2 : Int)] wa (Rd.lit2 C50 C51 hT2 hWN) (by omega)).mono ?_; rintro e wb ⟨v6, rfl, hown6, hb6⟩; obtain ⟨A6, n6, c6, rfl, q6⟩ := hown6.formN; have Y6 : Below wa.heap.size wa wb := hb6; have HC6 := bel_call HC5 Y6; have hn6 : n6 ≤ 18 := (by rw [← q6.len]; exact hol))
        | (go_at_call 26; go_must (refine (put_any _ _ _ [x2.T, (n2 : Int)] (wa.alloc (Obj.cells #[.int .u64 x2.T, .int .u64 (n2 : Int)] 34)) (lit_rd hT2 hWN) (by omega)).mono ?_); rintro e wb ⟨v6, rfl, hown6, hb6⟩; obtain ⟨A6, n6, c6, rfl, q6⟩ := hown6.formN; have Y6 : Below wa.heap.size wa wb := bel_call (bel_alloc (Below.refl _ _) _) hb6; have HC6 := bel_call HC5 Y6; have hn6 : n6 ≤ 18 := (by rw [← q6.len]; exact hol))
        | (refine step_cat (by rfl) (.tmp 89) (.tmp 97) 23 (by rfl) w5.heap.size 5 .u8 1 Try.underlying23 Try.infoU8 v5 (octsR x0) wb.heap.size A6 n6 c6 (octs [x2.T, (n2 : Int)]) (by rfl) (by rfl) (hown5.below_all Y6) q6 HC6.size (by omega) (by omega) ?_; intro v7 w7 hown7 hext7; have HC7 := HC6.trans ((hown5.below_all Y6).below hext7 HC6.size)))
    all_goals
      obtain ⟨k1', k2'⟩ := two_kept HC7 hgw k1 k2
      have R7 := R2.below HC7
      have hz7 := HC7.size
      have hla : (octsR x0 ++ octs [x2.T, (n2 : Int)]).length ≤ 65553 := by rw [List.length_append]; omega
      clear hwr hown5 hext5 hext7 HC5 HC6 q6 hown6 hb6 Y6
      go_wp2_with (at_builtin; go_must (refine wpList_cat rfl (.tmp 99) (.tmp 101) 23 rfl w5.heap.size 5 .u8 1 Try.underlying23 Try.infoU8 v7 (octsR x0 ++ octs [x2.T, (n2 : Int)]) w5.heap.size A2 n2 c2 x2.V rfl rfl hown7 R7 hz7 (by omega) (by omega) ?_; intro v8 w8 hown8 hext8))
      have HC8 := HC7.trans (hown7.below hext8 hz7)
      have HB8 := bel_call HB5 HC8
      have q08 := q0.call HC8
      rw [List.append_assoc, ← HOR.out, ← octsR_snoc] at hown8
      obtain ⟨A8, n8, c8, rfl, q8⟩ := hown8.formN
      clear k1' k2' R7 hz7 hla hown7 hext8 HC7 HC8
      with_reducible refine (tlvGet_any _ _ _ _ _ q8).mono ?_
      by_cases hT : x2.T ≤ lastT x0
      · rw [getR_behind_no X0.out M1.out X2.out (by rw [L0.out]; omega) hT FM.out]
        rintro e w9 ⟨v9, rfl, hown9, hb9⟩
        obtain ⟨A9, n9, c9, rfl, q9⟩ := hown9.read
        have hn9 := q9.len
        have HB9 := bel_call HB8 hb9
        have q09 := q08.call hb9
        have k9 := (HB9.cell (p := ⟨w.heap.size, 0, none⟩) g1).trans a1'
        obtain ⟨bu, ou, _, _, _, hx, e9, hS9, c9', _, hT9, _⟩ := rec_at q09 (j := n0 - 1) (by omega)
        obtain ⟨h9', hlt9⟩ := lastT_at (acc := x0) (by rw [L0.out]; omega)
        have hidx : lastT x0 = x0[n0 - 1].T := by rw [hlt9]; simp only [L0.out]
        rw [← hidx] at c9' hT9
        subst e9
        have wj : IntKind.i64.wrap ((n0 : Int) - 1) = (n0 : Int) - 1 := IntWalk.i64_in _ (by omega)
        have tj : ((n0 : Int) - 1).toNat = n0 - 1 := by omega
        have pj : (0 : Int) ≤ (n0 : Int) - 1 := by omega
        have lj : (n0 : Int) - 1 < (n0 : Int) := by omega
        have HBE := hid (bel_call hb0 HB9)
        have dT : decide (x2.T ≤ lastT x0) = true := by simpa using hT
        have hn9' : n9 = 0 := hn9.symm
        subst hn9'
        clear hidx hlt9 h9' hn9 HB9 HB8 q08 q09 q8 hown8 hown9
        generalize lastT x0 = lt at *
        clear hT
        go_wp2_with fail
        go_quiet (fail)
        go_wp2
        go_ret
        exact ⟨rfl, bel_drewN HBE.out _⟩
      · rw [getR_behind X0.out M1.out X2.out (by rw [L0.out]; omega) (by rw [L2.out]; omega) (by omega) FM.out]
        rintro e w9 ⟨v9, rfl, hown9, hb9⟩
        obtain ⟨A9, n9, c9, rfl, q9⟩ := hown9.read
        have hn9 := q9.len
        have HB9 := bel_call HB8 hb9
        have q09 := q08.call hb9
        have k9 := (HB9.cell (p := ⟨w.heap.size, 0, none⟩) g1).trans a1'
        obtain ⟨bu, ou, _, _, _, hx, e9, hS9, c9', _, hT9, _⟩ := rec_at q09 (j := n0 - 1) (by omega)
        obtain ⟨h9', hlt9⟩ := lastT_at (acc := x0) (by rw [L0.out]; omega)
        have hidx : lastT x0 = x0[n0 - 1].T := by rw [hlt9]; simp only [L0.out]
        rw [← hidx] at c9' hT9
        subst e9
        have wj : IntKind.i64.wrap ((n0 : Int) - 1) = (n0 : Int) - 1 := IntWalk.i64_in _ (by omega)
        have tj : ((n0 : Int) - 1).toNat = n0 - 1 := by omega
        have pj : (0 : Int) ≤ (n0 : Int) - 1 := by omega
        have lj : (n0 : Int) - 1 < (n0 : Int) := by omega
        have HBE := hid (bel_call hb0 HB9)
        have dT : decide (x2.T ≤ lastT x0) = false := by simp; omega
        have hn9' : n9 = n0 + 1 := by rw [← hn9, List.length_append, L0.out]; rfl
        subst hn9'
        have wp : IntKind.i64.wrap ((n0 : Int) + 1) = (n0 : Int) + 1 := IntWalk.i64_in _ (by omega)
        clear hidx hlt9 h9' hn9 HB9 HB8 q08 q09 q8 hown8 hown9
        generalize lastT x0 = lt at *
        clear hT
        go_wp2_with fail
        go_quiet (fail)
        go_wp2
        go_ret
        exact ⟨rfl, bel_drewN HBE.out _⟩
  · have EG := hid eg
    clear eg
    go_wp2_with fail
    with_reducible refine (tlvGet_any _ _ _ _ _ q3u).mono ?_
    rw [EG.out]
    rintro e w4 ⟨v4, rfl, hown4, hb4⟩
    obtain ⟨A4, n4, c4, rfl, q4⟩ := hown4.read
    have hn4 : n4 = 0 := q4.len.symm
    subst hn4
    have HB4 := bel_call HB3 hb4
    replace q0 := q0.call hb4
    replace R2 := (R2.below hb4).more hb4.size
    replace q3 := (q3.below hb4).more hb4.size
    replace k1 := (HB4.cell (p := ⟨w.heap.size, 0, none⟩) g1).trans a1'
    replace k2 := (HB4.cell (p := ⟨w.heap.size, 1, none⟩) g1).trans a2'
    clear hb4 HB3
    clear hup q3u q4 hown4 EG
    have hgw : w.heap.size < w4.heap.size := Nat.lt_of_lt_of_le g1 HB4.size
    have hwr : IntKind.u64.wrap (n2 : Int) = (n2 : Int) := IntWalk.u64_in _ (by omega)
    go_wp2_with fail
    go_region_held3 (fun w' => w'.cell? ⟨w.heap.size, 0, none⟩ = some (.int .u64 x2.T) ∧ w'.cell? ⟨w.heap.size, 1, none⟩ = some (.slice A2 n2 c2)) (first | exact ⟨k1, k2⟩ | exact two_kept HC7 hgw k1 k2 | exact two_kept HC6 hgw k1 k2 | exact two_kept HC5 hgw k1 k2 | exact two_kept (bel_alloc HC5 _) hgw k1 k2 | exact two_kept (bel_alloc (Below.refl _ _).drew _) hgw k1 k2)
      (first
        | (refine step_cat (by rfl) (.const (.slice none 0 0)) (.tmp 88) 23 (by rfl) w4.heap.size 5 .u8 1 Try.underlying23 Try.infoU8 (.slice none 0 0) [] w4.heap.size A3 n3 c3 (octsR x0) (by rfl) (by rfl) (Own.nil _ _ _ _) q3 (Nat.le_refl _) (by simp; omega) (by simp; omega) ?_; intro v5 wa hown5 hext5; have HC5 : Below w4.heap.size w4 wa := (Below.refl w4.heap.size w4).drew.trans hext5.of_nil)
        | (refine step_cat (w := w4.drew.alloc (Obj.cells #[.int .u64 x2.T, .int .u64 (n2 : Int)] 34)) (by rfl) (.const (.slice none 0 0)) (.tmp 88) 23 (by rfl) w4.heap.size 5 .u8 1 Try.underlying23 Try.infoU8 (.slice none 0 0) [] w4.heap.size A3 n3 c3 (octsR x0) (by rfl) (by rfl) (Own.nil _ _ _ _) (q3.below (bel_alloc (Below.refl _ _).drew _)) (bel_alloc (Below.refl w4.heap.size w4).drew _).size (by simp; omega) (by simp; omega) ?_; intro v5 wa hown5 hext5; have HC5 : Below w4.heap.size w4 wa := bel_call (bel_alloc (Below.refl w4.heap.size w4).drew _) hext5.of_nil; have C50 := lit_kept0 hext5.of_nil; have C51 := lit_kept1 hext5.of_nil)
        | (go_at_call 26; refine (put_any _ _ _ [x2.T, (n2 : Int)] wa (Rd.lit2 C50 C51 hT2 hWN) (by omega)).mono ?_; rintro e wb ⟨v6, rfl, hown6, hb6⟩; obtain ⟨A6, n6, c6, rfl, q6⟩ := hown6.formN; have Y6 : Below wa.heap.size wa wb := hb6; have HC6 := bel_call HC5 Y6; have hn6 : n6 ≤ 18 := (by rw [← q6.len]; exact hol))
        | (go_at_call 26; go_must (refine (put_any _ _ _ [x2.T, (n2 : Int)] (wa.alloc (Obj.cells #[.int .u64 x2.T, .int .u64 (n2 : Int)] 34)) (lit_rd hT2 hWN) (by omega)).mono ?_); rintro e wb ⟨v6, rfl, hown6, hb6⟩; obtain ⟨A6, n6, c6, rfl, q6⟩ := hown6.formN; have Y6 : Below wa.heap.size wa wb := bel_call (bel_alloc (Below.refl _ _) _) hb6; have HC6 := bel_call HC5 Y6; have hn6 : n6 ≤ 18 := (by rw [← q6.len]; exact hol))
        | (refine step_cat (by rfl) (.tmp 89) (.tmp 97) 23 (by rfl) w4.heap.size 5 .u8 1 Try.underlying23 Try.infoU8 v5 (octsR x0) wb.heap.size A6 n6 c6 (octs [x2.T, (n2 : Int)]) (by rfl) (by rfl) (hown5.below_all Y6) q6 HC6.size (by omega) (by omega) ?_; intro v7 w7 hown7 hext7; have HC7 := HC6.trans ((hown5.below_all Y6).below hext7 HC6.size)))
    all_goals
      obtain ⟨k1', k2'⟩ := two_kept HC7 hgw k1 k2
      have R7 := R2.below HC7
      have hz7 := HC7.size
      have hla : (octsR x0 ++ octs [x2.T, (n2 : Int)]).length ≤ 65553 := by rw [List.length_append]; omega
      clear hwr hown5 hext5 hext7 HC5 HC6 q6 hown6 hb6 Y6
      go_wp2_with (at_builtin; go_must (refine wpList_cat rfl (.tmp 99) (.tmp 101) 23 rfl w4.heap.size 5 .u8 1 Try.underlying23 Try.infoU8 v7 (octsR x0 ++ octs [x2.T, (n2 : Int)]) w4.heap.size A2 n2 c2 x2.V rfl rfl hown7 R7 hz7 (by omega) (by omega) ?_; intro v8 w8 hown8 hext8))
      have HC8 := HC7.trans (hown7.below hext8 hz7)
      have HB8 := bel_call HB4 HC8
      have q08 := q0.call HC8
      rw [List.append_assoc, ← HOR.out, ← octsR_snoc] at hown8
      obtain ⟨A8, n8, c8, rfl, q8⟩ := hown8.formN
      clear k1' k2' R7 hz7 hla hown7 hext8 HC7 HC8
      with_reducible refine (tlvGet_any _ _ _ _ _ q8).mono ?_
      by_cases hT : x2.T ≤ lastT x0
      · rw [getR_behind_no X0.out M1.out X2.out (by rw [L0.out]; omega) hT FM.out]
        rintro e w9 ⟨v9, rfl, hown9, hb9⟩
        obtain ⟨A9, n9, c9, rfl, q9⟩ := hown9.read
        have hn9 := q9.len
        have HB9 := bel_call HB8 hb9
        have q09 := q08.call hb9
        have k9 := (HB9.cell (p := ⟨w.heap.size, 0, none⟩) g1).trans a1'
        obtain ⟨bu, ou, _, _, _, hx, e9, hS9, c9', _, hT9, _⟩ := rec_at q09 (j := n0 - 1) (by omega)
        obtain ⟨h9', hlt9⟩ := lastT_at (acc := x0) (by rw [L0.out]; omega)
        have hidx : lastT x0 = x0[n0 - 1].T := by rw [hlt9]; simp only [L0.out]
        rw [← hidx] at c9' hT9
        subst e9
        have wj : IntKind.i64.wrap ((n0 : Int) - 1) = (n0 : Int) - 1 := IntWalk.i64_in _ (by omega)
        have tj : ((n0 : Int) - 1).toNat = n0 - 1 := by omega
        have pj : (0 : Int) ≤ (n0 : Int) - 1 := by omega
        have lj : (n0 : Int) - 1 < (n0 : Int) := by omega
        have HBE := hid (bel_call hb0 HB9)
        have dT : decide (x2.T ≤ lastT x0) = true := by simpa using hT
        have hn9' : n9 = 0 := hn9.symm
        subst hn9'
        clear hidx hlt9 h9' hn9 HB9 HB8 q08 q09 q8 hown8 hown9
        generalize lastT x0 = lt at *
        clear hT
        go_wp2_with fail
        go_quiet (fail)
        go_wp2
        go_ret
        exact ⟨rfl, bel_drewN HBE.out _⟩
      · rw [getR_behind X0.out M1.out X2.out (by rw [L0.out]; omega) (by rw [L2.out]; omega) (by omega) FM.out]
        rintro e w9 ⟨v9, rfl, hown9, hb9⟩
        obtain ⟨A9, n9, c9, rfl, q9⟩ := hown9.read
        have hn9 := q9.len
        have HB9 := bel_call HB8 hb9
        have q09 := q08.call hb9
        have k9 := (HB9.cell (p := ⟨w.heap.size, 0, none⟩) g1).trans a1'
        obtain ⟨bu, ou, _, _, _, hx, e9, hS9, c9', _, hT9, _⟩ := rec_at q09 (j := n0 - 1) (by omega)
        obtain ⟨h9', hlt9⟩ := lastT_at (acc := x0) (by rw [L0.out]; omega)
        have hidx : lastT x0 = x0[n0 - 1].T := by rw [hlt9]; simp only [L0.out]
        rw [← hidx] at c9' hT9
        subst e9
        have wj : IntKind.i64.wrap ((n0 : Int) - 1) = (n0 : Int) - 1 := IntWalk.i64_in _ (by omega)
        have tj : ((n0 : Int) - 1).toNat = n0 - 1 := by omega
        have pj : (0 : Int) ≤ (n0 : Int) - 1 := by omega
        have lj : (n0 : Int) - 1 < (n0 : Int) := by omega
        have HBE := hid (bel_call hb0 HB9)
        have dT : decide (x2.T ≤ lastT x0) = false := by simp; omega
        have hn9' : n9 = n0 + 1 := by rw [← hn9, List.length_append, L0.out]; rfl
        subst hn9'
        have wp : IntKind.i64.wrap ((n0 : Int) + 1) = (n0 : Int) + 1 := IntWalk.i64_in _ (by omega)
        clear hidx hlt9 h9' hn9 HB9 HB8 q08 q09 q8 hown8 hown9
        generalize lastT x0 = lt at *
        clear hT
        go_wp2_with fail
        go_quiet (fail)
        go_wp2
        go_ret
        exact ⟨rfl, bel_drewN HBE.out _⟩
end Go.Proofs.Ytajgjalcomhhcaa
