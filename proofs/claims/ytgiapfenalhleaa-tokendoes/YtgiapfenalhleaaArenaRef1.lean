/-
  The contracts of the document's small answers of layer 5: whether two terms, or arenas, are the same, where one is, whether they are few.
-/
import Derived.Test.YtgiapfenalhleaaStd
import Derived.Test.YtgiapfenalhleaaBigsizeSame
import Derived.Test.YtgiapfenalhleaaArenaLaws
import Derived.StillTailTactics
namespace Go.Proofs.Ytgiapfenalhleaa
open Go.RowKit Go.WalkArith

theorem Trm.ext' {a b : Trm} (h1 : a.Key = b.Key) (h2 : a.Up = b.Up) (h3 : a.Text = b.Text) : a = b := by cases a; cases b; simp_all
theorem agg_Term {w : World} {S : Nat → Prop} {x : Trm} {s : Array Value} (h : lay_Term.rep w S x s.toList) : ∃ A n c, s = #[.int .u64 x.Key, .int .i64 x.Up, .slice A n c] ∧ (Lit.int .u64 x.Key).wf = true ∧ (Lit.int .i64 x.Up).wf = true ∧ Sl (Lay.int .u8) w S A n c x.Text := by
  obtain ⟨A, n, c, hc, h1, h2, h3⟩ := rep_Term.1 h
  exact ⟨A, n, c, Array.ext' hc, h1, h2, h3⟩

set_option maxHeartbeats 1000000 in
theorem refOne_any (s1 s2 : Array Value) (S : Nat → Prop) (x y : Trm) (w : World) (h1 : lay_Term.rep w S x s1.toList) (h2 : lay_Term.rep w S y s2.toList) (hS : ∀ b, S b → b < w.heap.size) :
    Calls Try.prog 47 #[.agg s1, .agg s2] w fun e w' => e = .returned (.bool (decide (x = y))) ∧ Below w.heap.size w w' := by
  obtain ⟨A1, n1, c1, rfl, -, -, hV1⟩ := agg_Term h1
  obtain ⟨A2, n2, c2, rfl, -, -, hV2⟩ := agg_Term h2
  have hb0 : Below w.heap.size w ((w.alloc (Obj.cells #[.int .u64 x.Key, .int .i64 x.Up, .slice A1 n1 c1] 62)).alloc (Obj.cells #[.int .u64 y.Key, .int .i64 y.Up, .slice A2 n2 c2] 62)) := bel_alloc (bel_alloc (Below.refl _ _) _) _
  have R1 := hid ((hV1.rd hS).below hb0)
  have R2 := hid ((hV2.rd hS).below hb0)
  clear hV1 hV2 h1 h2
  by_cases hk : x.Key = y.Key
  · have hk' : (x.Key == y.Key) = true := by simpa using hk
    by_cases hu : x.Up = y.Up
    · have hu' : (x.Up == y.Up) = true := by simpa using hu
      have HD := hid (show decide (x = y) = decide (x.Text = y.Text) from by
        by_cases hv : x.Text = y.Text
        · rw [decide_eq_true (Trm.ext' hk hu hv), decide_eq_true hv]
        · rw [decide_eq_false hv, decide_eq_false fun e => hv (by rw [e])])
      clear hk hu
      go_enter Try.func47, Try.ntmps47
      go_wp2_with (go_at_call 29; go_must (refine (sameBytes_any _ _ _ _ _ _ _ _ _ _ _ R1.out R2.out).mono ?_; rintro e w' ⟨rfl, rfl⟩))
      go_ret
      exact ⟨ret_bool HD.out.symm, hb0⟩
    · have hu' : (x.Up == y.Up) = false := by simpa using hu
      have HD := hid (show decide (x = y) = false from decide_eq_false fun e => hu (by rw [e]))
      clear hk hu
      go_enter Try.func47, Try.ntmps47
      go_wp2
      go_ret
      exact ⟨ret_bool HD.out.symm, hb0⟩
  · have hk' : (x.Key == y.Key) = false := by simpa using hk
    have HD := hid (show decide (x = y) = false from decide_eq_false fun e => hk (by rw [e]))
    clear hk
    go_enter Try.func47, Try.ntmps47
    go_wp2
    go_ret
    exact ⟨ret_bool HD.out.symm, hb0⟩

theorem take_sameT {l o : List Trm} {j : Nat} (hx : j < l.length) (hy : j < o.length) (h : l.take j = o.take j) (e : l[j] = o[j]) : l.take (j + 1) = o.take (j + 1) := by
  rw [List.take_succ_eq_append_getElem hx, List.take_succ_eq_append_getElem hy, h, e]
theorem cell_alloc2 {w : World} {a b : Obj} : ((w.alloc a).alloc b).heap[w.heap.size]? = some a ∧ ((w.alloc a).alloc b).heap[w.heap.size + 1]? = some b := ⟨heap_alloc2_old w a b, heap_alloc2_new w a b⟩

set_option maxRecDepth 100000 in
set_option maxHeartbeats 1000000 in
theorem refSameA_any (s1 s2 : Array Value) (l o : List Trm) (w : World) (g1 : lay_Arena.rep w (· < w.heap.size) l s1.toList) (g2 : lay_Arena.rep w (· < w.heap.size) o s2.toList) :
    Calls Try.prog 19 #[.agg s1, .agg s2] w fun e w' => e = .returned (.bool (decide (l = o))) ∧ Below w.heap.size w w' := by
  obtain ⟨A1, n1, c1, rfl, h1⟩ := agg_Arena g1
  obtain ⟨A2, n2, c2, rfl, h2⟩ := agg_Arena g2
  clear g1 g2
  have K1 := hid h1.len
  have K2 := hid h2.len
  have k1 := h1.cap
  have k2 := h2.cap
  unfold maxLen at k1 k2
  have hb0 : Below w.heap.size w ((w.alloc (Obj.cells #[.slice A1 n1 c1] 24)).alloc (Obj.cells #[.slice A2 n2 c2] 24)) := bel_alloc (bel_alloc (Below.refl _ _) _) _
  have hx1 := (cell_alloc2 (w := w) (a := Obj.cells #[.slice A1 n1 c1] 24) (b := Obj.cells #[.slice A2 n2 c2] 24)).1
  have hx2 := (cell_alloc2 (w := w) (a := Obj.cells #[.slice A1 n1 c1] 24) (b := Obj.cells #[.slice A2 n2 c2] 24)).2
  by_cases hl : n1 = n2
  · subst hl
    have hne : ((n1 : Int) != (n1 : Int)) = false := by simp
    go_enter Try.func19, Try.ntmps19
    go_wp2
    go_loopw [16] (fun i wr => ∃ j : Nat, j ≤ n1 ∧ i = .int .i64 j ∧ l.take j = o.take j ∧ wr.heap[w.heap.size]? = some (Obj.cells #[.slice A1 n1 c1] 24 (0, 0)) ∧ wr.heap[w.heap.size + 1]? = some (Obj.cells #[.slice A2 n1 c2] 24 (0, 0)) ∧ Below w.heap.size w wr) (fun i _ => n1 - (intOf i).toNat)
    case atStart => exact ⟨0, Nat.zero_le _, rfl, rfl, hx1, hx2, hb0⟩
    case round =>
      obtain ⟨j, hj, rfl, hpre, hv1, hv2, hbel⟩ := hrel
      have HP := hid hpre
      clear hpre hx1 hx2 hb0
      by_cases hlt : j < n1
      · obtain ⟨b1, o1, A', n', c', hx1, rfl, hb1, t1, u1, v1, e1, e2, hV1⟩ := trm_at h1 hlt
        obtain ⟨b2, o2, A'', n'', c'', hx2, rfl, hb2, t2, u2, v2, e3, e4, hV2⟩ := trm_at h2 hlt
        have q1 := (hbel.cell (p := ⟨b1, o1 + j * 3, none⟩) hb1).trans t1
        have q2 := (hbel.cell (p := ⟨b1, o1 + j * 3 + 1, none⟩) hb1).trans u1
        have q3 := (hbel.cell (p := ⟨b1, o1 + j * 3 + 2, none⟩) hb1).trans v1
        have q4 := (hbel.cell (p := ⟨b2, o2 + j * 3, none⟩) hb2).trans t2
        have q5 := (hbel.cell (p := ⟨b2, o2 + j * 3 + 1, none⟩) hb2).trans u2
        have q6 := (hbel.cell (p := ⟨b2, o2 + j * 3 + 2, none⟩) hb2).trans v2
        have z1 := cell_of_one hv1
        have z2 := cell_of_one hv2
        have P1 := hid (fun (W : World) (h : Below w.heap.size w W) => (show lay_Term.rep W (· < w.heap.size) l[j] #[.int .u64 l[j].Key, .int .i64 l[j].Up, .slice A' n' c'].toList from rep_Term.2 ⟨A', n', c', rfl, e1, e2, hV1.keep fun _ hp => h.cell hp⟩))
        have P2 := hid (fun (W : World) (h : Below w.heap.size w W) => (show lay_Term.rep W (· < w.heap.size) o[j] #[.int .u64 o[j].Key, .int .i64 o[j].Up, .slice A'' n'' c''].toList from rep_Term.2 ⟨A'', n'', c'', rfl, e3, e4, hV2.keep fun _ hp => h.cell hp⟩))
        clear t1 v1 t2 v2 u1 u2 hV1 hV2 e1 e2 e3 e4
        go_wp2_with fail
        go_still_tail 10, (by kernel_rfl)
        change wpList _ _ _ _ _ (wr.drewN 1)
        have hbd := bel_drewN hbel 1
        have y1 : (wr.drewN 1).heap[w.heap.size]? = some (Obj.cells #[.slice (some ⟨b1, o1, none⟩) n1 c1] 24 (0, 0)) := hv1
        have y2 : (wr.drewN 1).heap[w.heap.size + 1]? = some (Obj.cells #[.slice (some ⟨b2, o2, none⟩) n1 c2] 24 (0, 0)) := hv2
        clear q1 q2 q3 q4 q5 q6 z1 z2 hv1 hv2 hbel
        generalize wr.drewN 1 = W at *
        have HS := hid (fun (b : Nat) (h : b < w.heap.size) => Nat.lt_of_lt_of_le h hbd.size)
        by_cases he : l[j] = o[j]
        · have HN := hid (take_sameT hx1 hx2 HP.out he)
          have HD := hid (decide_eq_true he)
          clear he
          go_wp2_with (go_at_call 47; go_must (refine (refOne_any _ _ _ l[j] o[j] _ (P1.out _ hbd) (P2.out _ hbd) HS.out).mono ?_; rw [HD.out]; rintro e w2 ⟨rfl, hb2⟩))
          go_roundw
          case rel => exact ⟨j + 1, by omega, by go_num, HN.out, (hb2.block _ (lt_of_block y1)).trans y1, (hb2.block _ (lt_of_block y2)).trans y2, bel_call hbd hb2⟩
          case measure => simp [intOf]; omega
        · have HN := hid (show decide (l = o) = false from decide_eq_false fun e => he (by simp only [e]))
          have HD := hid (decide_eq_false he)
          clear he
          go_wp2_with (go_at_call 47; go_must (refine (refOne_any _ _ _ l[j] o[j] _ (P1.out _ hbd) (P2.out _ hbd) HS.out).mono ?_; rw [HD.out]; rintro e w2 ⟨rfl, hb2⟩))
          go_ret
          exact ⟨ret_bool HN.out.symm, bel_call hbd hb2⟩
      · have HN := hid (show decide (l = o) = true from by
          have := HP.out
          rw [List.take_of_length_le (by rw [K1.out]; omega), List.take_of_length_le (by rw [K2.out]; omega)] at this
          exact decide_eq_true this)
        go_wp2
        go_ret
        exact ⟨ret_bool HN.out.symm, hbel⟩
  · have hne : ((n1 : Int) != (n2 : Int)) = true := by simp; omega
    have HN := hid (show decide (l = o) = false from decide_eq_false fun e => by rw [e] at K1; have a1 := K1.out; have a2 := K2.out; omega)
    go_enter Try.func19, Try.ntmps19
    go_wp2
    go_ret
    exact ⟨ret_bool HN.out.symm, hb0⟩

theorem plc_to {x : Trm} {l : List Trm} {j : Nat} (hj : j < l.length) (h : ∀ i (hi : i < l.length), i < j → l[i] ≠ x) (e : l[j] ≠ x) : ∀ i (hi : i < l.length), i < j + 1 → l[i] ≠ x := fun i hi hij => by
  rcases Nat.lt_or_ge i j with h1 | h1
  · exact h i hi h1
  · obtain rfl : i = j := by omega
    exact e
theorem seat_no {x : Trm} {l : List Trm} {j : Nat} (hj : l.length ≤ j) (h : ∀ i (hi : i < l.length), i < j → l[i] ≠ x) : seat l x = -1 := if_neg fun hm => by
  obtain ⟨i, hi, e⟩ := List.getElem_of_mem hm
  exact h i hi (by omega) e
theorem seat_at {x : Trm} {l : List Trm} {j : Nat} (hj : j < l.length) (h : ∀ i (hi : i < l.length), i < j → l[i] ≠ x) (e : l[j] = x) : seat l x = j := by
  rw [seat, if_pos (by rw [← e]; exact List.getElem_mem hj), plc_of hj e fun i hi => h i (by omega) hi]

set_option maxRecDepth 100000 in
set_option maxHeartbeats 1000000 in
theorem refPlace_any (A : Option Addr) (n c : Nat) (s : Array Value) (l : List Trm) (x : Trm) (w : World) (h1 : Sl lay_Term w (· < w.heap.size) A n c l) (h2 : lay_Term.rep w (· < w.heap.size) x s.toList) :
    Calls Try.prog 75 #[.slice A n c, .agg s] w fun e w' => e = .returned (.int .i64 (seat l x)) ∧ Below w.heap.size w w' := by
  obtain ⟨Ax, nx, cx, rfl, g1, g2, hVx⟩ := agg_Term h2
  clear h2
  have HL := hid h1.len
  have hcap := h1.cap
  unfold maxLen at hcap
  have hb0 : Below w.heap.size w (w.alloc (Obj.cells #[.int .u64 x.Key, .int .i64 x.Up, .slice Ax nx cx] 62)) := bel_alloc (Below.refl _ _) _
  have hx0 := heap_alloc_new w (Obj.cells #[.int .u64 x.Key, .int .i64 x.Up, .slice Ax nx cx] 62)
  have PX := hid (fun (W : World) (h : Below w.heap.size w W) => (show lay_Term.rep W (· < w.heap.size) x #[.int .u64 x.Key, .int .i64 x.Up, .slice Ax nx cx].toList from rep_Term.2 ⟨Ax, nx, cx, rfl, g1, g2, hVx.keep fun _ hp => h.cell hp⟩))
  clear hVx g1 g2
  go_enter Try.func75, Try.ntmps75
  go_wp2
  go_loopw [9] (fun i wr => ∃ j : Nat, j ≤ n ∧ i = .int .i64 j ∧ (∀ i (hi : i < l.length), i < j → l[i] ≠ x) ∧ wr.heap[w.heap.size]? = some (Obj.cells #[.int .u64 x.Key, .int .i64 x.Up, .slice Ax nx cx] 62 (0, 0)) ∧ Below w.heap.size w wr) (fun i _ => n - (intOf i).toNat)
  case atStart => exact ⟨0, Nat.zero_le _, rfl, fun _ _ h => absurd h (by omega), hx0, hb0⟩
  case round =>
    obtain ⟨j, hj, rfl, hpre, hv, hbel⟩ := hrel
    have HP := hid hpre
    clear hpre hx0 hb0
    by_cases hlt : j < n
    · obtain ⟨b1, o1, A', n', c', hx1, rfl, hb1, t1, u1, v1, e1, e2, hV1⟩ := trm_at h1 hlt
      have q1 := (hbel.cell (p := ⟨b1, o1 + j * 3, none⟩) hb1).trans t1
      have q2 := (hbel.cell (p := ⟨b1, o1 + j * 3 + 1, none⟩) hb1).trans u1
      have q3 := (hbel.cell (p := ⟨b1, o1 + j * 3 + 2, none⟩) hb1).trans v1
      have hlb := lt_of_block hv
      have hlb1 : b1 < wr.heap.size := Nat.lt_of_lt_of_le hb1 hbel.size
      have P1 := hid (fun (W : World) (h : Below w.heap.size w W) => (show lay_Term.rep W (· < w.heap.size) l[j] #[.int .u64 l[j].Key, .int .i64 l[j].Up, .slice A' n' c'].toList from rep_Term.2 ⟨A', n', c', rfl, e1, e2, hV1.keep fun _ hp => h.cell hp⟩))
      have z0 : wr.cell? ⟨w.heap.size, 0, none⟩ = some (.int .u64 x.Key) := by simp [World.cell?, hv]
      have z1 : wr.cell? ⟨w.heap.size, 1, none⟩ = some (.int .i64 x.Up) := by simp [World.cell?, hv]
      have z2 : wr.cell? ⟨w.heap.size, 2, none⟩ = some (.slice Ax nx cx) := by simp [World.cell?, hv]
      have hba := hbel.alloc hbel.size (Obj.cells #[.int .u64 l[j].Key, .int .i64 l[j].Up, .slice A' n' c'] 62)
      have HS := hid (fun (b : Nat) (h : b < w.heap.size) => Nat.lt_of_lt_of_le h hba.size)
      clear t1 v1 u1 hV1 e1 e2
      by_cases he : l[j] = x
      · have HN := hid (seat_at hx1 HP.out he)
        have HD := hid (decide_eq_true he)
        clear he
        go_wp2_with (go_at_call 47; go_must (refine (refOne_any _ _ _ l[j] x _ (P1.out _ hba) (PX.out _ hba) HS.out).mono ?_; rw [HD.out]; rintro e w2 ⟨rfl, hb2⟩))
        go_ret
        exact ⟨ret_num HN.out.symm, hba.trans (hb2.mono hba.size)⟩
      · have HN := hid (plc_to hx1 HP.out he)
        have HD := hid (decide_eq_false he)
        clear he
        go_wp2_with (go_at_call 47; go_must (refine (refOne_any _ _ _ l[j] x _ (P1.out _ hba) (PX.out _ hba) HS.out).mono ?_; rw [HD.out]; rintro e w2 ⟨rfl, hb2⟩))
        go_roundw
        case rel => exact ⟨j + 1, by omega, by go_num, HN.out, (hb2.block _ (by simp; omega)).trans ((heap_alloc_old _ _ hlb).trans hv), hba.trans (hb2.mono hba.size)⟩
        case measure => simp [intOf]; omega
    · have HN := hid (seat_no (by rw [HL.out]; omega) HP.out)
      go_wp2
      go_ret
      exact ⟨ret_num HN.out.symm, hbel⟩
end Go.Proofs.Ytgiapfenalhleaa
