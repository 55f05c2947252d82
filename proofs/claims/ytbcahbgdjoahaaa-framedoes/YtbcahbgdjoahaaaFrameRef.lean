/-
  The contracts of the document's own answers of layer 3: long, Same, SameTexts, Put, Check, Wants.
-/
import Derived.Test.YtbcahbgdjoahaaaFrameMath
import Derived.Test.YtbcahbgdjoahaaaStd
import Derived.Test.YtbcahbgdjoahaaaRet
import Derived.Test.YtbcahbgdjoahaaaBigsizeSame
namespace Go.Proofs.Ytbcahbgdjoahaaa
open Go.RowKit Go.WalkArith

theorem oct_of {w : World} {B : Nat} {A : Option Addr} {n c : Nat} {xs : List Int} (h : Rd w B .u8 A n c xs) : Oct xs := fun x hx => bounds_u8 (h.wf x hx)

set_option maxHeartbeats 1000000 in
theorem long_any (A : Option Addr) (n c B : Nat) (xs : List Int) (w : World) (hr : Rd w B .u8 A n c xs) (hn : 2 ≤ n) :
    Calls Try.prog 25 #[.slice A n c] w fun e w' => e = .returned (.int .i64 (longN xs)) ∧ ∃ m, w' = w.drewN m := by
  have hcap := hr.cap
  unfold maxLen at hcap
  obtain ⟨b, off, rfl, hb, hcell⟩ := hr.at_ (by omega)
  have h0 := hcell 0 (by omega)
  have h1 := hcell 1 (by omega)
  simp only [Nat.add_zero] at h0
  have b0 := nth_bd (oct_of hr) 0
  have b1 := nth_bd (oct_of hr) 1
  unfold longN
  generalize nth xs 0 = x at *
  generalize nth xs 1 = y at *
  have hn0 : (0 : Int) < (n : Int) := by omega
  have hn1 : (1 : Int) < (n : Int) := by omega
  have w1 : IntKind.i64.wrap (256 * x) = 256 * x := IntWalk.i64_in _ (by omega)
  have w2 : IntKind.i64.wrap (256 * x + y) = 256 * x + y := IntWalk.i64_in _ (by omega)
  have w3 : IntKind.i64.wrap x = x := IntWalk.i64_in _ (by omega)
  have w4 : IntKind.i64.wrap y = y := IntWalk.i64_in _ (by omega)
  clear hcell hr
  go_enter Try.func25, Try.ntmps25
  go_wp2_with fail
  go_quiet (fail)
  go_wp2
  go_ret
  exact ⟨rfl, _, rfl⟩

set_option maxHeartbeats 1000000 in
theorem refSameF_any (s1 s2 : Array Value) (x y : Rdr) (w : World) (h1 : lay_Reader.rep w (· < w.heap.size) x s1.toList) (h2 : lay_Reader.rep w (· < w.heap.size) y s2.toList) :
    Calls Try.prog 15 #[.agg s1, .agg s2] w fun e w' => e = .returned (.bool (decide (x = y))) ∧ Below w.heap.size w w' := by
  obtain ⟨A1, n1, c1, hc1, hV1⟩ := rep_Reader.1 h1
  obtain rfl : s1 = #[.slice A1 n1 c1, .bool x.Bad] := Array.ext' hc1
  obtain ⟨A2, n2, c2, hc2, hV2⟩ := rep_Reader.1 h2
  obtain rfl : s2 = #[.slice A2 n2 c2, .bool y.Bad] := Array.ext' hc2
  have hb0 : Below w.heap.size w ((w.alloc (Obj.cells #[.slice A1 n1 c1, .bool x.Bad] 24)).alloc (Obj.cells #[.slice A2 n2 c2, .bool y.Bad] 24)) := bel_alloc (bel_alloc (Below.refl _ _) _) _
  have R1 := hid ((hV1.rd (B := w.heap.size) fun _ h => h).below hb0)
  have R2 := hid ((hV2.rd (B := w.heap.size) fun _ h => h).below hb0)
  clear hV1 hV2 h1 h2 hc1 hc2
  by_cases ht : x.Bad = y.Bad
  · have hbe : (x.Bad == y.Bad) = true := by simpa using ht
    have HD := hid (show decide (x = y) = decide (x.B = y.B) from by
      by_cases hv : x.B = y.B
      · rw [decide_eq_true (by cases x; cases y; simp_all), decide_eq_true hv]
      · rw [decide_eq_false hv, decide_eq_false fun e => hv (by rw [e])])
    clear ht
    generalize x.Bad = b1 at *
    generalize y.Bad = b2 at *
    go_enter Try.func15, Try.ntmps15
    go_wp2_with (go_at_call 14; go_must (refine (sameBytes_any _ _ _ _ _ _ _ _ _ _ _ R1.out R2.out).mono ?_; rintro e w' ⟨rfl, rfl⟩))
    go_ret
    exact ⟨ret_bool HD.out.symm, hb0⟩
  · have hbe : (x.Bad == y.Bad) = false := by simpa using ht
    have HD := hid (show decide (x = y) = false from decide_eq_false fun e => ht (by rw [e]))
    clear ht
    generalize x.Bad = b1 at *
    generalize y.Bad = b2 at *
    go_enter Try.func15, Try.ntmps15
    go_wp2
    go_ret
    exact ⟨ret_bool HD.out.symm, hb0⟩

/-- The j-th text: its header, and its octets. -/
theorem txt_at {w : World} {S : Nat → Prop} {A : Option Addr} {n c : Nat} {l : List (List Int)} (h : Sl (Lay.slice (Lay.int .u8)) w S A n c l) {j : Nat} (hj : j < n) :
    ∃ b off A' n' c', ∃ hx : j < l.length, A = some ⟨b, off, none⟩ ∧ S b ∧ w.cell? ⟨b, off + j, none⟩ = some (.slice A' n' c') ∧ Sl (Lay.int .u8) w S A' n' c' l[j] := by
  obtain ⟨b, off, cs, hx, rfl, hb, hr, hc⟩ := h.at_ hj
  obtain ⟨A', n', c', rfl, hs⟩ := hr
  exact ⟨b, off, A', n', c', hx, rfl, hb, by simpa [Lay.slice] using hc 0 _ rfl, hs⟩
theorem take_sameL {l o : List (List Int)} {j : Nat} (hx : j < l.length) (hy : j < o.length) (h : l.take j = o.take j) (e : l[j] = o[j]) : l.take (j + 1) = o.take (j + 1) := by
  rw [List.take_succ_eq_append_getElem hx, List.take_succ_eq_append_getElem hy, h, e]

set_option maxRecDepth 100000 in
set_option maxHeartbeats 1000000 in
theorem sameTexts_any (A1 A2 : Option Addr) (n1 c1 n2 c2 : Nat) (l o : List (List Int)) (w : World) (h1 : Sl (Lay.slice (Lay.int .u8)) w (· < w.heap.size) A1 n1 c1 l) (h2 : Sl (Lay.slice (Lay.int .u8)) w (· < w.heap.size) A2 n2 c2 o) :
    Calls Try.prog 16 #[.slice A1 n1 c1, .slice A2 n2 c2] w fun e w' => e = .returned (.bool (decide (l = o))) ∧ Below w.heap.size w w' := by
  have K1 := hid h1.len
  have K2 := hid h2.len
  have k1 := h1.cap
  have k2 := h2.cap
  unfold maxLen at k1 k2
  by_cases hl : n1 = n2
  · subst hl
    have hne : ((n1 : Int) != (n1 : Int)) = false := by simp
    go_enter Try.func16, Try.ntmps16
    go_wp2
    go_loopw [13] (fun i wr => ∃ j : Nat, j ≤ n1 ∧ i = .int .i64 j ∧ l.take j = o.take j ∧ Below w.heap.size w wr) (fun i _ => n1 - (intOf i).toNat)
    case atStart => exact ⟨0, Nat.zero_le _, rfl, rfl, Below.refl _ _⟩
    case round =>
      obtain ⟨j, hj, rfl, hpre, hbel⟩ := hrel
      have HP := hid hpre
      clear hpre
      by_cases hlt : j < n1
      · obtain ⟨b1, o1, A', n', c', hx1, rfl, hb1, t1, hV1⟩ := txt_at h1 hlt
        obtain ⟨b2, o2, A'', n'', c'', hx2, rfl, hb2, t2, hV2⟩ := txt_at h2 hlt
        have q1 := (hbel.cell (p := ⟨b1, o1 + j, none⟩) hb1).trans t1
        have q2 := (hbel.cell (p := ⟨b2, o2 + j, none⟩) hb2).trans t2
        have R1 := (hV1.rd (B := w.heap.size) fun _ h => h).below hbel
        have R2 := (hV2.rd (B := w.heap.size) fun _ h => h).below hbel
        clear t1 t2 hV1 hV2
        by_cases he : l[j] = o[j]
        · have HN := hid (take_sameL hx1 hx2 HP.out he)
          have hd : decide (l[j] = o[j]) = true := decide_eq_true he
          clear he
          go_wp2_with fail
          go_quiet ((go_at_call 14; exact Calls.quiet_of_same ((sameBytes_any _ _ _ _ _ _ _ _ _ _ _ (R1.drewN _) (R2.drewN _)).mono fun _ _ h => ⟨h.1, h.2.symm⟩)))
          go_wp2
          go_roundw
          case rel => exact ⟨j + 1, by omega, by go_num, HN.out, bel_drewN hbel _⟩
          case measure => simp [intOf]; omega
        · have HN := hid (show decide (l = o) = false from decide_eq_false fun e => he (by simp only [e]))
          have hd : decide (l[j] = o[j]) = false := decide_eq_false he
          clear he
          go_wp2_with fail
          go_quiet ((go_at_call 14; exact Calls.quiet_of_same ((sameBytes_any _ _ _ _ _ _ _ _ _ _ _ (R1.drewN _) (R2.drewN _)).mono fun _ _ h => ⟨h.1, h.2.symm⟩)))
          go_wp2
          go_ret
          exact ⟨ret_bool HN.out.symm, bel_drewN hbel _⟩
      · have HN := hid (show decide (l = o) = true from by
          have := HP.out
          rw [List.take_of_length_le (by rw [K1.out]; omega), List.take_of_length_le (by rw [K2.out]; omega)] at this
          exact decide_eq_true this)
        go_wp2
        go_ret
        exact ⟨ret_bool HN.out.symm, hbel⟩
  · have hne : ((n1 : Int) != (n2 : Int)) = true := by simp; omega
    have HN := hid (show decide (l = o) = false from decide_eq_false fun e => by rw [e] at K1; have a1 := K1.out; have a2 := K2.out; omega)
    go_enter Try.func16, Try.ntmps16
    go_wp2
    go_ret
    exact ⟨ret_bool HN.out.symm, Below.refl _ _⟩

/-- A literal of two elements, just laid. -/
theorem Own.lit2 (w : World) (e : TypeId) (k : IntKind) (x y : Int) (hx : (Lit.int k x).wf = true) (hy : (Lit.int k y).wf = true) : Own (w.alloc (.cells #[.int k x, .int k y] e)) w.heap.size e k (.slice (some ⟨w.heap.size, 0, none⟩) 2 2) [x, y] :=
  ⟨⟨rfl, .inr ⟨w.heap.size, 2, #[.int k x, .int k y], rfl, Nat.le_refl _, heap_alloc_new w _, Nat.le_refl _, by simp [maxLen], rfl, rfl⟩⟩, by simpa using ⟨hx, hy⟩⟩

set_option maxHeartbeats 1000000 in
theorem refPutF_any (A : Option Addr) (n c B : Nat) (xs : List Int) (w : World) (hr : Rd w B .u8 A n c xs) (hB : B ≤ w.heap.size) :
    Calls Try.prog 9 #[.slice A n c] w fun e w' => ∃ v', e = .returned (.tuple #[v', .int .i64 (ptE xs)]) ∧ Own w' w.heap.size 5 .u8 v' (ptO xs) ∧ Below w.heap.size w w' := by
  have hcap := hr.cap
  unfold maxLen at hcap
  have hl := hr.len
  by_cases h : 4096 < n
  · have H1 := hid (show ptE xs = 4 from if_pos (by omega))
    have H2 := hid (show ptO xs = [] from if_pos (by omega))
    have h' : (4096 : Int) < (n : Int) := by omega
    clear hl
    go_enter Try.func9, Try.ntmps9
    go_wp2
    go_ret2
    exact ⟨_, by rw [H1.out]; rfl, by rw [H2.out]; exact Own.nil _ _ _ _, Below.refl _ _⟩
  · have H1 := hid (show ptE xs = 0 from if_neg (by omega))
    have H2 := hid (show ptO xs = [(n : Int) / 256, (n : Int) % 256] ++ xs from by unfold ptO frameOf; rw [if_neg (by omega), hl])
    have h' : decide ((4096 : Int) < (n : Int)) = false := by simp; omega
    have W1 : (Lit.int .u8 ((n : Int) / 256)).wf = true := wf_u8 (by omega)
    have W2 : (Lit.int .u8 ((n : Int) % 256)).wf = true := wf_u8 (by omega)
    clear hl
    go_enter Try.func9, Try.ntmps9
    go_wp2_with (at_builtin; go_must (refine wpList_cat rfl _ _ 22 rfl w.heap.size 5 .u8 1 Try.underlying22 Try.infoU8 _ [(n : Int) / 256, (n : Int) % 256] B A n c xs rfl rfl (Own.lit2 _ _ _ _ _ W1 W2) (hr.alloc hB _) (by simp) (by simp; omega) (by simp; omega) ?_; intro v3 w3 hown3 hext3))
    go_ret2
    exact ⟨_, by rw [H1.out]; rfl, by rw [H2.out]; exact hown3, (bel_alloc (Below.refl _ _) _).trans ((Own.lit2 w _ .u8 _ _ W1 W2).below hext3 (by simp))⟩
end Go.Proofs.Ytbcahbgdjoahaaa
