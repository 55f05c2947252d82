/-
  The contracts of the document's own answers of layer 3: long, Same, SameTexts, Put, Check, Wants.
-/
import Derived.Test.YthcikbmekjmmlaaFrameMath
import Derived.Test.YthcikbmekjmmlaaStd
import Derived.Test.YthcikbmekjmmlaaRet
import Derived.Test.YthcikbmekjmmlaaBigsizeSame
namespace Go.Proofs.Ythcikbmekjmmlaa
open Go.RowKit Go.WalkArith

theorem oct_of {w : World} {B : Nat} {A : Option Addr} {n c : Nat} {xs : List Int} (h : Rd w B .u8 A n c xs) : Oct xs := fun x hx => bounds_u8 (h.wf x hx)

/-- The j-th text: its header, and its octets. -/
theorem txt_at {w : World} {S : Nat → Prop} {A : Option Addr} {n c : Nat} {l : List (List Int)} (h : Sl (Lay.slice (Lay.int .u8)) w S A n c l) {j : Nat} (hj : j < n) :
    ∃ b off A' n' c', ∃ hx : j < l.length, A = some ⟨b, off, none⟩ ∧ S b ∧ w.cell? ⟨b, off + j, none⟩ = some (.slice A' n' c') ∧ Sl (Lay.int .u8) w S A' n' c' l[j] := by
  obtain ⟨b, off, cs, hx, rfl, hb, hr, hc⟩ := h.at_ hj
  obtain ⟨A', n', c', rfl, hs⟩ := hr
  exact ⟨b, off, A', n', c', hx, rfl, hb, by simpa [Lay.slice] using hc 0 _ rfl, hs⟩
theorem take_sameL {l o : List (List Int)} {j : Nat} (hx : j < l.length) (hy : j < o.length) (h : l.take j = o.take j) (e : l[j] = o[j]) : l.take (j + 1) = o.take (j + 1) := by
  rw [List.take_succ_eq_append_getElem hx, List.take_succ_eq_append_getElem hy, h, e]

set_option maxRecDepth 100000 in
set_option maxHeartbeats 1000000 in
theorem sameTexts_any (A1 A2 : Option Addr) (n1 c1 n2 c2 : Nat) (l o : List (List Int)) (w : World) (h1 : Sl (Lay.slice (Lay.int .u8)) w (· < w.heap.size) A1 n1 c1 l) (h2 : Sl (Lay.slice (Lay.int .u8)) w (· < w.heap.size) A2 n2 c2 o) :
    Calls Try.prog 24 #[.slice A1 n1 c1, .slice A2 n2 c2] w fun e w' => e = .returned (.bool (decide (l = o))) ∧ Below w.heap.size w w' := by
  have K1 := hid h1.len
  have K2 := hid h2.len
  have k1 := h1.cap
  have k2 := h2.cap
  unfold maxLen at k1 k2
  by_cases hl : n1 = n2
  · subst hl
    have hne : ((n1 : Int) != (n1 : Int)) = false := by simp
    go_enter Try.func24, Try.ntmps24
    go_wp2
    go_loopw [13] (fun i wr => ∃ j : Nat, j ≤ n1 ∧ i = .int .i64 j ∧ l.take j = o.take j ∧ Below w.heap.size w wr) (fun i _ => n1 - (intOf i).toNat)
    case atStart => exact ⟨0, Nat.zero_le _, rfl, rfl, Below.refl _ _⟩
    case round =>
      obtain ⟨j, hj, rfl, hpre, hbel⟩ := hrel
      have HP := hid hpre
      clear hpre
      by_cases hlt : j < n1
      · obtain ⟨b1, o1, A', n', c', hx1, rfl, hb1, t1, hV1⟩ := txt_at h1 hlt
        obtain ⟨b2, o2, A'', n'', c'', hx2, rfl, hb2, t2, hV2⟩ := txt_at h2 hlt
        have q1 := (hbel.cell (p := ⟨b1, o1 + j, none⟩) hb1).trans t1
        have q2 := (hbel.cell (p := ⟨b2, o2 + j, none⟩) hb2).trans t2
        have R1 := (hV1.rd (B := w.heap.size) fun _ h => h).below hbel
        have R2 := (hV2.rd (B := w.heap.size) fun _ h => h).below hbel
        clear t1 t2 hV1 hV2
        by_cases he : l[j] = o[j]
        · have HN := hid (take_sameL hx1 hx2 HP.out he)
          have hd : decide (l[j] = o[j]) = true := decide_eq_true he
          clear he
          go_wp2_with fail
          go_quiet ((go_at_call 39; exact Calls.quiet_of_same ((sameBytes_any _ _ _ _ _ _ _ _ _ _ _ (R1.drewN _) (R2.drewN _)).mono fun _ _ h => ⟨h.1, h.2.symm⟩)))
          go_wp2
          go_roundw
          case rel => exact ⟨j + 1, by omega, by go_num, HN.out, bel_drewN hbel _⟩
          case measure => simp [intOf]; omega
        · have HN := hid (show decide (l = o) = false from decide_eq_false fun e => he (by simp only [e]))
          have hd : decide (l[j] = o[j]) = false := decide_eq_false he
          clear he
          go_wp2_with fail
          go_quiet ((go_at_call 39; exact Calls.quiet_of_same ((sameBytes_any _ _ _ _ _ _ _ _ _ _ _ (R1.drewN _) (R2.drewN _)).mono fun _ _ h => ⟨h.1, h.2.symm⟩)))
          go_wp2
          go_ret
          exact ⟨ret_bool HN.out.symm, bel_drewN hbel _⟩
      · have HN := hid (show decide (l = o) = true from by
          have := HP.out
          rw [List.take_of_length_le (by rw [K1.out]; omega), List.take_of_length_le (by rw [K2.out]; omega)] at this
          exact decide_eq_true this)
        go_wp2
        go_ret
        exact ⟨ret_bool HN.out.symm, hbel⟩
  · have hne : ((n1 : Int) != (n2 : Int)) = true := by simp; omega
    have HN := hid (show decide (l = o) = false from decide_eq_false fun e => by rw [e] at K1; have a1 := K1.out; have a2 := K2.out; omega)
    go_enter Try.func24, Try.ntmps24
    go_wp2
    go_ret
    exact ⟨ret_bool HN.out.symm, Below.refl _ _⟩

/-- A literal of two elements, just laid. -/
theorem Own.lit2 (w : World) (e : TypeId) (k : IntKind) (x y : Int) (hx : (Lit.int k x).wf = true) (hy : (Lit.int k y).wf = true) : Own (w.alloc (.cells #[.int k x, .int k y] e)) w.heap.size e k (.slice (some ⟨w.heap.size, 0, none⟩) 2 2) [x, y] :=
  ⟨⟨rfl, .inr ⟨w.heap.size, 2, #[.int k x, .int k y], rfl, Nat.le_refl _, heap_alloc_new w _, Nat.le_refl _, by simp [maxLen], rfl, rfl⟩⟩, by simpa using ⟨hx, hy⟩⟩

end Go.Proofs.Ythcikbmekjmmlaa
