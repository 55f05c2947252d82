/-
  Layer 7's laws: which tokens are few.
  The contracts of the laws' own 'live' and 'bound' of layer 7.
-/
import Derived.Test.YtgiapfenalhleaaPack1
import Derived.Test.YtgiapfenalhleaaPack2
import Derived.Test.YtgiapfenalhleaaPack3
import Derived.Test.YtgiapfenalhleaaPack4
import Derived.Test.YtgiapfenalhleaaPack5
import Derived.Test.YtgiapfenalhleaaPack6
import Derived.Test.YtgiapfenalhleaaPack7
import Derived.Test.YtgiapfenalhleaaPack8
import Derived.Test.YtgiapfenalhleaaPack9
import Derived.Test.YtgiapfenalhleaaPack10
import Derived.Test.YtgiapfenalhleaaPack11
import Derived.Test.YtgiapfenalhleaaPack12
import Derived.Test.YtgiapfenalhleaaPack13
import Derived.Test.YtgiapfenalhleaaPack14
import Derived.Test.YtgiapfenalhleaaPack15
import Derived.Test.YtgiapfenalhleaaPack16
import Derived.Test.YtgiapfenalhleaaPack17
import Derived.Test.YtgiapfenalhleaaPack18
import Derived.Test.YtgiapfenalhleaaPack19
import Derived.Test.YtgiapfenalhleaaPack20
import Derived.Test.YtgiapfenalhleaaPack21
import Derived.Test.YtgiapfenalhleaaPack22
import Derived.Test.YtgiapfenalhleaaPack23
import Derived.Test.YtgiapfenalhleaaPack24
import Derived.Test.YtgiapfenalhleaaPack25
import Derived.Test.YtgiapfenalhleaaPack26
import Derived.Test.YtgiapfenalhleaaPack27
import Derived.Test.YtgiapfenalhleaaPack28
import Derived.Test.YtgiapfenalhleaaPack29
import Derived.Test.YtgiapfenalhleaaPack30
import Derived.Test.YtgiapfenalhleaaPack31
import Derived.Test.YtgiapfenalhleaaPack32
import Derived.Test.YtgiapfenalhleaaPack33
import Derived.Test.YtgiapfenalhleaaPack34
namespace Go.Proofs.Ytgiapfenalhleaa
open Go.RowKit Go.WalkArith

def fewK (l : List Tok) : Bool := l.all fun t => decide (t.L.length ≤ 20)

theorem tok_at {w : World} {S : Nat → Prop} {A : Option Addr} {n c : Nat} {l : List Tok} (h : Sl lay_Token w S A n c l) {j : Nat} (hj : j < n) :
    ∃ b off A' n' c', ∃ hx : j < l.length, A = some ⟨b, off, none⟩ ∧ S b ∧ w.cell? ⟨b, off + j * 3, none⟩ = some (.int .u64 l[j].Root) ∧ w.cell? ⟨b, off + j * 3 + 1, none⟩ = some (.slice A' n' c') ∧ w.cell? ⟨b, off + j * 3 + 2, none⟩ = some (.int .i64 l[j].Tag) ∧ (Lit.int .u64 l[j].Root).wf = true ∧ (Lit.int .i64 l[j].Tag).wf = true ∧ Sl lay_Caveat w S A' n' c' l[j].L := by
  obtain ⟨b, off, cs, hx, rfl, hb, hr, hc⟩ := h.at_ hj
  obtain ⟨A', n', c', rfl, h1, h2, h3⟩ := rep_Token.1 hr
  exact ⟨b, off, A', n', c', hx, rfl, hb, hc 0 _ rfl, hc 1 _ rfl, hc 2 _ rfl, h1, h2, h3⟩
theorem fewK_take {l : List Tok} {j : Nat} (hj : j < l.length) : fewK (l.take (j + 1)) = (fewK (l.take j) && decide (l[j].L.length ≤ 20)) := by
  unfold fewK
  rw [List.take_succ_eq_append_getElem hj, List.all_append]
  simp
theorem fewK_no {l : List Tok} {j : Nat} (hj : j < l.length) (h : ¬ l[j].L.length ≤ 20) : fewK l = false := by
  unfold fewK
  rw [List.all_eq_false]
  exact ⟨l[j], List.getElem_mem hj, by simpa using h⟩

set_option maxRecDepth 100000 in
set_option maxHeartbeats 4000000 in
theorem fewK_any (A : Option Addr) (n c : Nat) (l : List Tok) (w : World) (h : Sl lay_Token w (· < w.heap.size) A n c l) :
    Calls Try.prog 11 #[.slice A n c] w fun e w' => e = .returned (.bool (fewK l)) ∧ Below w.heap.size w w' := by
  have HL := hid h.len
  have hcap := h.cap
  unfold maxLen at hcap
  go_enter Try.func11, Try.ntmps11
  go_wp2
  go_loopw [7] (fun i wr => ∃ j : Nat, j ≤ n ∧ i = .int .i64 j ∧ fewK (l.take j) = true ∧ Below w.heap.size w wr) (fun i _ => n - (intOf i).toNat)
  case atStart => exact ⟨0, Nat.zero_le _, rfl, by simp [fewK], Below.refl _ _⟩
  case round =>
    obtain ⟨j, hj, rfl, hpre, hbel⟩ := hrel
    have HP := hid hpre
    clear hpre
    by_cases hlt : j < n
    · obtain ⟨b1, o1, A', n', c', hx1, rfl, hb1, t1, t2, t3, hw1, hw2, hs⟩ := tok_at h hlt
      have q1 := (hbel.cell (p := ⟨b1, o1 + j * 3, none⟩) hb1).trans t1
      have q2 := (hbel.cell (p := ⟨b1, o1 + j * 3 + 1, none⟩) hb1).trans t2
      have q3 := (hbel.cell (p := ⟨b1, o1 + j * 3 + 2, none⟩) hb1).trans t3
      have HT := hid (fewK_take hx1)
      have HN' := hid hs.len
      have hcp := hs.cap
      unfold maxLen at hcp
      have hba := bel_alloc hbel (Obj.cells #[.int .u64 l[j].Root, .slice A' n' c', .int .i64 l[j].Tag] 28)
      clear t1 t2 t3
      by_cases hle : n' ≤ 20
      · have d1 : decide ((20 : Int) < (n' : Int)) = false := decide_eq_false (by omega)
        have HN := hid (show fewK (l.take (j + 1)) = true from by rw [HT.out, HP.out, decide_eq_true (by rw [HN'.out]; exact hle)]; rfl)
        clear hs
        go_wp2
        go_roundw
        case rel => exact ⟨j + 1, by omega, by go_num, HN.out, hba⟩
        case measure => simp [intOf]; omega
      · have d1 : decide ((20 : Int) < (n' : Int)) = true := decide_eq_true (by omega)
        have HN := hid (fewK_no hx1 (by rw [HN'.out]; exact hle))
        clear hs
        go_wp2
        go_ret
        exact ⟨ret_bool HN.out.symm, hba⟩
    · have HN := hid (show fewK l = true from by
        have h1 := HP.out
        rw [List.take_of_length_le (by rw [HL.out]; omega)] at h1
        exact h1)
      go_wp2
      go_ret
      exact ⟨ret_bool HN.out.symm, hbel⟩
end Go.Proofs.Ytgiapfenalhleaa
namespace Go.Proofs.Ytgiapfenalhleaa
open Go.RowKit Go.WalkArith

theorem ar_rep {w w' : World} {A : Option Addr} {n c : Nat} {l : List Trm} (h : Sl lay_Term w (· < w.heap.size) A n c l) (hb : Below w.heap.size w w') : lay_Arena.rep w' (· < w'.heap.size) l #[.slice A n c].toList := rep_Arena.2 ⟨_, _, _, rfl, Sl.call h hb⟩
theorem tk_rep {w w' : World} {A : Option Addr} {n c : Nat} {r g : Int} {l : List Cav} (h : Sl lay_Caveat w (· < w.heap.size) A n c l) (hb : Below w.heap.size w w') (h1 : (Lit.int .u64 r).wf = true) (h2 : (Lit.int .i64 g).wf = true) : lay_Token.rep w' (· < w'.heap.size) ⟨r, l, g⟩ #[.int .u64 r, .slice A n c, .int .i64 g].toList := rep_Token.2 ⟨_, _, _, rfl, h1, h2, Sl.call h hb⟩

/-- The blocks from B on, but for one. -/
def Apart (B g : Nat) (w : World) (b : Nat) : Prop := B ≤ b ∧ b ≠ g ∧ b < w.heap.size
theorem Sl.apartSet {α : Type} {L : Lay α} {w : World} {B g b : Nat} {A : Option Addr} {n c : Nat} {xs : List α} (h : Sl L w (Apart B g w) A n c xs) (hb : b = g ∨ b < B) (i : Nat) (u : Value) : Sl L (w.setCell ⟨b, i, none⟩ u) (Apart B g (w.setCell ⟨b, i, none⟩ u)) A n c xs := by
  have hne : ∀ k, Apart B g w k → k ≠ b := fun k hk e => by have := hk.1; have := hk.2.1; omega
  exact (h.keep fun p hp => World.cell?_of_block (Below.heap_setCell _ _ _ _ (hne _ hp))).wide fun k hk => ⟨hk.1, hk.2.1, by simpa using hk.2.2⟩
theorem Sl.apartKeep {α : Type} {L : Lay α} {w w' : World} {B g : Nat} {A : Option Addr} {n c : Nat} {xs : List α} (h : Sl L w (Apart B g w) A n c xs) (hb : Below w.heap.size w w') : Sl L w' (Apart B g w') A n c xs :=
  (h.keep fun _ hp => hb.cell hp.2.2).wide fun _ hk => ⟨hk.1, hk.2.1, Nat.lt_of_lt_of_le hk.2.2 hb.size⟩
theorem Sl.apartAll {α : Type} {L : Lay α} {w : World} {B g : Nat} {A : Option Addr} {n c : Nat} {xs : List α} (h : Sl L w (Apart B g w) A n c xs) : Sl L w (· < w.heap.size) A n c xs := h.wide fun _ hk => hk.2.2
theorem Sl.apartNew {α : Type} {L : Lay α} {w : World} {B g lo : Nat} {A : Option Addr} {n c : Nat} {xs : List α} (h : Sl L w (From w lo) A n c xs) (h1 : B ≤ lo) (h2 : g < lo) : Sl L w (Apart B g w) A n c xs := h.wide fun k hk => ⟨by have := hk.1; omega, by have := hk.1; omega, hk.2.1⟩

set_option maxRecDepth 100000 in
set_option maxHeartbeats 2000000 in
theorem live7_any (w : World) : Calls Try.prog 9 #[] w fun e w' => e = .returned (.bool true) ∧ Below w.heap.size w w' := by
  obtain ⟨i, L, h1, h2, h3, h4, h5, h6, h7⟩ := eg7
  have HM := hid (tMint_any #[.slice none 0 0] [] 5 9 w (rep_Arena.2 ⟨_, _, _, rfl, Sl.nil _ _ _⟩) (by decide) (by decide))
  rw [h1, h2, h3] at HM
  have E5 := hid h5
  have E6 := hid h6
  have E7 := hid h7
  have hwi : (Lit.int .i64 (i : Int)).wf = true := wf_i64 (by omega)
  clear h1 h2 h3 h5 h6 h7
  go_enter Try.func9, Try.ntmps9
  go_wp2_with fail
  refine HM.out.mono ?_
  rintro e w1 ⟨v', vt, rfl, ho, ⟨u, rfl, hu⟩, hb1⟩
  obtain ⟨A8, n8, c8, rfl, hs8⟩ := ho.read
  obtain ⟨A9, n9, c9, rfl, hs9⟩ := hu.read
  have hb2 : Below w1.heap.size w1 ((w1.alloc (Obj.cells #[.slice A8 n8 c8] 24)).alloc (Obj.cells #[.int .u64 5, .slice A9 n9 c9, .int .i64 i] 28)) := bel_alloc (bel_alloc (Below.refl _ _) _) _
  have VA : Var1 ((w1.alloc (Obj.cells #[.slice A8 n8 c8] 24)).alloc (Obj.cells #[.int .u64 5, .slice A9 n9 c9, .int .i64 i] 28)) w1.heap.size 24 (.slice A8 n8 c8) := heap_alloc2_old _ _ _
  have VT : Var3 ((w1.alloc (Obj.cells #[.slice A8 n8 c8] 24)).alloc (Obj.cells #[.int .u64 5, .slice A9 n9 c9, .int .i64 i] 28)) (w1.heap.size + 1) 28 (.int .u64 5) (.slice A9 n9 c9) (.int .i64 i) := alloc2_new _ _ _
  have PA := hid (fun (W : World) (h : Below w1.heap.size w1 W) => ar_rep hs8 h)
  have PT := hid (fun (W : World) (h : Below w1.heap.size w1 W) => tk_rep hs9 h (by decide : (Lit.int .u64 5).wf = true) hwi)
  clear ho hu hs8 hs9 HM
  go_wp2_with fail
  have HB := bel_call hb1 hb2
  generalize (w1.alloc (Obj.cells #[.slice A8 n8 c8] 24)).alloc (Obj.cells #[.int .u64 5, .slice A9 n9 c9, .int .i64 i] 28) = W2 at *
  refine (tVerify_any _ _ L 9 ⟨5, [], i⟩ W2 (PA.out _ hb2) (by decide) (PT.out _ hb2)).mono ?_
  rw [E5.out, E6.out]
  rintro e w3 ⟨rfl, hb3⟩
  have q0 := (VA.call hb3).c0
  have q1 := (VT.call hb3).c0
  have q2 := (VT.call hb3).c1
  have q3 := (VT.call hb3).c2
  go_wp2_with fail
  refine (tVerify_any _ _ L 8 ⟨5, [], i⟩ w3 (PA.out _ (bel_call hb2 hb3)) (by decide) (PT.out _ (bel_call hb2 hb3))).mono ?_
  rw [E5.out, E7.out]
  rintro e w4 ⟨rfl, hb4⟩
  clear q0 q1 q2 q3
  go_wp2
  go_ret
  exact ⟨rfl, bel_call (bel_call HB hb3) hb4⟩

set_option maxRecDepth 100000 in
set_option maxHeartbeats 4000000 in
theorem bound_any (s1 : Array Value) (l : List Trm) (root key : Int) (A2 : Option Addr) (n2 c2 : Nat) (cs : List Cav) (w : World) (g1 : lay_Arena.rep w (· < w.heap.size) l s1.toList) (hr : (Lit.int .u64 root).wf = true) (hk : (Lit.int .u64 key).wf = true) (hts : Sl lay_Caveat w (· < w.heap.size) A2 n2 c2 cs) :
    Calls Try.prog 30 #[.agg s1, .int .u64 root, .int .u64 key, .slice A2 n2 c2] w fun e w' => ∃ A n c A' n' c', e = .returned (.tuple #[.agg #[.slice A n c], .agg #[.int .u64 (bnS l root key cs).t.Root, .slice A' n' c', .int .i64 (bnS l root key cs).t.Tag], .bool (decide ((bnS l root key cs).e = 0))]) ∧ Sl lay_Term w' (· < w'.heap.size) A n c (bnS l root key cs).l ∧ Sl lay_Caveat w' (· < w'.heap.size) A' n' c' (bnS l root key cs).t.L ∧ Below w.heap.size w w' := by
  obtain ⟨A1, n1, c1, rfl, hA⟩ := agg_Arena g1
  clear g1
  have HL2 := hid hts.len
  have hc2 := hts.cap
  unfold maxLen at hc2
  have hb0 : Below w.heap.size w (((w.alloc (Obj.cells #[.slice A1 n1 c1] 24)).alloc (Obj.cells #[.slice none 0 0] 24)).alloc (Obj.cells #[.int .u64 0, .slice none 0 0, .int .i64 0] 28)) := bel_alloc (bel_alloc (bel_alloc (Below.refl _ _) _) _) _
  have VR : (((w.alloc (Obj.cells #[.slice A1 n1 c1] 24)).alloc (Obj.cells #[.slice none 0 0] 24)).alloc (Obj.cells #[.int .u64 0, .slice none 0 0, .int .i64 0] 28)).heap[w.heap.size]? = some (Obj.cells #[.slice A1 n1 c1] 24 (0, 0)) ∧ (((w.alloc (Obj.cells #[.slice A1 n1 c1] 24)).alloc (Obj.cells #[.slice none 0 0] 24)).alloc (Obj.cells #[.int .u64 0, .slice none 0 0, .int .i64 0] 28)).heap[w.heap.size + 1]? = some (Obj.cells #[.slice none 0 0] 24 (0, 0)) ∧ (((w.alloc (Obj.cells #[.slice A1 n1 c1] 24)).alloc (Obj.cells #[.slice none 0 0] 24)).alloc (Obj.cells #[.int .u64 0, .slice none 0 0, .int .i64 0] 28)).heap[w.heap.size + 1 + 1]? = some (Obj.cells #[.int .u64 0, .slice none 0 0, .int .i64 0] 28 (0, 0)) := three_vars
  have HZ := hid (show (((w.alloc (Obj.cells #[.slice A1 n1 c1] 24)).alloc (Obj.cells #[.slice none 0 0] 24)).alloc (Obj.cells #[.int .u64 0, .slice none 0 0, .int .i64 0] 28)).heap.size = w.heap.size + 3 from by simp)
  have HM := hid (tMint_any #[.slice A1 n1 c1] l root key _ (ar_rep hA hb0) hr hk)
  have PS := hid (fun (W : World) (h : Below w.heap.size w W) => hts.keep (w' := W) fun _ hp => h.cell hp)
  clear hA hts
  go_enter Try.func30, Try.ntmps30
  go_wp2_with fail
  generalize ((w.alloc (Obj.cells #[.slice A1 n1 c1] 24)).alloc (Obj.cells #[.slice none 0 0] 24)).alloc (Obj.cells #[.int .u64 0, .slice none 0 0, .int .i64 0] 28) = W0 at *
  obtain ⟨q0, q1, q2⟩ := VR
  refine HM.out.mono ?_
  rintro e w1 ⟨v', vt, rfl, ho, ⟨u, rfl, hu⟩, hb1⟩
  rw [HZ.out] at ho hu
  obtain ⟨A8, n8, c8, rfl, hs8⟩ := ho.sl (Nat.le_refl _) (Nat.le_refl _)
  obtain ⟨A9, n9, c9, rfl, hs9⟩ := hu.sl (Nat.le_refl _) (Nat.le_refl _)
  have V0 : Var1 w1 w.heap.size 24 (.slice A1 n1 c1) := (hb1.block _ (by have := HZ.out; omega)).trans q0
  have V1 : Var1 w1 (w.heap.size + 1) 24 (.slice none 0 0) := (hb1.block _ (by have := HZ.out; omega)).trans q1
  have V2 : Var3 w1 (w.heap.size + 1 + 1) 28 (.int .u64 0) (.slice none 0 0) (.int .i64 0) := (hb1.block _ (by have := HZ.out; omega)).trans q2
  have HB1 := bel_call hb0 hb1
  have hz1 : w.heap.size + 3 ≤ w1.heap.size := by have := HZ.out; have := hb1.size; omega
  clear q0 q1 q2 hb0 HM hb1 HZ ho hu
  obtain ⟨b0, hb0⟩ : ∃ z, bnS l root key [] = z := ⟨_, rfl⟩
  have e0 : mtE l root key = b0.e := congrArg Bn.e hb0
  have e1 : mtT l root key = b0.t := congrArg Bn.t hb0
  have e2 : mtL l root key = b0.l := congrArg Bn.l hb0
  rw [e0, e1]
  rw [e2] at hs8
  rw [e1] at hs9
  have HB0 := hid hb0
  clear e0 e1 e2 hb0
  have hbZ := bel_alloc (Below.refl w1.heap.size w1) (Obj.cells #[.int .u64 0, .slice none 0 0, .int .i64 0] 28)
  have X0 := (V0.call hbZ).set (.slice A8 n8 c8)
  have X1 := (V1.call hbZ).setOther (b := w.heap.size) (by omega) 0 (.slice A8 n8 c8)
  have X2 := (V2.call hbZ).setOther (b := w.heap.size) (by omega) 0 (.slice A8 n8 c8)
  have XT := (Var3.new w1 28 (.int .u64 0) (.slice none 0 0) (.int .i64 0)).setOther (b := w.heap.size) (by omega) 0 (.slice A8 n8 c8)
  have HBX := (bel_call HB1 hbZ).setCell (p := ⟨w.heap.size, 0, none⟩) (Nat.le_refl _) (.slice A8 n8 c8)
  have S8 : Sl lay_Term (w1.alloc (Obj.cells #[.int .u64 0, .slice none 0 0, .int .i64 0] 28)) (Apart (w.heap.size + 3) w1.heap.size (w1.alloc (Obj.cells #[.int .u64 0, .slice none 0 0, .int .i64 0] 28))) A8 n8 c8 b0.l := (hs8.keep fun _ hp => hbZ.cell hp.2.1).wide fun b hb => ⟨hb.1, by have := hb.2.1; omega, Nat.lt_of_lt_of_le hb.2.1 hbZ.size⟩
  have S9 : Sl lay_Caveat (w1.alloc (Obj.cells #[.int .u64 0, .slice none 0 0, .int .i64 0] 28)) (Apart (w.heap.size + 3) w1.heap.size (w1.alloc (Obj.cells #[.int .u64 0, .slice none 0 0, .int .i64 0] 28))) A9 n9 c9 b0.t.L := (hs9.keep fun _ hp => hbZ.cell hp.2.1).wide fun b hb => ⟨hb.1, by have := hb.2.1; omega, Nat.lt_of_lt_of_le hb.2.1 hbZ.size⟩
  replace S8 := S8.apartSet (b := w.heap.size) (.inr (by omega)) 0 (.slice A8 n8 c8)
  replace S9 := S9.apartSet (b := w.heap.size) (.inr (by omega)) 0 (.slice A8 n8 c8)
  have a0 := (V0.call hbZ).c0
  have af := (V0.call hbZ).f
  have hsz : w1.heap.size < ((w1.alloc (Obj.cells #[.int .u64 0, .slice none 0 0, .int .i64 0] 28)).setCell ⟨w.heap.size, 0, none⟩ (.slice A8 n8 c8)).heap.size := by simp
  have t0 := XT.c0
  have t1 := XT.c1
  have t2 := XT.c2
  have f0 := XT.f 0
  have f1 := XT.f 1
  have f2 := XT.f 2
  clear V0 V1 V2 HB1 hs8 hs9 hbZ
  go_wp2
  generalize (w1.alloc (Obj.cells #[.int .u64 0, .slice none 0 0, .int .i64 0] 28)).setCell ⟨w.heap.size, 0, none⟩ (.slice A8 n8 c8) = W2 at *
  generalize w1.heap.size = g at *
  have Y0 := ((X0.setOther (b := g) (by omega) 0 (.int .u64 b0.t.Root)).setOther (b := g) (by omega) 1 (.slice A9 n9 c9)).setOther (b := g) (by omega) 2 (.int .i64 b0.t.Tag)
  have Y1 := ((X1.setOther (b := g) (by omega) 0 (.int .u64 b0.t.Root)).setOther (b := g) (by omega) 1 (.slice A9 n9 c9)).setOther (b := g) (by omega) 2 (.int .i64 b0.t.Tag)
  have Y2 := ((X2.setOther (b := g) (by omega) 0 (.int .u64 b0.t.Root)).setOther (b := g) (by omega) 1 (.slice A9 n9 c9)).setOther (b := g) (by omega) 2 (.int .i64 b0.t.Tag)
  have YT := XT.set (.int .u64 b0.t.Root) (.slice A9 n9 c9) (.int .i64 b0.t.Tag)
  have R8 := ((S8.apartSet (b := g) (.inl rfl) 0 (.int .u64 b0.t.Root)).apartSet (b := g) (.inl rfl) 1 (.slice A9 n9 c9)).apartSet (b := g) (.inl rfl) 2 (.int .i64 b0.t.Tag)
  have R9 := ((S9.apartSet (b := g) (.inl rfl) 0 (.int .u64 b0.t.Root)).apartSet (b := g) (.inl rfl) 1 (.slice A9 n9 c9)).apartSet (b := g) (.inl rfl) 2 (.int .i64 b0.t.Tag)
  have HBY := ((HBX.setCell (p := ⟨g, 0, none⟩) (by show w.heap.size ≤ g; omega) (.int .u64 b0.t.Root)).setCell (p := ⟨g, 1, none⟩) (by show w.heap.size ≤ g; omega) (.slice A9 n9 c9)).setCell (p := ⟨g, 2, none⟩) (by show w.heap.size ≤ g; omega) (.int .i64 b0.t.Tag)
  clear X0 X1 X2 XT S8 S9 HBX t0 t1 t2 f0 f1 f2 a0 af hsz
  generalize ((W2.setCell ⟨g, 0, none⟩ (.int .u64 b0.t.Root)).setCell ⟨g, 1, none⟩ (.slice A9 n9 c9)).setCell ⟨g, 2, none⟩ (.int .i64 b0.t.Tag) = W3 at *
  have HT0 := hid (show bnS l root key (cs.take 0) = b0 from by rw [List.take_zero]; exact HB0.out)
  go_loopw [12, 25] (fun er i wr => ∃ (j : Nat) (s : Bn) (A : Option Addr) (n c : Nat) (A' : Option Addr) (n' c' : Nat), j ≤ n2 ∧ i = .int .i64 j ∧ Hid (bnS l root key (cs.take j) = s) ∧ er = .int .i64 s.e ∧ Var1 wr w.heap.size 24 (.slice A n c) ∧ Var1 wr (w.heap.size + 1) 24 (.slice none 0 0) ∧ Var3 wr (w.heap.size + 1 + 1) 28 (.int .u64 0) (.slice none 0 0) (.int .i64 0) ∧ Var3 wr g 28 (.int .u64 s.t.Root) (.slice A' n' c') (.int .i64 s.t.Tag) ∧ Sl lay_Term wr (Apart (w.heap.size + 3) g wr) A n c s.l ∧ Sl lay_Caveat wr (Apart (w.heap.size + 3) g wr) A' n' c' s.t.L ∧ Below w.heap.size w wr) (fun _ i _ => n2 - (intOf i).toNat)
  case atStart => exact ⟨0, b0, A8, n8, c8, A9, n9, c9, Nat.zero_le _, rfl, HT0, rfl, Y0, Y1, Y2, YT, R8, R9, HBY⟩
  case round =>
    obtain ⟨j, s, A, n, c, A', n', c', hj, rfl, HS, rfl, V0, V1, V2, VT, S8, S9, hbel⟩ := hrel
    clear Y0 Y1 Y2 YT R8 R9 HBY HT0 HB0
    have hg := VT.lt
    have hg0 := V0.lt
    by_cases hlt : j < n2
    · obtain ⟨b1, o1, hx1, rfl, hb1, t1, t2, t3, hw⟩ := cav_at (PS.out wr hbel) hlt
      have HX := hid (bnS_take (l := l) (root := root) (key := key) hx1)
      have hbw : Below wr.heap.size wr (wr.alloc (Obj.cells #[.int .i64 cs[j].Kind, .int .u64 cs[j].A, .int .u64 cs[j].B] 30)) := bel_alloc (Below.refl _ _) _
      have hba := bel_call hbel hbw
      have hsz : (wr.alloc (Obj.cells #[.int .i64 cs[j].Kind, .int .u64 cs[j].A, .int .u64 cs[j].B] 30)).heap.size = wr.heap.size + 1 := by simp
      by_cases he : s.e = 0
      · have hwf := bn_wf (l := l) (root := root) (key := key) (cs := cs.take j) (by rw [HS.out]; exact he)
        rw [HS.out] at hwf
        have HB := hid (tBind_any _ _ _ s.l s.t cs[j] _ (ar_rep S8.apartAll hbw) (tk_rep (r := s.t.Root) (g := s.t.Tag) S9.apartAll hbw (by rw [hwf.1]; exact hr) (wf_i64 (by omega))) (rep_Caveat.2 ⟨rfl, hw⟩))
        have HN := hid (show bnS l root key (cs.take (j + 1)) = ⟨bdL s.l s.t cs[j], bdT s.l s.t cs[j], bdE s.l s.t cs[j]⟩ from by rw [HX.out, HS.out]; exact if_pos he)
        have x0 := (V0.call hbw).c0
        have x1 := (VT.call hbw).c0
        have x2 := (VT.call hbw).c1
        have x3 := (VT.call hbw).c2
        rw [he]
        obtain ⟨r, hrr⟩ : ∃ z, (⟨bdL s.l s.t cs[j], bdT s.l s.t cs[j], bdE s.l s.t cs[j]⟩ : Bn) = z := ⟨_, rfl⟩
        have r0 : bdE s.l s.t cs[j] = r.e := congrArg Bn.e hrr
        have r1 : bdT s.l s.t cs[j] = r.t := congrArg Bn.t hrr
        have r2 : bdL s.l s.t cs[j] = r.l := congrArg Bn.l hrr
        rw [hrr] at HN
        rw [r0, r1, r2] at HB
        clear he hwf HX S8 S9 hrr r0 r1 r2
        go_wp2_with fail
        refine HB.out.mono ?_
        rintro e w3 ⟨v3, vt3, rfl, ho3, ⟨u3, rfl, hu3⟩, hb3⟩
        obtain ⟨A8', n8', c8', rfl, hs8⟩ := ho3.sl (Nat.le_refl _) (Nat.le_refl _)
        obtain ⟨A9', n9', c9', rfl, hs9⟩ := hu3.sl (Nat.le_refl _) (Nat.le_refl _)
        have hz3 := hbel.size
        have S8 := hs8.apartNew (B := w.heap.size + 3) (g := g) (by omega) (by omega)
        have S9 := hs9.apartNew (B := w.heap.size + 3) (g := g) (by omega) (by omega)
        have V0' := (V0.call hbw).call hb3
        have V1' := (V1.call hbw).call hb3
        have V2' := (V2.call hbw).call hb3
        have VT' := (VT.call hbw).call hb3
        have HB3 := bel_call hba hb3
        clear HB hs8 hs9 ho3 hu3 V0 V1 V2 VT x0 x1 x2 x3 hb3 hba hbw hbel
        have y0 := V0'.c0
        have yf := V0'.f
        have X1 := VT'.setOther (b := w.heap.size) (by omega) 0 (.slice A8' n8' c8')
        have t0 := X1.c0
        have t1 := X1.c1
        have t2 := X1.c2
        have f0 := X1.f 0
        have f1 := X1.f 1
        have f2 := X1.f 2
        have Q0 := hid ((((V0'.set (.slice A8' n8' c8')).setOther (b := g) (by omega) 0 (.int .u64 r.t.Root)).setOther (b := g) (by omega) 1 (.slice A9' n9' c9')).setOther (b := g) (by omega) 2 (.int .i64 r.t.Tag))
        have Q1 := hid ((((V1'.setOther (b := w.heap.size) (by omega) 0 (.slice A8' n8' c8')).setOther (b := g) (by omega) 0 (.int .u64 r.t.Root)).setOther (b := g) (by omega) 1 (.slice A9' n9' c9')).setOther (b := g) (by omega) 2 (.int .i64 r.t.Tag))
        have Q2 := hid ((((V2'.setOther (b := w.heap.size) (by omega) 0 (.slice A8' n8' c8')).setOther (b := g) (by omega) 0 (.int .u64 r.t.Root)).setOther (b := g) (by omega) 1 (.slice A9' n9' c9')).setOther (b := g) (by omega) 2 (.int .i64 r.t.Tag))
        have QT := hid (X1.set (.int .u64 r.t.Root) (.slice A9' n9' c9') (.int .i64 r.t.Tag))
        have R8 := hid ((((S8.apartSet (b := w.heap.size) (.inr (by omega)) 0 (.slice A8' n8' c8')).apartSet (b := g) (.inl rfl) 0 (.int .u64 r.t.Root)).apartSet (b := g) (.inl rfl) 1 (.slice A9' n9' c9')).apartSet (b := g) (.inl rfl) 2 (.int .i64 r.t.Tag))
        have R9 := hid ((((S9.apartSet (b := w.heap.size) (.inr (by omega)) 0 (.slice A8' n8' c8')).apartSet (b := g) (.inl rfl) 0 (.int .u64 r.t.Root)).apartSet (b := g) (.inl rfl) 1 (.slice A9' n9' c9')).apartSet (b := g) (.inl rfl) 2 (.int .i64 r.t.Tag))
        have HB9 := hid ((((HB3.setCell (p := ⟨w.heap.size, 0, none⟩) (Nat.le_refl _) (.slice A8' n8' c8')).setCell (p := ⟨g, 0, none⟩) (by show w.heap.size ≤ g; omega) (.int .u64 r.t.Root)).setCell (p := ⟨g, 1, none⟩) (by show w.heap.size ≤ g; omega) (.slice A9' n9' c9')).setCell (p := ⟨g, 2, none⟩) (by show w.heap.size ≤ g; omega) (.int .i64 r.t.Tag))
        clear X1 V0' V1' V2' VT' S8 S9 HB3
        go_wp2
        go_roundw
        case rel => exact ⟨j + 1, r, A8', n8', c8', A9', n9', c9', by omega, by go_num, HN, rfl, Q0.out, Q1.out, Q2.out, QT.out, R8.out, R9.out, HB9.out⟩
        case measure => simp [intOf]; omega
      · have HN := hid (show bnS l root key (cs.take (j + 1)) = s from by rw [HX.out, HS.out]; exact if_neg he)
        have hne : (s.e == 0) = false := by simpa using he
        have Q0 := V0.call hbw
        have Q1 := V1.call hbw
        have Q2 := V2.call hbw
        have QT := VT.call hbw
        have R8 := S8.apartKeep hbw
        have R9 := S9.apartKeep hbw
        clear he HX S8 S9 V0 V1 V2 VT
        go_wp2
        go_roundw
        case rel => exact ⟨j + 1, s, A, n, c, A', n', c', by omega, by go_num, HN, rfl, Q0, Q1, Q2, QT, R8, R9, hba⟩
        case measure => simp [intOf]; omega
    · have HT := hid (show bnS l root key cs = s from by rw [← HS.out, List.take_of_length_le (by rw [HL2.out]; omega)])
      have x0 := V0.c0
      have x1 := VT.c0
      have x2 := VT.c1
      have x3 := VT.c2
      have y0 := V1.c0
      have yf := V1.f
      have X2 := V2.setOther (b := w.heap.size + 1) (by omega) 0 (.slice A n c)
      have t0 := X2.c0
      have t1 := X2.c1
      have t2 := X2.c2
      have f0 := X2.f 0
      have f1 := X2.f 1
      have f2 := X2.f 2
      have Q1 := hid ((((V1.set (.slice A n c)).setOther (b := w.heap.size + 1 + 1) (by omega) 0 (.int .u64 s.t.Root)).setOther (b := w.heap.size + 1 + 1) (by omega) 1 (.slice A' n' c')).setOther (b := w.heap.size + 1 + 1) (by omega) 2 (.int .i64 s.t.Tag))
      have Q2 := hid (X2.set (.int .u64 s.t.Root) (.slice A' n' c') (.int .i64 s.t.Tag))
      have R8 := hid ((((S8.apartSet (b := w.heap.size + 1) (.inr (by omega)) 0 (.slice A n c)).apartSet (b := w.heap.size + 1 + 1) (.inr (by omega)) 0 (.int .u64 s.t.Root)).apartSet (b := w.heap.size + 1 + 1) (.inr (by omega)) 1 (.slice A' n' c')).apartSet (b := w.heap.size + 1 + 1) (.inr (by omega)) 2 (.int .i64 s.t.Tag)).apartAll
      have R9 := hid ((((S9.apartSet (b := w.heap.size + 1) (.inr (by omega)) 0 (.slice A n c)).apartSet (b := w.heap.size + 1 + 1) (.inr (by omega)) 0 (.int .u64 s.t.Root)).apartSet (b := w.heap.size + 1 + 1) (.inr (by omega)) 1 (.slice A' n' c')).apartSet (b := w.heap.size + 1 + 1) (.inr (by omega)) 2 (.int .i64 s.t.Tag)).apartAll
      have HB9 := hid ((((hbel.setCell (p := ⟨w.heap.size + 1, 0, none⟩) (by show w.heap.size ≤ w.heap.size + 1; omega) (.slice A n c)).setCell (p := ⟨w.heap.size + 1 + 1, 0, none⟩) (by show w.heap.size ≤ w.heap.size + 1 + 1; omega) (.int .u64 s.t.Root)).setCell (p := ⟨w.heap.size + 1 + 1, 1, none⟩) (by show w.heap.size ≤ w.heap.size + 1 + 1; omega) (.slice A' n' c')).setCell (p := ⟨w.heap.size + 1 + 1, 2, none⟩) (by show w.heap.size ≤ w.heap.size + 1 + 1; omega) (.int .i64 s.t.Tag))
      have HD := hid (show (s.e == 0) = decide (s.e = 0) from by rw [Bool.eq_iff_iff]; simp)
      clear X2 V0 V1 V2 VT S8 S9
      go_wp2
      go_region
      go_wp2
      have D1 := Q1.out.call (Below.refl _ _).drew
      have D2 := Q2.out.call (Below.refl _ _).drew
      refine bodyPost_ret_by (results_cct rfl _ _ (w.heap.size + 1) 0 rfl [.slice A n c] _ (range1 D1.c0) Try.underlying24 rfl (by kernel_rfl) (w.heap.size + 1 + 1) 0 rfl [.int .u64 s.t.Root, .slice A' n' c', .int .i64 s.t.Tag] _ (range3 D2.c0 D2.c1 D2.c2) Try.underlying28 rfl (by kernel_rfl)) rfl ?_
      exact ⟨A, n, c, A', n', c', by rw [HT.out, ← HD.out]; rfl, by rw [HT.out]; exact Sl.call R8.out (Below.refl _ _).drew, by rw [HT.out]; exact Sl.call R9.out (Below.refl _ _).drew, HB9.out.drew⟩
end Go.Proofs.Ytgiapfenalhleaa
