/-
  The contracts of package token's readHead, inPlace, and readCaveats.
-/
import Derived.BigQuiet
import Derived.Test.YtgiapfenalhleaaPack1
import Derived.Test.YtgiapfenalhleaaPack2
import Derived.Test.YtgiapfenalhleaaPack3
import Derived.Test.YtgiapfenalhleaaPack4
import Derived.Test.YtgiapfenalhleaaPack5
import Derived.Test.YtgiapfenalhleaaPack6
import Derived.Test.YtgiapfenalhleaaPack7
import Derived.Test.YtgiapfenalhleaaPack8
import Derived.Test.YtgiapfenalhleaaPack9
import Derived.Test.YtgiapfenalhleaaPack10
import Derived.Test.YtgiapfenalhleaaPack11
import Derived.Test.YtgiapfenalhleaaPack12
import Derived.Test.YtgiapfenalhleaaPack13
import Derived.Test.YtgiapfenalhleaaPack14
import Derived.Test.YtgiapfenalhleaaPack15
import Derived.Test.YtgiapfenalhleaaPack16
import Derived.Test.YtgiapfenalhleaaPack17
import Derived.Test.YtgiapfenalhleaaPack18
import Derived.Test.YtgiapfenalhleaaPack19
import Derived.Test.YtgiapfenalhleaaPack20
import Derived.Test.YtgiapfenalhleaaPack21
import Derived.Test.YtgiapfenalhleaaPack22
import Derived.Test.YtgiapfenalhleaaPack23
import Derived.Test.YtgiapfenalhleaaPack24
import Derived.Test.YtgiapfenalhleaaPack25
import Derived.Test.YtgiapfenalhleaaPack26
import Derived.Test.YtgiapfenalhleaaPack27
import Derived.Test.YtgiapfenalhleaaPack28
import Derived.Test.YtgiapfenalhleaaPack29
import Derived.Test.YtgiapfenalhleaaPack30
import Derived.Test.YtgiapfenalhleaaPack31
import Derived.Test.YtgiapfenalhleaaPack32
namespace Go.Proofs.Ytgiapfenalhleaa
open Go.RowKit Go.WalkArith

/-- An array's variable of two cells. -/
def Pair (w : World) (g : Nat) (t : TypeId) (x y : Value) : Prop := w.heap[g]? = some (.cells #[x, y] t (0, 0))
section
variable {w w' : World} {g : Nat} {t : TypeId} {x y : Value}
theorem Pair.c0 (h : Pair w g t x y) : w.cell? ⟨g, 0, none⟩ = some x := by unfold Pair at h; simp [World.cell?, h]
theorem Pair.c1 (h : Pair w g t x y) : w.cell? ⟨g, 1, none⟩ = some y := by unfold Pair at h; simp [World.cell?, h]
theorem Pair.f (h : Pair w g t x y) (i : Nat) : w.frozen? ⟨g, i, none⟩ = false := by unfold Pair at h; simp [World.frozen?, h]
theorem Pair.lt (h : Pair w g t x y) : g < w.heap.size := (Array.getElem?_eq_some_iff.1 h).1
theorem Pair.call (h : Pair w g t x y) (hb : Below w.heap.size w w') : Pair w' g t x y := (hb.block g h.lt).trans h
theorem Pair.set0 (h : Pair w g t x y) (u : Value) : Pair (w.setCell ⟨g, 0, none⟩ u) g t u y := heap_setCell_same w g 0 _ t u h
theorem Pair.set1 (h : Pair w g t x y) (u : Value) : Pair (w.setCell ⟨g, 1, none⟩ u) g t x u := heap_setCell_same w g 1 _ t u h
theorem Pair.set (h : Pair w g t x y) (u v : Value) : Pair ((w.setCell ⟨g, 0, none⟩ u).setCell ⟨g, 1, none⟩ v) g t u v := (h.set0 u).set1 v
theorem Pair.setOther {b : Nat} (h : Pair w g t x y) (hne : g ≠ b) (i : Nat) (u : Value) : Pair (w.setCell ⟨b, i, none⟩ u) g t x y := (Below.heap_setCell _ _ _ _ hne).trans h
theorem Pair.new (w : World) (t : TypeId) (x y : Value) : Pair (w.alloc (.cells #[x, y] t)) w.heap.size t x y := heap_alloc_new w _
end

/-- The error of what is ahead of caveats. -/
noncomputable def hdE (l : List Rec) : Int := if fE l 1 ≠ 0 ∨ fE l 2 ≠ 0 then 5 else if nE l 1 ≠ 0 then nE l 1 else nE l 2
theorem fE5 {l : List Rec} {k : Int} (hm : MayBe l) : fE l k = 0 ∨ fE l k = 5 := by
  rw [fE_ok hm]
  unfold foE
  by_cases h : (findR l k).isSome
  · exact .inl (if_pos h)
  · exact .inr (if_neg h)

set_option maxRecDepth 100000 in
set_option maxHeartbeats 4000000 in
theorem readHead_any (A : Option Addr) (n c b : Nat) (l : List Rec) (w : World) (hs : Sl lay_Record w (· < w.heap.size) A n c l) (hm : MayBe l) (hc : w.cell? ⟨b, 0, none⟩ = some (.int .i64 2)) :
    Calls Try.prog 54 #[.slice A n c, tyF b] w fun e w' => ∃ x y, e = .returned (.tuple #[.agg #[.int .u64 x, .int .u64 y], .int .i64 (hdE l)]) ∧ (hdE l = 0 → x = nV l 1 ∧ y = nV l 2) ∧ Below w.heap.size w w' := by
  have RS := hid (fun (W : World) (h : Below w.heap.size w W) => Sl.call hs h)
  have KB := hid (fun (W : World) (h : Below w.heap.size w W) => (h.cell (p := ⟨b, 0, none⟩) (World.block_lt_of_cell? w _ hc)).trans hc)
  have hb0 : Below w.heap.size w ((w.alloc (Obj.cells #[.int .u64 0, .int .u64 0] 78)).alloc (Obj.cells #[.int .u64 0, .int .u64 0] 78)) := bel_alloc (bel_alloc (Below.refl _ _) _) _
  have VR0 : Pair ((w.alloc (Obj.cells #[.int .u64 0, .int .u64 0] 78)).alloc (Obj.cells #[.int .u64 0, .int .u64 0] 78)) w.heap.size 78 (.int .u64 0) (.int .u64 0) := heap_alloc2_old _ _ _
  have VH0 : Pair ((w.alloc (Obj.cells #[.int .u64 0, .int .u64 0] 78)).alloc (Obj.cells #[.int .u64 0, .int .u64 0] 78)) (w.heap.size + 1) 78 (.int .u64 0) (.int .u64 0) := alloc2_new _ _ _
  clear hs hc
  go_enter Try.func54, Try.ntmps54
  go_wp2
  generalize ((w.alloc (Obj.cells #[.int .u64 0, .int .u64 0] 78)).alloc (Obj.cells #[.int .u64 0, .int .u64 0] 78)) = W0 at *
  go_loopw [13] (fun i wr => ∃ j : Nat, j ≤ 2 ∧ i = .int .i64 j ∧ Hid (0 < j → fE l 1 = 0) ∧ Hid (1 < j → fE l 2 = 0) ∧ Pair wr w.heap.size 78 (.int .u64 0) (.int .u64 0) ∧ Pair wr (w.heap.size + 1) 78 (.int .u64 0) (.int .u64 0) ∧ Below w.heap.size w wr) (fun i _ => 2 - (intOf i).toNat)
  case atStart => exact ⟨0, by omega, rfl, hid fun h => absurd h (by omega), hid fun h => absurd h (by omega), VR0, VH0, hb0⟩
  case round =>
  clear VR0 VH0 hb0
  obtain ⟨j, hj, rfl, p1, p2, VR, VH, hbel⟩ := hrel
  rcases (show j = 0 ∨ j = 1 ∨ j = 2 by omega) with rfl | rfl | rfl
  · obtain ⟨fe, hfe⟩ : ∃ z, fE l 1 = z := ⟨_, rfl⟩
    have HF := hid (tlvFind_any A n c l 1 wr (RS.out _ hbel) (by decide))
    rw [hfe] at HF
    have FE := hid hfe
    clear hfe
    have HTB := hid (show Calls Try.prog 78 #[.int .i64 0, .pointer (some ⟨b, 0, none⟩)] wr fun e w' => e = .returned (.int .u64 1) ∧ wr = w' from tyAt_any 0 _ wr (KB.out _ hbel) (by omega))
    go_wp2_with fail
    refine HTB.out.mono ?_
    rintro e w4 ⟨rfl, rfl⟩
    go_wp2_with fail
    refine HF.out.mono ?_
    rintro e w5 ⟨v5, rfl, -, hb5⟩
    clear HF HTB
    by_cases hz : fe = 0
    · subst hz
      go_wp2
      go_roundw
      case rel => exact ⟨1, by omega, by go_num, hid fun _ => FE.out, hid fun h => absurd h (by omega), VR.call hb5, VH.call hb5, bel_call hbel hb5⟩
      case measure => simp [intOf]
    · have h5 : fe = 5 := by
        have := fE5 (k := 1) hm
        rw [FE.out] at this
        rcases this with h | h
        · exact absurd h hz
        · exact h
      have HE := hid (show hdE l = 5 from if_pos (.inl (by rw [FE.out]; exact hz)))
      have HB5 := bel_call hbel hb5
      have V5 := VR.call hb5
      subst h5
      clear hz VR VH hb5
      have k0 := V5.c0
      have k1 := V5.c1
      have f0 := V5.f 0
      have f1 := V5.f 1
      have V9 := hid (V5.set (.int .u64 0) (.int .u64 0))
      have HB9 := hid ((HB5.setCell (p := ⟨w.heap.size, 0, none⟩) (Nat.le_refl _) (.int .u64 0)).setCell (p := ⟨w.heap.size, 1, none⟩) (Nat.le_refl _) (.int .u64 0))
      go_wp2
      refine bodyPost_ret_by (results_ct rfl _ _ w.heap.size 0 rfl [.int .u64 0, .int .u64 0] _ (range2 V9.out.c0 V9.out.c1) Try.underlying78 rfl (by kernel_rfl)) rfl ?_
      exact ⟨0, 0, by rw [HE.out]; rfl, fun h => absurd h (by rw [HE.out]; exact by decide), HB9.out⟩
  · obtain ⟨fe, hfe⟩ : ∃ z, fE l 2 = z := ⟨_, rfl⟩
    have HF := hid (tlvFind_any A n c l 2 wr (RS.out _ hbel) (by decide))
    rw [hfe] at HF
    have FE := hid hfe
    clear hfe
    have HTB := hid (show Calls Try.prog 78 #[.int .i64 1, .pointer (some ⟨b, 0, none⟩)] wr fun e w' => e = .returned (.int .u64 2) ∧ wr = w' from tyAt_any 1 _ wr (KB.out _ hbel) (by omega))
    go_wp2_with fail
    refine HTB.out.mono ?_
    rintro e w4 ⟨rfl, rfl⟩
    go_wp2_with fail
    refine HF.out.mono ?_
    rintro e w5 ⟨v5, rfl, -, hb5⟩
    clear HF HTB
    by_cases hz : fe = 0
    · subst hz
      go_wp2
      go_roundw
      case rel => exact ⟨2, by omega, by go_num, hid fun _ => p1.out (by omega), hid fun _ => FE.out, VR.call hb5, VH.call hb5, bel_call hbel hb5⟩
      case measure => simp [intOf]
    · have h5 : fe = 5 := by
        have := fE5 (k := 2) hm
        rw [FE.out] at this
        rcases this with h | h
        · exact absurd h hz
        · exact h
      have HE := hid (show hdE l = 5 from if_pos (.inr (by rw [FE.out]; exact hz)))
      have HB5 := bel_call hbel hb5
      have V5 := VR.call hb5
      subst h5
      clear hz VR VH hb5
      have k0 := V5.c0
      have k1 := V5.c1
      have f0 := V5.f 0
      have f1 := V5.f 1
      have V9 := hid (V5.set (.int .u64 0) (.int .u64 0))
      have HB9 := hid ((HB5.setCell (p := ⟨w.heap.size, 0, none⟩) (Nat.le_refl _) (.int .u64 0)).setCell (p := ⟨w.heap.size, 1, none⟩) (Nat.le_refl _) (.int .u64 0))
      go_wp2
      refine bodyPost_ret_by (results_ct rfl _ _ w.heap.size 0 rfl [.int .u64 0, .int .u64 0] _ (range2 V9.out.c0 V9.out.c1) Try.underlying78 rfl (by kernel_rfl)) rfl ?_
      exact ⟨0, 0, by rw [HE.out]; rfl, fun h => absurd h (by rw [HE.out]; exact by decide), HB9.out⟩
  have F1 := p1.out (by omega)
  have F2 := p2.out (by omega)
  have HFF := hid (show ¬ (fE l 1 ≠ 0 ∨ fE l 2 ≠ 0) from fun h => h.elim (fun k => k F1) (fun k => k F2))
  clear p1 p2 F1 F2 hj
  rw [show ((2 : Nat) : Int) = 2 from rfl]
  go_wp2
  obtain ⟨wq, hwq⟩ : ∃ z, z = wr := ⟨_, rfl⟩
  subst hwq
  go_loopw [29] (fun i wr => ∃ j : Nat, ((j = 0 ∧ Pair wr (w.heap.size + 1) 78 (.int .u64 0) (.int .u64 0)) ∨ (j = 1 ∧ Hid (nE l 1 = 0) ∧ Pair wr (w.heap.size + 1) 78 (.int .u64 (nV l 1)) (.int .u64 0)) ∨ (j = 2 ∧ Hid (nE l 1 = 0) ∧ Hid (nE l 2 = 0) ∧ Pair wr (w.heap.size + 1) 78 (.int .u64 (nV l 1)) (.int .u64 (nV l 2)))) ∧ Pair wr w.heap.size 78 (.int .u64 0) (.int .u64 0) ∧ Below w.heap.size w wr ∧ i = .int .i64 j) (fun i _ => 2 - (intOf i).toNat)
  case atStart => exact ⟨0, .inl ⟨rfl, VH⟩, VR, hbel, rfl⟩
  case round =>
  clear VR VH hbel
  obtain ⟨j, hway, VR, hbel, rfl⟩ := hrel
  rcases hway with ⟨rfl, VH⟩ | ⟨rfl, P1, VH⟩ | ⟨rfl, P1, P2, VH⟩
  · obtain ⟨ne, hne⟩ : ∃ z, nE l 1 = z := ⟨_, rfl⟩
    obtain ⟨nv, hnv⟩ : ∃ z, nV l 1 = z := ⟨_, rfl⟩
    have HF := hid (tlvNumber_any A n c l 1 wr (RS.out _ hbel) (by decide))
    rw [hne, hnv] at HF
    have NE := hid hne
    have NV := hid hnv
    clear hne hnv
    have HTB := hid (show Calls Try.prog 78 #[.int .i64 0, .pointer (some ⟨b, 0, none⟩)] wr fun e w' => e = .returned (.int .u64 1) ∧ wr = w' from tyAt_any 0 _ wr (KB.out _ hbel) (by omega))
    go_wp2_with fail
    refine HTB.out.mono ?_
    rintro e w4 ⟨rfl, rfl⟩
    go_wp2_with fail
    refine HF.out.mono ?_
    rintro e w6 ⟨rfl, hb6⟩
    have HB6 := bel_call hbel hb6
    have V6 := VH.call hb6
    have VR6 := VR.call hb6
    clear HF HTB VH VR hb6
    by_cases hz : ne = 0
    · subst hz
      have x0 := V6.c0
      have x1 := V6.f 0
      go_wp2
      go_roundw
      case rel => exact ⟨1, .inr (.inl ⟨rfl, NE, by rw [NV.out]; exact V6.set0 _⟩), VR6.setOther (by omega) 0 _, HB6.setCell (p := ⟨w.heap.size + 1, 0, none⟩) (by show w.heap.size ≤ w.heap.size + 1; omega) _, by go_num⟩
      case measure => simp [intOf]
    · have HE := hid (show hdE l = ne from by unfold hdE; rw [if_neg HFF.out, if_pos (by rw [NE.out]; exact hz), NE.out])
      have k0 := VR6.c0
      have k1 := VR6.c1
      have f0 := VR6.f 0
      have f1 := VR6.f 1
      have V9 := hid (VR6.set (.int .u64 0) (.int .u64 0))
      have HB9 := hid ((HB6.setCell (p := ⟨w.heap.size, 0, none⟩) (Nat.le_refl _) (.int .u64 0)).setCell (p := ⟨w.heap.size, 1, none⟩) (Nat.le_refl _) (.int .u64 0))
      have hne : (ne != 0) = true := by simpa using hz
      go_wp2
      refine bodyPost_ret_by (results_ct rfl _ _ w.heap.size 0 rfl [.int .u64 0, .int .u64 0] _ (range2 V9.out.c0 V9.out.c1) Try.underlying78 rfl (by kernel_rfl)) rfl ?_
      exact ⟨0, 0, by rw [HE.out]; rfl, fun h => absurd h (by rw [HE.out]; exact hz), HB9.out⟩
  · obtain ⟨ne, hne⟩ : ∃ z, nE l 2 = z := ⟨_, rfl⟩
    obtain ⟨nv, hnv⟩ : ∃ z, nV l 2 = z := ⟨_, rfl⟩
    have HF := hid (tlvNumber_any A n c l 2 wr (RS.out _ hbel) (by decide))
    rw [hne, hnv] at HF
    have NE := hid hne
    have NV := hid hnv
    clear hne hnv
    have HTB := hid (show Calls Try.prog 78 #[.int .i64 1, .pointer (some ⟨b, 0, none⟩)] wr fun e w' => e = .returned (.int .u64 2) ∧ wr = w' from tyAt_any 1 _ wr (KB.out _ hbel) (by omega))
    go_wp2_with fail
    refine HTB.out.mono ?_
    rintro e w4 ⟨rfl, rfl⟩
    go_wp2_with fail
    refine HF.out.mono ?_
    rintro e w6 ⟨rfl, hb6⟩
    have HB6 := bel_call hbel hb6
    have V6 := VH.call hb6
    have VR6 := VR.call hb6
    clear HF HTB VH VR hb6
    by_cases hz : ne = 0
    · subst hz
      have x0 := V6.c1
      have x1 := V6.f 1
      go_wp2
      go_roundw
      case rel => exact ⟨2, .inr (.inr ⟨rfl, P1, NE, by rw [NV.out]; exact V6.set1 _⟩), VR6.setOther (by omega) 1 _, HB6.setCell (p := ⟨w.heap.size + 1, 1, none⟩) (by show w.heap.size ≤ w.heap.size + 1; omega) _, by go_num⟩
      case measure => simp [intOf]
    · have HE := hid (show hdE l = ne from by unfold hdE; rw [if_neg HFF.out, if_neg (by rw [P1.out]; decide), NE.out])
      have k0 := VR6.c0
      have k1 := VR6.c1
      have f0 := VR6.f 0
      have f1 := VR6.f 1
      have V9 := hid (VR6.set (.int .u64 0) (.int .u64 0))
      have HB9 := hid ((HB6.setCell (p := ⟨w.heap.size, 0, none⟩) (Nat.le_refl _) (.int .u64 0)).setCell (p := ⟨w.heap.size, 1, none⟩) (Nat.le_refl _) (.int .u64 0))
      have hne : (ne != 0) = true := by simpa using hz
      go_wp2
      refine bodyPost_ret_by (results_ct rfl _ _ w.heap.size 0 rfl [.int .u64 0, .int .u64 0] _ (range2 V9.out.c0 V9.out.c1) Try.underlying78 rfl (by kernel_rfl)) rfl ?_
      exact ⟨0, 0, by rw [HE.out]; rfl, fun h => absurd h (by rw [HE.out]; exact hz), HB9.out⟩
  have HE := hid (show hdE l = 0 from by unfold hdE; rw [if_neg HFF.out, if_neg (by rw [P1.out]; decide), P2.out])
  have x0 := VH.c0
  have x1 := VH.c1
  have k0 := VR.c0
  have k1 := VR.c1
  have f0 := VR.f 0
  have f1 := VR.f 1
  have V9 := hid (VR.set (.int .u64 (nV l 1)) (.int .u64 (nV l 2)))
  have HB9 := hid ((hbel.setCell (p := ⟨w.heap.size, 0, none⟩) (Nat.le_refl _) (.int .u64 (nV l 1))).setCell (p := ⟨w.heap.size, 1, none⟩) (Nat.le_refl _) (.int .u64 (nV l 2)))
  clear VR VH hbel
  go_wp2
  refine bodyPost_ret_by (results_ct rfl _ _ w.heap.size 0 rfl [.int .u64 (nV l 1), .int .u64 (nV l 2)] _ (range2 V9.out.c0 V9.out.c1) Try.underlying78 rfl (by kernel_rfl)) rfl ?_
  exact ⟨_, _, by rw [HE.out]; rfl, fun _ => ⟨rfl, rfl⟩, HB9.out⟩

def InPl (l : List Rec) : Prop := l.length ≤ 18 ∧ ∀ (i : Nat) (h : i < l.length), l[i].T = tyAt i
noncomputable instance (l : List Rec) : Decidable (InPl l) := Classical.propDecidable _

set_option maxRecDepth 100000 in
set_option maxHeartbeats 4000000 in
theorem inPlace_any (A : Option Addr) (n c b : Nat) (l : List Rec) (w : World) (hs : Sl lay_Record w (· < w.heap.size) A n c l) (hc : w.cell? ⟨b, 0, none⟩ = some (.int .i64 2)) :
    Calls Try.prog 55 #[.slice A n c, tyF b] w fun e w' => e = .returned (.bool (decide (InPl l))) ∧ Below w.heap.size w w' := by
  have HL := hid hs.len
  have hcap := hs.cap
  unfold maxLen at hcap
  have KB := hid (fun (W : World) (h : Below w.heap.size w W) => (h.cell (p := ⟨b, 0, none⟩) (World.block_lt_of_cell? w _ hc)).trans hc)
  by_cases h18 : 18 < n
  · have HE := hid (show decide (InPl l) = false from decide_eq_false fun k => by have := k.1; rw [HL.out] at this; omega)
    have d : decide ((18 : Int) < (n : Int)) = true := decide_eq_true (by omega)
    clear hc
    go_enter Try.func55, Try.ntmps55
    go_wp2
    go_ret
    exact ⟨ret_bool HE.out.symm, Below.refl _ _⟩
  have d : decide ((18 : Int) < (n : Int)) = false := decide_eq_false (by omega)
  clear hc
  go_enter Try.func55, Try.ntmps55
  go_wp2
  go_loopw [12] (fun i wr => ∃ j : Nat, j ≤ n ∧ i = .int .i64 j ∧ Hid (∀ (i : Nat) (h : i < l.length), i < j → l[i].T = tyAt i) ∧ Below w.heap.size w wr) (fun i _ => n - (intOf i).toNat)
  case atStart => exact ⟨0, Nat.zero_le _, rfl, hid fun i h hi => absurd hi (by omega), Below.refl _ _⟩
  case round =>
  obtain ⟨j, hj, rfl, hnum, hbel⟩ := hrel
  by_cases hlt : j < n
  · obtain ⟨b1, o1, A', n', c', hx1, rfl, hb9, t1', t2', hTb, -⟩ := rec_at (Sl.call hs hbel) hlt
    have hba := bel_alloc hbel (Obj.cells #[.int .u64 l[j].T, .slice A' n' c'] 83)
    have VB := Pair.new wr 83 (.int .u64 l[j].T) (.slice A' n' c')
    have HTY := hid (fun (m : Nat) => Calls.quiet_of_same ((tyAt_any j b ((wr.alloc (Obj.cells #[.int .u64 l[j].T, .slice A' n' c'] 83)).drewN m) (KB.out _ (bel_drewN hba m)) (by omega)).mono fun _ _ h => ⟨h.1, h.2.symm⟩))
    obtain ⟨ty, hty⟩ : ∃ z, tyAt j = z := ⟨_, rfl⟩
    rw [hty] at HTY
    have TY := hid hty
    clear hty
    go_upto_region 6 with (fail)
    have HBX := hid hba
    have y0 := VB.c0
    generalize wr.alloc (Obj.cells #[.int .u64 l[j].T, .slice A' n' c'] 83) = W5 at *
    clear VB hba t1' t2'
    by_cases hT : l[j].T = ty
    · have dT : (l[j].T != ty) = false := by simpa using hT
      have HT := hid (show ∀ (i : Nat) (h : i < l.length), i < j + 1 → l[i].T = tyAt i from fun i h hi => by
        by_cases k : i < j
        · exact hnum.out i h k
        · have : i = j := by omega
          subst this; rw [TY.out]; exact hT)
      clear hT
      go_quiet ((go_at_call 78; exact HTY.out _))
      go_wp2
      go_roundw
      case rel => exact ⟨j + 1, by omega, by go_num, HT, bel_drewN HBX.out _⟩
      case measure => simp [intOf]; omega
    · have dT : (l[j].T != ty) = true := by simpa using hT
      have HE := hid (show decide (InPl l) = false from decide_eq_false fun k => hT (by rw [k.2 j hx1]; exact TY.out))
      clear hT
      go_quiet ((go_at_call 78; exact HTY.out _))
      go_wp2
      go_ret
      exact ⟨ret_bool HE.out.symm, bel_drewN HBX.out _⟩
  · have HE := hid (show decide (InPl l) = true from decide_eq_true ⟨by rw [HL.out]; omega, fun i h => hnum.out i h (by rw [HL.out] at h; omega)⟩)
    go_wp2
    go_ret
    exact ⟨ret_bool HE.out.symm, hbel⟩

def csLe (l : List Rec) : List Cav := if csE l = 0 then csL l else []
set_option maxRecDepth 100000 in
set_option maxHeartbeats 4000000 in
theorem readCaveats_any (A : Option Addr) (n c : Nat) (L : List Rec) (w : World) (hs : Sl lay_Record w (· < w.heap.size) A n c L) (hn : n ≤ 64) (hsm : ∀ r ∈ L, r.V.length ≤ 4096 ∧ ∀ x ∈ r.V, 0 ≤ x ∧ x ≤ 255) :
    Calls Try.prog 56 #[.slice A n c] w fun e w' => ∃ v', e = .returned (.tuple #[v', .int .i64 (csE L)]) ∧ OwnL lay_Caveat w' w.heap.size (some w.heap.size) 30 v' (csLe L) ∧ Below w.heap.size w w' := by
  have HML := hid hs.len
  have HSM := hid hsm
  have hcap := hs.cap
  unfold maxLen at hcap
  clear hsm
  go_enter Try.func56, Try.ntmps56
  go_wp2
  go_loopw [4, 11] (fun tx i wr => ∃ (j : Nat) (tv : Value), j ≤ n ∧ i = .int .i64 j ∧ tx = tv ∧ OwnL lay_Caveat wr w.heap.size (some w.heap.size) 30 tv (csL (L.take j)) ∧ Hid (csE (L.drop j) = csE L) ∧ Below w.heap.size w wr) (fun _ i _ => n - (intOf i).toNat)
  case atStart => exact ⟨0, _, Nat.zero_le _, rfl, rfl, OwnL.nil _ _ _ _ _, hid rfl, Below.refl _ _⟩
  case round =>
  obtain ⟨j, tx, hj, rfl, htx, hown, hce, hbel⟩ := hrel
  replace htx := htx.symm
  subst htx
  by_cases hlt : j < n
  · obtain ⟨b1, o1, A', n', c', hx1, rfl, hb9, t1', t2', hTb, hV⟩ := rec_at (Sl.call hs hbel) hlt
    have hsm := HSM.out L[j] (List.getElem_mem hx1)
    have hnl := hV.len
    have hrd := (hV.rd (B := wr.heap.size) fun _ h => h).kept (bel_alloc (Below.refl _ _) (Obj.cells #[.int .u64 L[j].T, .slice A' n' c'] 83))
    have hba := bel_alloc (Below.refl wr.heap.size wr) (Obj.cells #[.int .u64 L[j].T, .slice A' n' c'] 83)
    obtain ⟨d, hd⟩ : ∃ z, (getC L[j].V).1 = z := ⟨_, rfl⟩
    obtain ⟨ge, hge⟩ : ∃ z, (getC L[j].V).2 = z := ⟨_, rfl⟩
    have hdw : CavWf d := by rw [← hd]; exact getC_ok_wf hsm.2
    have HGC := hid (cGet_any A' n' c' L[j].V _ hrd (by omega))
    rw [hd, hge, show cavV d = .agg #[.int .i64 d.Kind, .int .u64 d.A, .int .u64 d.B] from rfl] at HGC
    have HCE := hid (csE_step hx1)
    have HCL := hid (csL_take hx1)
    rw [hge] at HCE
    rw [hd] at HCL
    have hal : (csL (L.take j)).length ≤ 64 := by unfold csL; simp; omega
    have hlen1 : ((csL (L.take j)).length + 1) * 24 ≤ 140737488355328 := by omega
    have hlen2 : (csL (L.take j)).length + 1 ≤ maxLen := by unfold maxLen; omega
    clear hV hsm hnl hrd hd hge hal
    go_wp2_with fail
    refine HGC.out.mono ?_
    rintro e w9 ⟨rfl, hb9'⟩
    have hb10 := bel_alloc (bel_call hba hb9') (Obj.cells #[.int .i64 d.Kind, .int .u64 d.A, .int .u64 d.B] 30)
    have hz10 := hb10.size
    have hzr := hbel.size
    clear hba hb9' HGC t1' t2'
    by_cases hz : ge = 0
    rotate_left
    · have HE := hid (show csE L = ge ∧ csLe L = [] from by
        have e1 : csE L = ge := by rw [← hce.out, HCE.out]; exact if_pos hz
        exact ⟨e1, if_neg (by rw [e1]; exact hz)⟩)
      have hne : (ge != 0) = true := by simpa using hz
      go_wp2
      go_ret2
      exact ⟨_, by rw [HE.out.1]; rfl, by rw [HE.out.2]; exact OwnL.nil _ _ _ _ _, bel_call hbel hb10⟩
    subst hz
    have ho6 := hown.keep hb10
    have HSZ := hid (show w9.heap.size + 1 = (w9.alloc (Obj.cells #[.int .i64 d.Kind, .int .u64 d.A, .int .u64 d.B] 30)).heap.size from by simp)
    go_wp2_with (at_builtin; go_must (refine wpList_pushL (w := w9.alloc (Obj.cells #[.int .i64 d.Kind, .int .u64 d.A, .int .u64 d.B] 30)) rfl (.tmp 24) (.tmp 26) 26 rfl w.heap.size (some w.heap.size) 30 _ 24 Try.underlying26 Try.infoCav7 rfl (by decide) tx (csL (L.take j)) d #[.int .i64 d.Kind, .int .u64 d.A, .int .u64 d.B] (fun _ => False) rfl (congrArg (fun z => Value.slice (some ⟨z, 0, none⟩) 1 1) HSZ.out) ho6 (rep_Caveat.2 ⟨rfl, hdw⟩) (fun b hb => hb.elim) (by omega) hlen1 hlen2 ?_; intro v7 w11 ho7 hx7; have hb7 : Below w.heap.size (w9.alloc (Obj.cells #[.int .i64 d.Kind, .int .u64 d.A, .int .u64 d.B] 30)) w11 := ho6.below hx7 (by omega)))
    go_roundw
    case rel => exact ⟨j + 1, _, by omega, by go_num, rfl, by rw [HCL.out]; exact ho7, hid (by rw [← hce.out, HCE.out]; rfl), (bel_call hbel hb10).trans hb7⟩
    case measure => simp [intOf]; omega
  · have HLT := hid (show L.take j = L ∧ csE L = 0 from ⟨List.take_of_length_le (by rw [HML.out]; omega), by rw [← hce.out, List.drop_eq_nil_of_le (by rw [HML.out]; omega)]; rfl⟩)
    rw [HLT.out.1] at hown
    have HE := hid (show csE L = 0 ∧ csLe L = csL L from ⟨HLT.out.2, if_pos HLT.out.2⟩)
    go_wp2
    go_ret2
    exact ⟨_, by rw [HE.out.1]; rfl, by rw [HE.out.2]; exact hown, hbel⟩
end Go.Proofs.Ytgiapfenalhleaa
