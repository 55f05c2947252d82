/-
  The contracts of package tlv's next and Get.
-/
import Derived.Test.YtgiapfenalhleaaPack1
import Derived.Test.YtgiapfenalhleaaPack2
import Derived.Test.YtgiapfenalhleaaPack3
import Derived.Test.YtgiapfenalhleaaPack4
import Derived.Test.YtgiapfenalhleaaPack5
import Derived.Test.YtgiapfenalhleaaPack6
import Derived.Test.YtgiapfenalhleaaPack7
import Derived.Test.YtgiapfenalhleaaPack8
import Derived.Test.YtgiapfenalhleaaPack9
import Derived.Test.YtgiapfenalhleaaPack10
import Derived.Test.YtgiapfenalhleaaPack11
import Derived.Test.YtgiapfenalhleaaPack12
import Derived.Test.YtgiapfenalhleaaPack13
import Derived.Test.YtgiapfenalhleaaPack14
import Derived.Test.YtgiapfenalhleaaPack15
import Derived.Test.YtgiapfenalhleaaPack16
import Derived.Test.YtgiapfenalhleaaPack17
import Derived.Test.YtgiapfenalhleaaPack18
import Derived.Test.YtgiapfenalhleaaPack19
import Derived.Test.YtgiapfenalhleaaPack20
import Derived.Test.YtgiapfenalhleaaPack21
import Derived.Test.YtgiapfenalhleaaPack22
import Derived.Test.YtgiapfenalhleaaPack23
import Derived.Test.YtgiapfenalhleaaPack24
import Derived.Test.YtgiapfenalhleaaPack25
import Derived.Test.YtgiapfenalhleaaPack26
import Derived.Test.YtgiapfenalhleaaPack27
import Derived.Test.YtgiapfenalhleaaPack28
import Derived.Test.YtgiapfenalhleaaPack29
import Derived.Test.YtgiapfenalhleaaPack30
import Derived.Test.YtgiapfenalhleaaPack31
namespace Go.Proofs.Ytgiapfenalhleaa
open Go.RowKit Go.WalkArith

/-- A record that is none, in a block of its own. -/
def zRec : Obj := .cells #[.int .u64 0, .slice none 0 0] 83
theorem zfacts (w W : World) (h : Below (w.heap.size + 2) ((w.alloc zRec).alloc zRec) W) :
    W.cell? ⟨w.heap.size, 0, none⟩ = some (.int .u64 0) ∧ W.cell? ⟨w.heap.size, 1, none⟩ = some (.slice none 0 0) ∧ W.cell? ⟨w.heap.size + 1, 0, none⟩ = some (.int .u64 0) ∧ W.cell? ⟨w.heap.size + 1, 1, none⟩ = some (.slice none 0 0) ∧
    W.frozen? ⟨w.heap.size, 0, none⟩ = false ∧ W.frozen? ⟨w.heap.size, 1, none⟩ = false := by
  have e1 : W.heap[w.heap.size]? = some zRec := (h.block _ (by omega)).trans (by rw [Below.heap_alloc _ _ _ (by simp)]; exact heap_alloc_new _ _)
  have e2 : W.heap[w.heap.size + 1]? = some zRec := (h.block _ (by omega)).trans (alloc2_new _ _ _)
  refine ⟨?_, ?_, ?_, ?_, ?_, ?_⟩ <;> simp [World.cell?, World.frozen?, e1, e2, zRec]
theorem zbel (w : World) : Below w.heap.size w ((w.alloc zRec).alloc zRec) := bel_alloc (bel_alloc (Below.refl _ _) _) _
theorem set2 {w : World} {b : Nat} {u v x y : Value} (z0 : w.cell? ⟨b, 0, none⟩ = some u) (z1 : w.cell? ⟨b, 1, none⟩ = some v) :
    ((w.setCell ⟨b, 0, none⟩ x).setCell ⟨b, 1, none⟩ y).cell? ⟨b, 0, none⟩ = some x ∧ ((w.setCell ⟨b, 0, none⟩ x).setCell ⟨b, 1, none⟩ y).cell? ⟨b, 1, none⟩ = some y := by
  constructor <;> go_simp
theorem zsize (w : World) : ((w.alloc zRec).alloc zRec).heap.size = w.heap.size + 2 := by simp

set_option maxRecDepth 100000 in
set_option maxHeartbeats 1000000 in
theorem next_64 (A A' : Option Addr) (n c n' c' : Nat) (acc : List Rec) (ys : List Int) (w : World) (hu : Sl lay_Record w (· < w.heap.size) A n c acc) (h64 : acc.length = 64) :
    Calls Try.prog 81 #[.slice A n c, .slice A' n' c'] w fun e w' => e = .returned (.tuple #[.agg #[.int .u64 0, .slice none 0 0], .slice none 0 0, .int .i64 (stepE ys acc)]) ∧ Below w.heap.size w w' := by
  have hn : n = 64 := by rw [← hu.len, h64]
  have HE := hid (stepE_64 (ys := ys) h64)
  subst hn
  clear h64 hu
  go_enter Try.func81, Try.ntmps81
  go_wp2
  refine bodyPost_ret_by (results_ctt rfl _ _ w.heap.size 0 rfl [.int .u64 0, .slice none 0 0] _ (range2 ?_ ?_) Try.underlying83 rfl (by kernel_rfl)) rfl ?_
  · go_simp
  · go_simp
  · exact ⟨by rw [HE.out]; rfl, by (repeat (first | exact Below.refl _ _ | refine Below.drew ?_ | refine bel_drewN ?_ _ | refine bel_alloc ?_ _ | refine bel_call ?_ (by assumption)))⟩

set_option maxRecDepth 100000 in
set_option maxHeartbeats 1000000 in
theorem next_no (A A' : Option Addr) (n c n' c' : Nat) (acc : List Rec) (ys : List Int) (w : World) (hu : Sl lay_Record w (· < w.heap.size) A n c acc) (hr : Rd w w.heap.size .u8 A' n' c' ys) (h64 : acc.length ≠ 64) (he : getE ys ≠ 0) :
    Calls Try.prog 81 #[.slice A n c, .slice A' n' c'] w fun e w' => e = .returned (.tuple #[.agg #[.int .u64 0, .slice none 0 0], .slice none 0 0, .int .i64 (stepE ys acc)]) ∧ Below w.heap.size w w' := by
  have hn : ((n : Int) == 64) = false := by have := hu.len; simp; omega
  have HE := hid (stepE_1 h64 he)
  have HE1 := hid he
  have hne : (getE ys != 0) = true := by simpa using he
  have hb0 := zbel w
  have RR := hid ((hr.below hb0))
  have HZ := hid (zfacts w)
  have hz := zsize w
  unfold zRec at hb0 RR HZ hz
  clear h64 hu he hr
  go_enter Try.func81, Try.ntmps81
  go_wp2_with fail
  with_reducible refine (get_bad _ _ _ _ ys _ RR.out HE1.out).mono ?_
  rintro e w2 ⟨rfl, hb2⟩
  obtain ⟨z0, z1, y0, y1, f0, f1⟩ := HZ.out _ (by rw [hz] at hb2; exact hb2)
  go_wp2
  refine bodyPost_ret_by (results_ctt rfl _ _ w.heap.size 0 rfl [.int .u64 0, .slice none 0 0] _ (range2 (set2 z0 z1).1 (set2 z0 z1).2) Try.underlying83 rfl (by kernel_rfl)) rfl ?_
  exact ⟨by rw [HE.out]; rfl, ((hb0.trans (hb2.mono hb0.size)).setCell (Nat.le_refl _) _).setCell (Nat.le_refl _) _⟩
set_option maxRecDepth 100000 in
set_option maxHeartbeats 2000000 in
theorem next_go (A A' : Option Addr) (n c n' c' : Nat) (acc : List Rec) (ys : List Int) (w : World) (B : Nat) (hB : B ≤ w.heap.size) (hu : Sl lay_Record w (· < w.heap.size) A n c acc) (hr : Rd w B .u8 A' n' c' ys) (h64 : acc.length ≠ 64) (he1 : getE ys = 0) :
    Calls Try.prog 81 #[.slice A n c, .slice A' n' c'] w fun e w' => (stepE ys acc ≠ 0 ∧ e = .returned (.tuple #[.agg #[.int .u64 0, .slice none 0 0], .slice none 0 0, .int .i64 (stepE ys acc)]) ∧ Below w.heap.size w w') ∨
      (stepE ys acc = 0 ∧ ∃ (v : Value) (A2 : Option Addr) (n2 c2 : Nat), e = .returned (.tuple #[.agg #[.int .u64 (stepRec ys).T, v], .slice A2 n2 c2, .int .i64 0]) ∧ Own w' w.heap.size 5 .u8 v (stepRec ys).V ∧ Rd w' B .u8 A2 n2 c2 (stepRest ys) ∧ n2 < n' ∧ (0 ≤ (stepRec ys).T ∧ (stepRec ys).T ≤ 18446744073709551615) ∧ Below w.heap.size w w') := by
  have hn : ((n : Int) == 64) = false := by have := hu.len; simp; omega
  obtain ⟨x1, k1, hX1, hK1, hk1', hk19, hk1, hx1b, hR1⟩ := num_at hr he1
  have hcap := hr.cap
  unfold maxLen at hcap
  have hb0 := zbel w
  have RR := hid (hr.below (hb0.mono hB))
  have RR1 := hid (hR1.below (hb0.mono hB))
  have UU := hid (hu.keep fun _ hp => hb0.cell hp)
  have HZ := hid (zfacts w)
  have hz := zsize w
  have H64 := hid h64
  have HE1 := hid he1
  have X1 := hid hX1
  have K1 := hid hK1
  have hsl1 := run_from (P := Try.prog) 46 5 Try.underlying46 Try.elemU8 Try.infoU8 A' n' c' k1 hk1
  have HT := hid (show (stepRec ys).T = (x1 : Int) from hX1)
  unfold zRec at hb0 RR HZ hz UU RR1
  clear h64 hu he1 hr hX1 hK1 hR1
  go_enter Try.func81, Try.ntmps81
  go_wp2_with fail
  with_reducible refine (get_ok _ _ _ _ ys _ RR.out HE1.out).mono ?_
  rw [K1.out, X1.out]
  generalize (w.alloc (Obj.cells #[.int .u64 0, .slice none 0 0] 83)).alloc (Obj.cells #[.int .u64 0, .slice none 0 0] 83) = W0 at *
  rintro e w2 ⟨rfl, hb2⟩
  have U2 := hid (UU.out.keep fun _ hp => hb2.cell (Nat.lt_of_lt_of_le hp hb0.size))
  by_cases h3 : lastT acc < (x1 : Int)
  case neg =>
    have HE := hid (stepE_2 H64.out HE1.out (by rw [X1.out]; omega))
    have hd : decide (lastT acc < (x1 : Int)) = false := decide_eq_false h3
    clear h3
    obtain ⟨z0, z1, y0, y1, f0, f1⟩ := HZ.out _ (by rw [hz] at hb2; exact hb2)
    have HB := hb2
    go_wp2_with (go_at_call 94; go_must (refine (rises_any _ _ _ _ acc _ _ U2.out (by omega)).mono ?_; rw [hd]; rintro e w3 ⟨rfl, rfl⟩))
    refine bodyPost_ret_by (results_ctt rfl _ _ w.heap.size 0 rfl [.int .u64 0, .slice none 0 0] _ (range2 (set2 z0 z1).1 (set2 z0 z1).2) Try.underlying83 rfl (by kernel_rfl)) rfl ?_
    exact .inl ⟨by rw [HE.out]; decide, by rw [HE.out]; rfl, ((hb0.trans (HB.mono hb0.size)).setCell (Nat.le_refl _) _).setCell (Nat.le_refl _) _⟩
  have H3N := hid (show lastT acc < rdN ys from by rw [X1.out]; exact h3)
  have hd : decide (lastT acc < (x1 : Int)) = true := decide_eq_true h3
  clear h3
  have R1 := RR1.out.below (hb2.mono (Nat.le_trans hB hb0.size))
  have hR1 := hid R1
  by_cases he2 : getE (rest1 ys) = 0
  case neg =>
    have HE := hid (stepE_3 H64.out HE1.out H3N.out he2)
    have HE2 := hid he2
    have hne : (getE (rest1 ys) != 0) = true := by simpa using he2
    clear he2
    go_wp2_with (go_at_call 94; go_must (refine (rises_any _ _ _ _ acc _ _ U2.out (by omega)).mono ?_; rw [hd]; rintro e w3 ⟨rfl, rfl⟩))
    with_reducible refine (get_bad _ _ _ _ (rest1 ys) _ R1 HE2.out).mono ?_
    rintro e w3 ⟨rfl, hb3⟩
    have HB := bel_call hb2 hb3
    obtain ⟨z0, z1, y0, y1, f0, f1⟩ := HZ.out _ (by rw [hz] at HB; exact HB)
    go_wp2
    refine bodyPost_ret_by (results_ctt rfl _ _ w.heap.size 0 rfl [.int .u64 0, .slice none 0 0] _ (range2 (set2 z0 z1).1 (set2 z0 z1).2) Try.underlying83 rfl (by kernel_rfl)) rfl ?_
    exact .inl ⟨by rw [HE.out]; exact HE2.out, by rw [HE.out]; rfl, ((hb0.trans (HB.mono hb0.size)).setCell (Nat.le_refl _) _).setCell (Nat.le_refl _) _⟩
  obtain ⟨m, k2, hX2, hK2, hk2', hk29, hk2, hm1, hR2⟩ := num_at R1 he2
  have HE2 := hid he2
  have X2 := hid hX2
  have K2 := hid hK2
  have HR2 := hid hR2
  have hsl2 := run_from (P := Try.prog) 46 5 Try.underlying46 Try.elemU8 Try.infoU8 (cutA A' c' k1) (n' - k1) (c' - k1) k2 hk2
  have HRN := hid (show recN ys = m from by unfold recN; rw [hX2]; rfl)
  have HL2 := hid (show (rest2 ys).length = n' - k1 - k2 from hR2.len)
  clear he2 hX2 hK2 hR2
  go_wp2_with (go_at_call 94; go_must (refine (rises_any _ _ _ _ acc _ _ U2.out (by omega)).mono ?_; rw [hd]; rintro e w3 ⟨rfl, rfl⟩))
  with_reducible refine (get_ok _ _ _ _ (rest1 ys) _ R1 HE2.out).mono ?_
  rw [K2.out, X2.out]
  rintro e w3 ⟨rfl, hb3⟩
  have HB := bel_call hb2 hb3
  obtain ⟨z0, z1, y0, y1, f0, f1⟩ := HZ.out _ (by rw [hz] at HB; exact HB)
  by_cases h5 : 4096 < m
  · have HE := hid (stepE_4 H64.out HE1.out H3N.out HE2.out (by rw [X2.out]; omega))
    have h5' : (4096 : Int) < (m : Int) := by omega
    go_wp2
    refine bodyPost_ret_by (results_ctt rfl _ _ w.heap.size 0 rfl [.int .u64 0, .slice none 0 0] _ (range2 (set2 z0 z1).1 (set2 z0 z1).2) Try.underlying83 rfl (by kernel_rfl)) rfl ?_
    exact .inl ⟨by rw [HE.out]; decide, by rw [HE.out]; rfl, ((hb0.trans (HB.mono hb0.size)).setCell (Nat.le_refl _) _).setCell (Nat.le_refl _) _⟩
  have hm4 : m ≤ 4096 := by omega
  have d5 : decide ((4096 : Int) < (m : Int)) = false := by simp; omega
  by_cases h6 : n' - k1 - k2 < m
  · have HE := hid (stepE_5 H64.out HE1.out H3N.out HE2.out (by rw [X2.out]; omega) (by rw [HRN.out, HL2.out]; exact h6))
    have h6' : ((n' - k1 - k2 : Nat) : Int) < (m : Int) := by omega
    go_wp2
    refine bodyPost_ret_by (results_ctt rfl _ _ w.heap.size 0 rfl [.int .u64 0, .slice none 0 0] _ (range2 (set2 z0 z1).1 (set2 z0 z1).2) Try.underlying83 rfl (by kernel_rfl)) rfl ?_
    exact .inl ⟨by rw [HE.out]; decide, by rw [HE.out]; rfl, ((hb0.trans (HB.mono hb0.size)).setCell (Nat.le_refl _) _).setCell (Nat.le_refl _) _⟩
  have h6' : m ≤ n' - k1 - k2 := by omega
  have h6'' : decide (((n' - k1 - k2 : Nat) : Int) < (m : Int)) = false := by simp; omega
  have hup := run_uptoK (P := Try.prog) 46 5 .u64 Try.underlying46 Try.elemU8 Try.infoU8 (cutA (cutA A' c' k1) (c' - k1) k2) (n' - k1 - k2) (c' - k1 - k2) m (by have := HR2.out.cap; omega)
  have hfr := run_fromK (P := Try.prog) 46 5 .u64 Try.underlying46 Try.elemU8 Try.infoU8 (cutA (cutA A' c' k1) (c' - k1) k2) (n' - k1 - k2) (c' - k1 - k2) m h6'
  have HS := hid (stepE_6 H64.out HE1.out H3N.out HE2.out (by rw [X2.out]; omega) (by rw [HRN.out, HL2.out]; exact h6'))
  have hzz : W0.heap.size ≤ w3.heap.size := HB.size
  have R2 := HR2.out.below (hb3.mono (Nat.le_trans hB (Nat.le_trans hb0.size hb2.size)))
  have RU := hid (R2.upto h6')
  have RF := hid (R2.cut h6')
  have hgw : w.heap.size ≤ w3.heap.size := Nat.le_trans hb0.size hzz
  have hBw : B ≤ w3.heap.size := Nat.le_trans hB hgw
  have hmb : m < 140737488355328 := by omega
  have HZ4 := hid (fun (W : World) (h : Below W0.heap.size W0 W) => HZ.out W (by rw [hz] at h; exact h))
  clear R2
  go_wp2_with fail
  go_region_held3 (fun w' => (w'.cell? ⟨w.heap.size, 0, none⟩).isSome = true ∧ (w'.cell? ⟨w.heap.size, 1, none⟩).isSome = true ∧ w'.frozen? ⟨w.heap.size, 0, none⟩ = false ∧ w'.frozen? ⟨w.heap.size, 1, none⟩ = false) (first | exact ⟨by rw [z0]; rfl, by rw [z1]; rfl, f0, f1⟩ | exact ⟨by rw [p0]; rfl, by rw [p1]; rfl, g0, g1⟩ | exact ⟨by rw [(set2 p0 p1).1]; rfl, by rw [(set2 p0 p1).2]; rfl, by simp [g0], by simp [g1]⟩ | go_keep)
    (first
      | (go_at_call 62; (refine (clone_any _ _ _ B ((rest2 ys).take m) _ RU.out.drew hBw hmb).mono ?_; rintro e w4 ⟨v4, rfl, hown4, hb4⟩; obtain ⟨A4, n4, c4, rfl, hr4⟩ := hown4.formN; have HB4 := bel_call HB.drew hb4; obtain ⟨p0, p1, -, -, g0, g1⟩ := HZ4.out w4 HB4)))
  have hgw' : w.heap.size < w3.heap.size := by have h9 := hzz; rw [hz] at h9; omega
  have F3 : Below w.heap.size w3 ((w4.setCell ⟨w.heap.size, 0, none⟩ (.int .u64 x1)).setCell ⟨w.heap.size, 1, none⟩ (.slice A4 n4 c4)) := (((Below.refl w.heap.size w3).drew.trans (hb4.mono hgw)).setCell (Nat.le_refl _) _).setCell (Nat.le_refl _) _
  go_wp2
  refine bodyPost_ret_by (results_ctt rfl _ _ w.heap.size 0 rfl [.int .u64 x1, .slice A4 n4 c4] _ (range2 (set2 p0 p1).1 (set2 p0 p1).2) Try.underlying83 rfl (by kernel_rfl)) rfl ?_
  refine .inr ⟨HS.out, _, _, _, _, by rw [HT.out]; rfl, ?_, ?_, by omega, by rw [HT.out]; omega, (hb0.trans (HB.mono hb0.size)).trans F3⟩
  · rw [show (stepRec ys).V = (rest2 ys).take (recN ys) from rfl, HRN.out]
    exact (show Own _ w3.heap.size _ _ _ _ from ⟨ownsRow_setCell_below (ownsRow_setCell_below hown4.1 hgw' _) hgw' _, hown4.2⟩).weaken hgw
  · rw [show stepRest ys = (rest2 ys).drop (recN ys) from rfl, HRN.out]
    exact RF.out.below (F3.mono hB)

set_option maxRecDepth 100000 in
set_option maxHeartbeats 1000000 in
theorem tlvGet_any (A : Option Addr) (n c : Nat) (xs : List Int) (w : World) (hr : Rd w w.heap.size .u8 A n c xs) :
    Calls Try.prog 53 #[.slice A n c] w fun e w' => ∃ v', e = .returned (.tuple #[v', .int .i64 (getR xs).2]) ∧ OwnL lay_Record w' w.heap.size (some w.heap.size) 83 v' (getR xs).1 ∧ Below w.heap.size w w' := by
  have hcap := hr.cap
  unfold maxLen at hcap
  have hlen := hr.len
  by_cases hbig : 65535 < n
  · have HS := hid (show getR xs = ([], 4) from by unfold getR; rw [if_neg (by omega)])
    have hb' : (65535 : Int) < n := by omega
    go_enter Try.func53, Try.ntmps53
    go_wp2
    go_ret2
    exact ⟨_, by rw [HS.out]; rfl, by rw [HS.out]; exact OwnL.nil _ _ _ _ _, Below.refl _ _⟩
  have HS := hid (show getR xs = getRA xs.length xs [] from by unfold getR; rw [if_pos (by omega)])
  have hd : decide ((65535 : Int) < (n : Int)) = false := by simp; omega
  have hn : n ≤ 65535 := by omega
  clear hlen hbig
  go_enter Try.func53, Try.ntmps53
  go_wp2
  go_loopw [0, 4] (fun s u wr => GetInv w n xs s u wr) (fun s _ _ => slen s)
  case atStart => exact ⟨A, n, c, xs.length, xs, [], rfl, hr, OwnL.nil _ _ _ _ _, Below.refl _ _, Nat.le_refl _, by simp, Nat.le_refl _, rfl⟩
  case round =>
    obtain ⟨A', n', c', f, ys, acc, rfl, hr', hown, hbel, hnn, hac, hf, hall⟩ := hrel
    have HA := hid hall
    clear hall
    have hl' := hr'.len
    have hsz := hbel.size
    by_cases hz : n' = 0
    · have hy : ys = [] := List.eq_nil_of_length_eq_zero (by omega)
      subst hz hy
      go_wp2
      go_ret2
      exact ⟨_, by rw [HS.out, HA.out, getRA_nil]; rfl, by rw [HS.out, HA.out, getRA_nil]; exact hown, hbel⟩
    have hpos : (0 : Int) < (n' : Int) := by omega
    have hy : ys ≠ [] := fun e => hz (by rw [← hl', e]; rfl)
    have HY := hid hy
    have HF := hid hf
    have HAC := hid hac
    obtain ⟨Au, nu, cu, rfl, hu⟩ := hown.read
    have hnu : nu ≤ 64 := by rw [← hu.len]; exact hac
    have HN := hid (show Calls Try.prog 81 #[.slice Au nu cu, .slice A' n' c'] wr fun e w' => (stepE ys acc ≠ 0 ∧ e = .returned (.tuple #[.agg #[.int .u64 0, .slice none 0 0], .slice none 0 0, .int .i64 (stepE ys acc)]) ∧ Below wr.heap.size wr w') ∨
      (stepE ys acc = 0 ∧ ∃ (v : Value) (A2 : Option Addr) (n2 c2 : Nat), e = .returned (.tuple #[.agg #[.int .u64 (stepRec ys).T, v], .slice A2 n2 c2, .int .i64 0]) ∧ Own w' wr.heap.size 5 .u8 v (stepRec ys).V ∧ Rd w' w.heap.size .u8 A2 n2 c2 (stepRest ys) ∧ n2 < n' ∧ (0 ≤ (stepRec ys).T ∧ (stepRec ys).T ≤ 18446744073709551615) ∧ Below wr.heap.size wr w') from by
      by_cases h64 : acc.length = 64
      · exact (next_64 _ _ _ _ _ _ acc ys _ hu h64).mono fun e w' h => .inl ⟨by rw [stepE_64 h64]; decide, h⟩
      · by_cases he1 : getE ys = 0
        · exact next_go _ _ _ _ _ _ acc ys _ w.heap.size hsz hu hr' h64 he1
        · exact (next_no _ _ _ _ _ _ acc ys _ hu (hr'.more hsz) h64 he1).mono fun e w' h => .inl ⟨by rw [stepE_1 h64 he1]; exact he1, h⟩)
    clear hy hl' hf hac
    go_wp2_with fail
    with_reducible refine HN.out.mono ?_
    rintro e w2 (⟨hne, rfl, hb2⟩ | ⟨heq, v, A2, n2, c2, rfl, hov, hr2, hlt2, hTb, hb2⟩)
    · have HE := hid hne
      have hnb : (stepE ys acc != 0) = true := by simpa using hne
      clear hne
      go_wp2
      go_ret2
      have h5 : getR xs = ([], stepE ys acc) := by rw [HS.out, HA.out, getRA_bad f ys acc HF.out HY.out HE.out]
      exact ⟨_, by rw [h5]; rfl, by rw [h5]; exact OwnL.nil _ _ _ _ _, (hbel.trans (hb2.mono hsz)).trans ((Below.refl _ _).alloc (Nat.le_trans hsz hb2.size) _)⟩
    · obtain ⟨f', hstep, hfl⟩ := getRA_step f ys acc HF.out HY.out heq
      have HSTEP := hid hstep
      have HFL := hid hfl
      have H64 := hid (stepE_ok heq).1
      clear hstep hfl heq
      obtain ⟨A5, n5, c5, rfl, hs5⟩ := hov.slI
      have hz2 : w.heap.size ≤ w2.heap.size := Nat.le_trans hsz hb2.size
      have hR := hid (show lay_Record.rep w2 (From w2 wr.heap.size) (stepRec ys) (#[.int .u64 (stepRec ys).T, .slice A5 n5 c5] : Array Value).toList from rep_Record.2 ⟨A5, n5, c5, rfl, wf_u64 hTb, hs5⟩)
      have hEl : ∀ b, From w2 wr.heap.size b → Els w2 (some w.heap.size) (.slice Au nu cu) b := fun b hb => ⟨⟨Nat.le_trans hsz hb.1, hb.2.2⟩, hb.2.1, fun he => by have h9 := hown.lt he.symm; have h8 := hb.1; omega⟩
      have HEL := hid hEl
      have hown2 := hown.keep hb2
      have hal := HAC.out
      have hWW : ∀ o, Below w2.heap.size w2 (w2.alloc o) := fun o => bel_alloc (Below.refl _ _) _
      have HWW := hid (fun (o o' : Obj) => bel_alloc (bel_alloc (Below.refl w2.heap.size w2) o) o')
      clear hWW hEl
      go_wp2_with (at_builtin; go_must (refine wpList_pushG (w := w2) rfl (.tmp 24) (.tmp 26) 81 rfl w.heap.size (some w.heap.size) 83 _ 32 Try.underlying81 Try.infoRec rfl (by decide) (.slice Au nu cu) acc (stepRec ys) #[.int .u64 (stepRec ys).T, .slice A5 n5 c5] (From w2 wr.heap.size) (w2.heap.size + 1) rfl rfl (HWW.out _ _) (alloc2_new _ _ _) hown2 hR.out HEL.out hz2 (by omega) (by unfold maxLen; omega) ?_; intro v6 w6 hown6 hext6))
      have hb6 := (hown2.keep (HWW.out _ _)).below hext6 (Nat.le_trans hz2 (HWW.out _ _).size)
      have hbz := (HWW.out (Obj.cells #[.int .u64 (stepRec ys).T, .slice A5 n5 c5] 83) (Obj.cells #[.int .u64 (stepRec ys).T, .slice A5 n5 c5] 83)).mono hz2
      go_roundw
      case rel => exact ⟨_, _, _, f', stepRest ys, acc ++ [stepRec ys], rfl, (hr2.below hbz).below hb6, hown6, ((hbel.trans (hb2.mono hsz)).trans hbz).trans hb6, by omega, by have := H64.out; simp; omega, HFL.out, HA.out.trans HSTEP.out⟩
      case measure => simp [slen]; omega
end Go.Proofs.Ytgiapfenalhleaa
