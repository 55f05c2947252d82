/-
  The contracts of the document's own octet, and Feed, of layer 3.
-/
import Derived.Test.YtbcahbgdjoahaaaFrameRef2
import Derived.Deep.RegionHeld3
import Derived.Deep.Cut
namespace Go.Proofs.Ytbcahbgdjoahaaa
open Go.RowKit Go.WalkArith

theorem two_blocks {w W : World} {a b c d : Value} {t : TypeId} (h : Below (w.heap.size + 2) ((w.alloc (.cells #[a, b] t)).alloc (.cells #[c, d] t)) W) :
    W.cell? ⟨w.heap.size, 0, none⟩ = some a ∧ W.cell? ⟨w.heap.size, 1, none⟩ = some b ∧ W.cell? ⟨w.heap.size + 1, 0, none⟩ = some c ∧ W.cell? ⟨w.heap.size + 1, 1, none⟩ = some d ∧
    W.frozen? ⟨w.heap.size, 0, none⟩ = false ∧ W.frozen? ⟨w.heap.size, 1, none⟩ = false ∧ W.frozen? ⟨w.heap.size + 1, 0, none⟩ = false ∧ W.frozen? ⟨w.heap.size + 1, 1, none⟩ = false := by
  have e1 : W.heap[w.heap.size]? = some (.cells #[a, b] t) := (h.block _ (by omega)).trans (by rw [Below.heap_alloc _ _ _ (by simp)]; exact heap_alloc_new _ _)
  have e2 : W.heap[w.heap.size + 1]? = some (.cells #[c, d] t) := (h.block _ (by omega)).trans (alloc2_new _ _ _)
  refine ⟨?_, ?_, ?_, ?_, ?_, ?_, ?_, ?_⟩ <;> simp [World.cell?, World.frozen?, e1, e2]
theorem set2' {w : World} {b : Nat} {u v x y : Value} (z0 : w.cell? ⟨b, 0, none⟩ = some u) (z1 : w.cell? ⟨b, 1, none⟩ = some v) :
    ((w.setCell ⟨b, 0, none⟩ x).setCell ⟨b, 1, none⟩ y).cell? ⟨b, 0, none⟩ = some x ∧ ((w.setCell ⟨b, 0, none⟩ x).setCell ⟨b, 1, none⟩ y).cell? ⟨b, 1, none⟩ = some y := by
  constructor <;> go_simp
/-- What is reached from blocks above b is not touched by writing block b. -/
theorem Sl.setLow {α : Type} {L : Lay α} {w : World} {l b : Nat} {A : Option Addr} {n c : Nat} {xs : List α} (h : Sl L w (From w l) A n c xs) (hb : b < l) (i : Nat) (u : Value) : Sl L (w.setCell ⟨b, i, none⟩ u) (From (w.setCell ⟨b, i, none⟩ u) l) A n c xs := by
  have hne : ∀ k, From w l k → k ≠ b := fun k hk e => by have := hk.1; omega
  refine (h.keep fun p hp => World.cell?_of_block (Below.heap_setCell _ _ _ _ (hne _ hp))).wide fun k hk => ⟨hk.1, by simpa using hk.2.1, hk.2.2.of_block (Below.heap_setCell _ _ _ _ (hne k hk))⟩
theorem Sl.drewF {α : Type} {L : Lay α} {w : World} {l : Nat} {A : Option Addr} {n c : Nat} {xs : List α} (h : Sl L w (From w l) A n c xs) (k : Nat) : Sl L (w.drewN k) (From (w.drewN k) l) A n c xs := (h.keep (w' := w.drewN k) fun _ _ => rfl).wide fun _ hb => hb
theorem Sl.low {α : Type} {L : Lay α} {w : World} {l l' : Nat} {A : Option Addr} {n c : Nat} {xs : List α} (h : Sl L w (From w l) A n c xs) (hl : l' ≤ l) : Sl L w (From w l') A n c xs := h.wide fun _ hb => hb.le hl

def OctPost (w : World) (r' : Rdr) (o : List (List Int)) (e : Ending) (w' : World) : Prop :=
  ∃ A1 n1 c1 A2 n2 c2, e = .returned (.tuple #[.agg #[.slice A1 n1 c1, .bool r'.Bad], .slice A2 n2 c2, .bool (decide (o ≠ []))]) ∧ Sl (Lay.int .u8) w' (From w' w.heap.size) A1 n1 c1 r'.B ∧ (o = [] ∨ ∃ t, o = [t] ∧ Sl (Lay.int .u8) w' (From w' w.heap.size) A2 n2 c2 t) ∧ Below w.heap.size w w'

set_option maxRecDepth 100000 in
set_option maxHeartbeats 2000000 in
theorem octet_any (A : Option Addr) (n c : Nat) (B : List Int) (bad : Bool) (x : Int) (w : World) (hV : Sl (Lay.int .u8) w (· < w.heap.size) A n c B) (hn : n ≤ 70000) (hx : 0 ≤ x ∧ x ≤ 255) :
    Calls Try.prog 23 #[.agg #[.slice A n c, .bool bad], .int .u8 x] w (OctPost w (octS B x).1 (octS B x).2) := by
  have hl := hV.len
  have hb0 : Below w.heap.size w ((w.alloc (Obj.cells #[.slice A n c, .bool bad] 24)).alloc (Obj.cells #[.slice none 0 0, .bool false] 24)) := bel_alloc (bel_alloc (Below.refl _ _) _) _
  have R := (hV.rd (B := w.heap.size) fun _ h => h).below hb0
  have HZ := hid (fun W => @two_blocks w W (.slice A n c) (.bool bad) (.slice none 0 0) (.bool false) 24)
  have hz : ((w.alloc (Obj.cells #[.slice A n c, .bool bad] 24)).alloc (Obj.cells #[.slice none 0 0, .bool false] 24)).heap.size = w.heap.size + 2 := by simp
  have hob := (oct_of R).app (Oct.one hx)
  have hlb := longN_bd hob
  have HR := hid R
  have hwx : (Lit.int .u8 x).wf = true := wf_u8 hx
  clear R hV
  go_enter Try.func23, Try.ntmps23
  go_upto_region 2 with (first | (at_builtin; refine wpList_cat rfl (.const (.slice none 0 0)) (.tmp 9) 22 rfl (w.heap.size + 2) 5 .u8 1 Try.underlying22 Try.infoU8 (.slice none 0 0) [] w.heap.size A n c B rfl rfl (Own.nil _ _ _ _) HR.out (by simp) (by simp; omega) (by simp; omega) ?_; intro v5 w5 hown5 hext5; simp only [List.nil_append] at hown5; have hs5 : w.heap.size + 2 ≤ w5.heap.size := (by have h9 := hext5.size; simp at h9; omega)) | (at_builtin; go_must (refine wpList_push rfl (.tmp 10) (.tmp 12) 22 rfl (w.heap.size + 2) 5 .u8 1 Try.underlying22 Try.infoU8 v5 B x rfl rfl hown5 hwx hs5 (by omega) (by omega) ?_; intro v6 w6 hown6 hext6)) | fail)
  obtain ⟨A6, n6, c6, rfl, hs6⟩ := hown6.slI
  have R6 := hs6.rd (B := w6.heap.size) fun b hb => hb.2.1
  have hl6 := R6.len
  have hc6 := R6.cap
  unfold maxLen at hc6
  have hn6 : n6 ≤ 70001 := by rw [← hl6]; simp [hl]; omega
  have HBz : Below (w.heap.size + 2) ((w.alloc (Obj.cells #[.slice A n c, .bool bad] 24)).alloc (Obj.cells #[.slice none 0 0, .bool false] 24)) w6 := by
    have h1 := hext5.of_nil
    rw [hz] at h1
    exact h1.trans (hown5.below hext6 hs5)
  have hz6 : w.heap.size + 2 ≤ w6.heap.size := by have := HBz.size; rw [hz] at this; exact this
  have HBW := hid (hb0.trans (HBz.mono (by omega)))
  have HS6 := hid hs6
  have HSK := hid (fun k => (show Sl (Lay.int .u8) (w6.drewN k) (From (w6.drewN k) (w.heap.size + 2)) A6 n6 c6 (B ++ [x]) from hs6.drewF k))
  obtain ⟨-, -, z0, z1, -, -, f0, f1⟩ := HZ.out _ HBz
  clear hext5 hext6 hown5 hown6 HBz hb0 HR hs6
  generalize hG : B ++ [x] = b at *
  rcases Nat.lt_or_ge n6 2 with h2 | h2
  · have HO := hid (show octS B x = (⟨b, false⟩, []) from by unfold octS; rw [hG, if_neg (by omega), if_neg (by omega)])
    have d2 : decide ((2 : Int) ≤ (n6 : Int)) = false := by simp; omega
    clear hG hl6
    go_wp2
    refine bodyPost_ret_by (results_ctt rfl _ _ (w.heap.size + 1) 0 rfl [.slice A6 n6 c6, .bool false] _ (range2 (set2' z0 z1).1 (set2' z0 z1).2) Try.underlying24 rfl (by kernel_rfl)) rfl ?_
    rw [HO.out]
    exact ⟨A6, n6, c6, none, 0, 0, rfl, ((HS6.out.setLow (by omega) _ _).setLow (by omega) _ _).low (by omega), .inl rfl, (HBW.out.setCell (by simp) _).setCell (by simp) _⟩
  have d2 : decide ((2 : Int) ≤ (n6 : Int)) = true := by simp; omega
  have HLONG := hid (long_any _ _ _ _ b w6 R6 h2)
  have HLONK := hid (fun k => long_any _ _ _ _ b (w6.drewN k) (R6.drewN k) h2)
  have HO : octS B x = if 4096 < longN b then (⟨[], true⟩, []) else if ((b.length : Nat) : Int) - 2 = longN b then (⟨[], false⟩, [b.drop 2]) else (⟨b, false⟩, []) := by
    unfold octS
    rw [hG]
    by_cases h4 : 4096 < longN b
    · rw [if_pos ⟨by omega, h4⟩, if_pos h4]
    · rw [if_neg (fun h => h4 h.2), if_neg h4]
      by_cases h5 : ((b.length : Nat) : Int) - 2 = longN b
      · rw [if_pos ⟨by omega, h5⟩, if_pos h5]
      · rw [if_neg (fun h => h5 h.2), if_neg h5]
  rw [hl6] at HO
  clear hG R6
  by_cases h4 : 4096 < longN b
  · rw [if_pos h4] at HO
    have HO' := hid HO
    clear HO
    have d3 : decide ((4096 : Int) < longN b) = true := by simpa using h4
    generalize longN b = L at *
    go_wp2_with (go_at_call 25; go_must (with_reducible refine HLONG.out.mono ?_; rintro e w' ⟨rfl, m, rfl⟩))
    refine bodyPost_ret_by (results_ctt rfl _ _ (w.heap.size + 1) 0 rfl [.slice none 0 0, .bool true] _ (range2 (set2' z0 z1).1 (set2' z0 z1).2) Try.underlying24 rfl (by kernel_rfl)) rfl ?_
    rw [HO'.out]
    exact ⟨none, 0, 0, none, 0, 0, rfl, Sl.nil _ _ _, .inl rfl, ((bel_drewN HBW.out _).setCell (by simp) _).setCell (by simp) _⟩
  rw [if_neg h4] at HO
  have d3 : decide ((4096 : Int) < longN b) = false := by simpa using h4
  have ws : IntKind.i64.wrap ((n6 : Int) - 2) = (n6 : Int) - 2 := IntWalk.i64_in _ (by omega)
  by_cases h5 : (n6 : Int) - 2 = longN b
  · rw [if_pos h5] at HO
    have HO' := hid HO
    have d4 : ((n6 : Int) - 2 == longN b) = true := by simpa using h5
    have hfr : ∀ W : World, (Instr.slice 22 (.slice A6 n6 c6) (some (.int .i64 2)) none none).run Try.prog W = .ok (.slice (cutA A6 c6 2) (n6 - 2) (c6 - 2)) W := fun W => run_fromK (P := Try.prog) 22 5 .i64 Try.underlying22 Try.elemU8 Try.infoU8 A6 n6 c6 2 h2 W
    clear HO h4 h5
    generalize longN b = L at *
    go_wp2_with (go_at_call 25; first | (with_reducible refine HLONG.out.mono ?_; rintro e w' ⟨rfl, m, rfl⟩) | (with_reducible refine (HLONK.out _).mono ?_; rintro e w' ⟨rfl, m', rfl⟩))
    generalize m + m' = mm
    go_region_held3 (fun w' => (w'.cell? ⟨w.heap.size + 1, 0, none⟩).isSome = true ∧ (w'.cell? ⟨w.heap.size + 1, 1, none⟩).isSome = true ∧ w'.frozen? ⟨w.heap.size + 1, 0, none⟩ = false ∧ w'.frozen? ⟨w.heap.size + 1, 1, none⟩ = false) (first | exact ⟨by simp [z0], by simp [z1], f0, f1⟩ | exact ⟨by rw [(set2' (w := w6.drewN (mm + 1)) z0 z1).1]; rfl, by rw [(set2' (w := w6.drewN (mm + 1)) z0 z1).2]; rfl, by simp [f0], by simp [f1]⟩ | go_keep) (fail)
    have HCUT' := hid ((HSK.out (mm + 1)).cut (i := 2) h2)
    go_wp2
    refine bodyPost_ret_by (results_ctt rfl _ _ (w.heap.size + 1) 0 rfl [.slice none 0 0, .bool false] _ (range2 (set2' (w := w6.drewN (mm + 1)) z0 z1).1 (set2' (w := w6.drewN (mm + 1)) z0 z1).2) Try.underlying24 rfl (by kernel_rfl)) rfl ?_
    rw [HO'.out]
    exact ⟨none, 0, 0, cutA A6 c6 2, n6 - 2, c6 - 2, rfl, Sl.nil _ _ _, .inr ⟨_, rfl, by
      have hc := ((HCUT'.out.setLow (b := w.heap.size + 1) (by omega) 0 (.slice none 0 0)).setLow (b := w.heap.size + 1) (by omega) 1 (.bool false)).low (l' := w.heap.size) (by omega)
      simpa [cutS, cutA, Lay.int] using hc⟩, ((bel_drewN HBW.out _).setCell (by simp) _).setCell (by simp) _⟩
  · rw [if_neg h5] at HO
    have HO' := hid HO
    have d4 : ((n6 : Int) - 2 == longN b) = false := by simpa using h5
    clear HO h4 h5
    generalize longN b = L at *
    go_wp2_with (go_at_call 25; first | (with_reducible refine HLONG.out.mono ?_; rintro e w' ⟨rfl, m, rfl⟩) | (with_reducible refine (HLONK.out _).mono ?_; rintro e w' ⟨rfl, m', rfl⟩))
    refine bodyPost_ret_by (results_ctt rfl _ _ (w.heap.size + 1) 0 rfl [.slice A6 n6 c6, .bool false] _ (range2 (set2' z0 z1).1 (set2' z0 z1).2) Try.underlying24 rfl (by kernel_rfl)) rfl ?_
    rw [HO'.out]
    exact ⟨A6, n6, c6, none, 0, 0, rfl, (((HSK.out _).setLow (by omega) _ _).setLow (by omega) _ _).low (by omega), .inl rfl, ((bel_drewN HBW.out _).setCell (by simp) _).setCell (by simp) _⟩
end Go.Proofs.Ytbcahbgdjoahaaa
