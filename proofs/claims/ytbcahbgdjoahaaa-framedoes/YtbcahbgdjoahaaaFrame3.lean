/-
  Reading all whole frames out of octets: the plain laws, and the contract of the program's read of layer 3.
-/
import Derived.Test.YtbcahbgdjoahaaaFrame2
namespace Go.Proofs.Ytbcahbgdjoahaaa
open Go.RowKit Go.WalkArith

theorem ok_begin {B : List Int} {c : Int} (h : RdrOk ⟨B ++ [c], false⟩) : RdrOk ⟨B, false⟩ := by
  refine ⟨by simp, fun h2 => ?_⟩
  have h3 := h.2
  simp only at h2 h3
  have hl := longN_app (ys := [c]) h2.1
  rw [hl] at h3
  simp only [List.length_append, List.length_singleton] at h3
  exact h3 ⟨by omega, by omega⟩
theorem octS_stay {B : List Int} {c : Int} (h : RdrOk ⟨B ++ [c], false⟩) : octS B c = (⟨B ++ [c], false⟩, []) := by
  have h3 := h.2
  simp only at h3
  unfold octS
  rw [if_neg (fun h4 => h3 ⟨h4.1, .inl h4.2⟩), if_neg (fun h4 => h3 ⟨h4.1, .inr (by omega)⟩)]
/-- What may wait was all read, and nothing told. -/
theorem feedS_begin (n : Nat) : ∀ B : List Int, B.length = n → RdrOk ⟨B, false⟩ → feedS ⟨[], false⟩ B = (⟨B, false⟩, []) := by
  induction n with
  | zero => intro B hB _; obtain rfl : B = [] := List.eq_nil_of_length_eq_zero hB; rfl
  | succ n ih =>
    intro B hB hk
    rcases List.eq_nil_or_concat B with rfl | ⟨ys, c, rfl⟩
    · simp at hB
    · rw [List.concat_eq_append] at *
      have e := ih ys (by simpa using hB) (ok_begin hk)
      rw [feedS_snoc ys c (by rw [e]), e]
      simp only
      rw [octS_stay hk]
      rfl
theorem feedS_whole {B xs : List Int} (h : RdrOk ⟨B, false⟩) : feedS ⟨[], false⟩ (B ++ xs) = feedS ⟨B, false⟩ xs := by
  rw [feedS_app, feedS_begin _ B rfl h]
  simp
theorem two_of {b : List Int} (h : 2 ≤ b.length) : ∃ a c r, b = a :: c :: r := by
  match b, h with
  | a :: c :: r, _ => exact ⟨a, c, r, rfl⟩
theorem size_two {b : List Int} (h : 2 < sizeN b ∨ sizeN b ≤ b.length) (ho : Oct b) : 2 ≤ b.length := by
  have := sizeN_bd ho
  rcases Nat.lt_or_ge b.length 2 with h2 | h2
  · have : sizeN b = 2 := if_pos h2
    omega
  · exact h2
theorem feedS_great {b : List Int} (h : 4098 < sizeN b) (ho : Oct b) : feedS ⟨[], false⟩ b = (⟨[], true⟩, []) := by
  have h2 := size_two (.inl (by omega)) ho
  have hz : sizeN b = 2 + longN b := if_neg (by omega)
  obtain ⟨a, c, r, rfl⟩ := two_of h2
  have e : longN (a :: c :: r) = longN [a, c] := rfl
  rw [show a :: c :: r = [a, c] ++ r from rfl, feedS_app, feedS_two, octS_two, if_pos (by omega)]
  simp [feedS_bad]
theorem feedS_less {b : List Int} (h : sizeN b ≤ 4098) (hl : (b.length : Int) < sizeN b) : feedS ⟨[], false⟩ b = (⟨b, false⟩, []) :=
  feedS_begin _ b rfl (ok_size (r := ⟨b, false⟩) (by simp) h hl)
theorem feedS_one_frame {b : List Int} {z : Nat} (hz : sizeN b = z) (h : sizeN b ≤ 4098) (hl : z ≤ b.length) (ho : Oct b) :
    feedS ⟨[], false⟩ b = ((feedS ⟨[], false⟩ (b.drop z)).1, (b.take z).drop 2 :: (feedS ⟨[], false⟩ (b.drop z)).2) := by
  have h2 := size_two (.inr (by omega)) ho
  have hz2 : sizeN b = 2 + longN b := if_neg (by omega)
  have hlb := longN_bd ho
  obtain ⟨a, c, r, rfl⟩ := two_of h2
  have ha := ho a (by simp)
  have hc := ho c (by simp)
  have e : longN (a :: c :: r) = 256 * a + c := rfl
  obtain ⟨m, rfl⟩ : ∃ m, z = m + 2 := ⟨z - 2, by omega⟩
  have hm : (m : Int) = 256 * a + c := by omega
  have hrl : m ≤ r.length := by simp at hl; omega
  have htl : (r.take m).length = m := by rw [List.length_take]; omega
  have hfr : a :: c :: r = frameOf (r.take m) ++ r.drop m := by
    unfold frameOf
    rw [htl, show (m : Int) / 256 = a by omega, show (m : Int) % 256 = c by omega]
    simp
  have hoct : Oct (r.take m) := fun x hx => ho x (by simp [List.mem_of_mem_take hx])
  have hd : (a :: c :: r).drop (m + 2) = r.drop m := by simp
  have ht : ((a :: c :: r).take (m + 2)).drop 2 = r.take m := by simp
  rw [hd, ht]
  conv => lhs; rw [hfr, feedS_app, feedS_frame hoct (by rw [htl]; omega)]
  simp

theorem run_midK {P : Program} (t e : TypeId) {b : Nat} {z : Value} (kd kh : IntKind) (ht : P.underlying t = some (.slice e)) (hel : P.elem t = e) (hi : (P.info? e).map (fun i => (i.zero, i.size, i.bytes)) = some (some z, 1, b)) (A : Option Addr) (n c l k : Nat) (hl : l ≤ k) (hk : k ≤ c) (w : World) :
    (Instr.slice t (.slice A n c) (some (.int kd (l : Int))) (some (.int kh (k : Int))) none).run P w = .ok (.slice (cutA A c l) (k - l) (c - l)) w := by
  obtain ⟨i, hi, hz0, hz1, hz2⟩ := info_parts hi
  subst hel
  rw [run_slice_lh w t A n c ht kd kh (l : Int) (k : Int) (by omega) (by omega) (by omega)]
  simp [sizeOf, typeInfo, hi, hz1, sliced, cutA]
theorem Var2.drewN {w : World} {g : Nat} {t : TypeId} {x y : Value} (h : Var2 w g t x y) (m : Nat) : Var2 (w.drewN m) g t x y := h
theorem Var2.set0 {w : World} {g : Nat} {t : TypeId} {x y : Value} (h : Var2 w g t x y) (u : Value) : Var2 (w.setCell ⟨g, 0, none⟩ u) g t u y := by
  unfold Var2 at *
  exact heap_setCell_same w g 0 _ t u h
theorem Var2.set1 {w : World} {g : Nat} {t : TypeId} {x y : Value} (h : Var2 w g t x y) (u : Value) : Var2 (w.setCell ⟨g, 1, none⟩ u) g t x u := by
  unfold Var2 at *
  exact heap_setCell_same w g 1 _ t u h

def ReadPost (w : World) (xs : List Int) (e : Ending) (w' : World) : Prop :=
  ∃ A1 n1 c1 v, e = .returned (.tuple #[.agg #[.slice A1 n1 c1, .bool (feedS ⟨[], false⟩ xs).1.Bad], v]) ∧ Sl (Lay.int .u8) w' (From w' w.heap.size) A1 n1 c1 (feedS ⟨[], false⟩ xs).1.B ∧
    OwnL lay_Txt w' w.heap.size (some w.heap.size) 22 v (feedS ⟨[], false⟩ xs).2 ∧ Below w.heap.size w w'

/-- What holds at a round's head: so many texts were told, so much is left. -/
def ReadInv (w : World) (xs : List Int) (b u : Value) (wr : World) : Prop :=
  ∃ (A : Option Addr) (n c : Nat) (bs : List Int) (ts : List (List Int)), b = .slice A n c ∧ Rd wr w.heap.size .u8 A n c bs ∧ OwnL lay_Txt wr (w.heap.size + 2) (some (w.heap.size + 2)) 22 u ts ∧
    feedS ⟨[], false⟩ xs = ((feedS ⟨[], false⟩ bs).1, ts ++ (feedS ⟨[], false⟩ bs).2) ∧ 2 * ts.length + n ≤ 70000 ∧
    Var2 wr w.heap.size 24 (.slice none 0 0) (.bool false) ∧ Var2 wr (w.heap.size + 1) 24 (.slice none 0 0) (.bool false) ∧ Below w.heap.size w wr

set_option maxRecDepth 100000 in
set_option maxHeartbeats 2000000 in
theorem read_any (A : Option Addr) (n c : Nat) (xs : List Int) (w : World) (hr : Rd w w.heap.size .u8 A n c xs) (hn : n ≤ 70000) :
    Calls Try.prog 21 #[.slice A n c] w (ReadPost w xs) := by
  have hb0 : Below w.heap.size w ((w.alloc (Obj.cells #[.slice none 0 0, .bool false] 24)).alloc (Obj.cells #[.slice none 0 0, .bool false] 24)) := bel_alloc (bel_alloc (Below.refl _ _) _) _
  have v0 : Var2 ((w.alloc (Obj.cells #[.slice none 0 0, .bool false] 24)).alloc (Obj.cells #[.slice none 0 0, .bool false] 24)) w.heap.size 24 (.slice none 0 0) (.bool false) := (Below.heap_alloc _ _ _ (by simp)).trans (heap_alloc_new _ _)
  have v1 : Var2 ((w.alloc (Obj.cells #[.slice none 0 0, .bool false] 24)).alloc (Obj.cells #[.slice none 0 0, .bool false] 24)) (w.heap.size + 1) 24 (.slice none 0 0) (.bool false) := alloc2_new _ _ _
  have HR := hid (hr.below hb0)
  go_enter Try.func21, Try.ntmps21
  go_wp2
  go_step3
  go_wp2
  go_step3
  go_wp2
  go_loopw [0, 5] (fun b u wr => ReadInv w xs b u wr) (fun b _ _ => slen b)
  case atStart => exact ⟨A, n, c, xs, [], rfl, HR.out, OwnL.nil _ _ _ _ _, by simp, by simpa using hn, v0, v1, hb0⟩
  case round =>
    clear HR hr v0 v1 hb0 A n c hn
    obtain ⟨A, n, c, bs, ts, rfl, R, hown, HX, hsz, X0, X1, hbel⟩ := hrel
    have hcap := R.cap
    unfold maxLen at hcap
    have hl := R.len
    have ho := oct_of R
    have hz := sizeN_bd ho
    have hsz1 := X1.lt
    have HS := hid (sure_any _ _ _ _ _ _ R)
    have HX' := hid HX
    clear HX
    obtain ⟨z, hzz⟩ : ∃ z : Nat, sizeN bs = z := ⟨(sizeN bs).toNat, by omega⟩
    have HZ := hid hzz
    rw [hzz] at HS hz
    have y0 := X1.c0
    have y1 := X1.c1
    have g0 := X1.f 0
    have g1 := X1.f 1
    have z0 := X0.c0
    have z1 := X0.c1
    have f0 := X0.f 0
    have f1 := X0.f 1
    by_cases h1 : 4098 < z
    · have HF := hid (feedS_great (b := bs) (by omega) ho)
      have d1 : decide ((4098 : Int) < (z : Int)) = true := by simp; omega
      clear hzz hl
      go_wp2_with (go_at_call 24; go_must (with_reducible refine HS.out.mono ?_; rintro e w1 ⟨rfl, m, rfl⟩))
      have hown1 := hown.keep (w' := wr.drewN m) (bel_drewN (Below.refl _ _) m)
      have Y1 := (X1.drewN m).set1 (.bool true)
      have Y0 := (((X0.drewN m).setOther (b := w.heap.size + 1) (by omega) 1 (.bool true)).set (.slice none 0 0) (.bool true))
      rw [Exit.noGoto_ret]
      refine bodyPost_ret_by (results_ct rfl _ _ w.heap.size 0 rfl [.slice none 0 0, .bool true] _ (range2 Y0.c0 Y0.c1) Try.underlying24 rfl (by kernel_rfl)) rfl ?_
      refine ⟨none, 0, 0, _, by rw [HX'.out, HF.out], by rw [HX'.out, HF.out]; exact Sl.nil _ _ _, ?_, (((bel_drewN hbel m).setCell (by simp) _).setCell (by simp) _).setCell (by simp) _⟩
      rw [HX'.out, HF.out, List.append_nil]
      exact (((hown1.setLow (b := w.heap.size + 1) (by omega) (by omega) 1 (.bool true)).setLow (b := w.heap.size) (by omega) (by omega) 0 (.slice none 0 0)).setLow (b := w.heap.size) (by omega) (by omega) 1 (.bool true)).lows (by omega) (by omega)
    have d1 : decide ((4098 : Int) < (z : Int)) = false := by simp; omega
    by_cases h2 : n < z
    · have HF := hid (feedS_less (b := bs) (by omega) (by omega))
      have d2 : decide ((n : Int) < (z : Int)) = true := decide_eq_true (by omega)
      have HC := hid (fun m => clone_any A n c w.heap.size bs (wr.drewN m) (R.drewN m) (by show w.heap.size ≤ wr.heap.size; omega) (by omega))
      clear hzz hl
      go_wp2_with (first | (go_at_call 24; go_must (with_reducible refine HS.out.mono ?_; rintro e w1 ⟨rfl, m, rfl⟩)) | (go_at_call 22; with_reducible refine (HC.out _).mono ?_; rintro e w2 ⟨v2, rfl, hown2, hb2⟩; obtain ⟨A2, n2, c2, rfl, hs2⟩ := hown2.slI; have Y1 := (X1.drewN m).call hb2; have Y0 := (X0.drewN m).call hb2; have a0 := Y1.c0; have a1 := Y1.c1; have e0 := Y1.f 0; have e1 := Y1.f 1; have b0 := Y0.c0; have b1 := Y0.c1; have k0 := Y0.f 0; have k1 := Y0.f 1))
      have hd : (wr.drewN m).heap.size = wr.heap.size := rfl
      rw [hd] at hs2 hb2
      have Z0 := (Y0.setOther (b := w.heap.size + 1) (by omega) 0 (.slice A2 n2 c2)).set (.slice A2 n2 c2) (.bool false)
      rw [Exit.noGoto_ret]
      refine bodyPost_ret_by (results_ct rfl _ _ w.heap.size 0 rfl [.slice A2 n2 c2, .bool false] _ (range2 Z0.c0 Z0.c1) Try.underlying24 rfl (by kernel_rfl)) rfl ?_
      refine ⟨A2, n2, c2, _, by rw [HX'.out, HF.out], ?_, ?_, ((((bel_drewN hbel m).trans (hb2.mono (by omega))).setCell (by simp) _).setCell (by simp) _).setCell (by simp) _⟩
      · rw [HX'.out, HF.out]
        exact (((hs2.setLow (b := w.heap.size + 1) (by omega) 0 (.slice A2 n2 c2)).setLow (b := w.heap.size) (by omega) 0 (.slice A2 n2 c2)).setLow (b := w.heap.size) (by omega) 1 (.bool false)).low (by omega)
      · rw [HX'.out, HF.out, List.append_nil]
        have hown1 := (hown.keep (w' := wr.drewN m) (bel_drewN (Below.refl _ _) m)).keep hb2
        exact (((hown1.setLow (b := w.heap.size + 1) (by omega) (by omega) 0 (.slice A2 n2 c2)).setLow (b := w.heap.size) (by omega) (by omega) 0 (.slice A2 n2 c2)).setLow (b := w.heap.size) (by omega) (by omega) 1 (.bool false)).lows (by omega) (by omega)
    have d2 : decide ((n : Int) < (z : Int)) = false := decide_eq_false (by omega)
    have HF := hid (feedS_one_frame (b := bs) hzz (by omega) (by omega) ho)
    have hmid := fun W => run_midK (P := Try.prog) 22 5 .i64 .i64 Try.underlying22 Try.elemU8 Try.infoU8 A n c 2 z (by omega) (by omega) W
    have hfrm := fun W => run_fromK (P := Try.prog) 22 5 .i64 Try.underlying22 Try.elemU8 Try.infoU8 A n c z (by omega) W
    have RC := (R.cut (i := 2) (by omega)).upto (i := z - 2) (by omega)
    rw [← List.drop_take] at RC
    have RN := hid (R.cut (i := z) (by omega))
    have HC := hid (fun m => clone_any (cutA A c 2) (z - 2) (c - 2) w.heap.size _ (wr.drewN m) (RC.drewN m) (by show w.heap.size ≤ wr.heap.size; omega) (by omega))
    have HN := hid (show 2 * (ts ++ [(bs.take z).drop 2]).length + (n - z) ≤ 70000 from by simp; omega)
    have hq3 : (ts.length + 1) * 24 ≤ 140737488355328 := by omega
    have hq4 : ts.length + 1 ≤ maxLen := by unfold maxLen; omega
    have hz2 : 2 ≤ z ∧ z ≤ n := by omega
    generalize hT : (bs.take z).drop 2 = t at *
    clear hT hzz hl RC
    have hmid2 : ∀ W : World, (Instr.slice 22 (.slice A n c) (some (.int .i64 2)) (some (.int .i64 (z : Int))) none).run Try.prog W = .ok (.slice (cutA A c 2) (z - 2) (c - 2)) W := hmid
    clear hmid
    go_wp2_with (go_at_call 24; go_must (with_reducible refine HS.out.mono ?_; rintro e w1 ⟨rfl, m, rfl⟩))
    with_reducible refine (HC.out _).mono ?_
    rintro e w2 ⟨v2, rfl, hown2, hb2⟩
    obtain ⟨A2, n2, c2, rfl, hs2⟩ := hown2.slI
    have hd : (wr.drewN m).heap.size = wr.heap.size := rfl
    rw [hd] at hs2 hb2
    have hbw2 : Below wr.heap.size wr w2 := (bel_drewN (Below.refl _ _) m).trans hb2
    have hsz2 := hbw2.size
    have hownk := hown.keep hbw2
    have HEL := hid (fun (b : Nat) (hb : From w2 wr.heap.size b) => (show Els w2 (some (w.heap.size + 2)) u5 b from ⟨⟨Nat.le_trans hsz1 hb.1, hb.2.2⟩, hb.2.1, fun he => Nat.lt_irrefl _ (Nat.lt_of_lt_of_le (hown.lt he.symm) hb.1)⟩))
    go_wp2_with (at_builtin; go_must (refine wpList_pushL (L := lay_Txt) (w := w2) rfl (.tmp 21) (.tmp 26) 29 rfl (w.heap.size + 2) (some (w.heap.size + 2)) 22 (.slice none 0 0) 24 Try.underlying29 Try.infoTxt rfl (by decide) u5 ts t #[.slice A2 n2 c2] (From w2 wr.heap.size) rfl rfl hownk ⟨A2, n2, c2, rfl, hs2⟩ HEL.out (Nat.le_trans hsz1 hsz2) hq3 hq4 ?_; intro v6 w6 hown6 hext6))
    go_roundw
    case rel =>
      have hT := hownk.below hext6 (Nat.le_trans hsz1 hsz2)
      have hW := (hbw2.mono hsz1).trans hT
      refine ⟨_, _, _, _, _, rfl, RN.out.below (hW.mono (by omega)), hown6, ?_, HN.out, X0.keep hW (by omega), X1.keep hW (by omega), hbel.trans (hW.mono (by omega))⟩
      rw [HX'.out, HF.out]
      simp
    case measure => simp [slen]; omega
end Go.Proofs.Ytbcahbgdjoahaaa
