/-
  The contracts of the program's sureSize, Check, Wants, Same of layer 3.
-/
import Derived.Test.YtbcahbgdjoahaaaFrameRef4
namespace Go.Proofs.Ytbcahbgdjoahaaa
open Go.RowKit Go.WalkArith

theorem FeedPost.low {w W : World} {r : Rdr} {xs : List Int} {e : Ending} {w' : World} (h : FeedPost W r xs e w') (hb : Below w.heap.size w W) : FeedPost w r xs e w' := by
  obtain ⟨A1, n1, c1, v, he, h1, h2, h3⟩ := h
  exact ⟨A1, n1, c1, v, he, h1.low hb.size, h2.lows hb.size hb.size, hb.trans (h3.mono hb.size)⟩
theorem rep_at {α : Type} {L : Lay α} {w w' : World} {x : α} {cs : List Value} (h : L.rep w (· < w.heap.size) x cs) (hb : Below w.heap.size w w') : L.rep w' (· < w'.heap.size) x cs :=
  L.wide (L.keep h fun _ hp => hb.cell hp) fun _ hb' => Nat.lt_of_lt_of_le hb' hb.size

def sizeN (b : List Int) : Int := if b.length < 2 then 2 else 2 + longN b

set_option maxHeartbeats 1000000 in
theorem sure_any (A : Option Addr) (n c B : Nat) (xs : List Int) (w : World) (hr : Rd w B .u8 A n c xs) :
    Calls Try.prog 24 #[.slice A n c] w fun e w' => e = .returned (.int .i64 (sizeN xs)) ∧ ∃ m, w' = w.drewN m := by
  have hcap := hr.cap
  unfold maxLen at hcap
  have hl := hr.len
  rcases Nat.lt_or_ge n 2 with hn | hn
  · have HZ := hid (show sizeN xs = 2 from if_pos (by omega))
    have d : decide ((n : Int) < 2) = true := by simp; omega
    clear hl
    go_enter Try.func24, Try.ntmps24
    go_wp2
    go_ret
    exact ⟨ret_num HZ.out.symm, 0, rfl⟩
  · have HZ := hid (show sizeN xs = 2 + longN xs from if_neg (by omega))
    have d : decide ((n : Int) < 2) = false := by simp; omega
    obtain ⟨b, off, rfl, hb, hcell⟩ := hr.at_ (by omega)
    have h0 := hcell 0 (by omega)
    have h1 := hcell 1 (by omega)
    simp only [Nat.add_zero] at h0
    have b0 := nth_bd (oct_of hr) 0
    have b1 := nth_bd (oct_of hr) 1
    unfold longN at HZ
    generalize nth xs 0 = x at *
    generalize nth xs 1 = y at *
    have hn0 : (0 : Int) < (n : Int) := by omega
    have hn1 : (1 : Int) < (n : Int) := by omega
    clear hcell hr hl
    go_enter Try.func24, Try.ntmps24
    go_wp2_with fail
    go_quiet (fail)
    go_wp2
    go_ret
    exact ⟨ret_num (by rw [HZ.out]; omega), _, rfl⟩

theorem sizeN_bd {b : List Int} (h : Oct b) : 2 ≤ sizeN b ∧ sizeN b ≤ 65537 := by
  have := longN_bd h
  unfold sizeN
  split <;> omega
theorem ok_size {r : Rdr} (h1 : ¬ (r.Bad = true ∧ 0 < r.B.length)) (h2 : sizeN r.B ≤ 4098) (h3 : (r.B.length : Int) < sizeN r.B) : RdrOk r := by
  refine ⟨h1, fun h => ?_⟩
  unfold sizeN at h2 h3
  rw [if_neg (by omega)] at h2 h3
  omega
theorem no_size {r : Rdr} (h : 4098 < sizeN r.B ∨ sizeN r.B ≤ r.B.length) : ¬ RdrOk r := fun hk => by
  have h2 := hk.2
  unfold sizeN at h
  by_cases hl : r.B.length < 2
  · rw [if_pos hl] at h; omega
  · rw [if_neg hl] at h
    exact h2 ⟨by omega, by omega⟩
theorem want_size {b : List Int} : wantN b = sizeN b - b.length := by
  unfold wantN sizeN
  split <;> omega

set_option maxRecDepth 100000 in
set_option maxHeartbeats 2000000 in
theorem frameCheck_any (s : Array Value) (r : Rdr) (w : World) (h : lay_Reader.rep w (· < w.heap.size) r s.toList) :
    Calls Try.prog 17 #[.agg s] w fun e w' => e = .returned (.int .i64 (chkF r)) ∧ Below w.heap.size w w' := by
  obtain ⟨A, n, c, hc, hV⟩ := rep_Reader.1 h
  obtain rfl : s = #[.slice A n c, .bool r.Bad] := Array.ext' hc
  have hcap := hV.cap
  unfold maxLen at hcap
  have hl := hV.len
  have hb0 : Below w.heap.size w (w.alloc (Obj.cells #[.slice A n c, .bool r.Bad] 24)) := bel_alloc (Below.refl _ _) _
  have R := (hV.rd (B := w.heap.size) fun _ h => h).below hb0
  have hz := sizeN_bd (oct_of R)
  have HS := hid (sure_any _ _ _ _ _ _ R)
  clear h hc hV R
  by_cases hbad : r.Bad = true
  · rcases Nat.eq_zero_or_pos n with hn | hn
    · have hz0 : sizeN r.B = 2 := if_pos (by omega)
      have HC := hid (chkF_ok (r := r) (ok_size (fun h => by omega) (by omega) (by omega)))
      rw [hbad] at HS ⊢
      subst hn
      rw [hz0] at HS
      clear hl hz hz0
      go_enter Try.func17, Try.ntmps17
      go_wp2_with (go_at_call 24; go_must (with_reducible refine HS.out.mono ?_; rintro e w1 ⟨rfl, m, rfl⟩))
      go_ret
      exact ⟨ret_num HC.out.symm, by (repeat (first | exact Below.refl _ _ | refine Below.drew ?_ | refine bel_drewN ?_ _ | refine bel_alloc ?_ _ | refine bel_call ?_ (by assumption)))⟩
    · have HC := hid (chkF_no (r := r) fun h => h.1 ⟨hbad, by omega⟩)
      have d1 : decide ((0 : Int) < (n : Int)) = true := by simp; omega
      have d1' : decide (0 < n) = true := by simp; omega
      rw [hbad]
      clear hl hz HS
      go_enter Try.func17, Try.ntmps17
      go_wp2
      go_ret
      exact ⟨ret_num HC.out.symm, by (repeat (first | exact Below.refl _ _ | refine Below.drew ?_ | refine bel_drewN ?_ _ | refine bel_alloc ?_ _ | refine bel_call ?_ (by assumption)))⟩
  · have hbad' : r.Bad = false := by simpa using hbad
    by_cases h1 : 4098 < sizeN r.B
    · have HC := hid (chkF_no (r := r) (no_size (.inl h1)))
      have d1 : decide ((4098 : Int) < sizeN r.B) = true := by simpa using h1
      rw [hbad'] at HS ⊢
      clear hl hbad hbad'
      generalize sizeN r.B = z at *
      go_enter Try.func17, Try.ntmps17
      go_wp2_with (go_at_call 24; go_must (with_reducible refine HS.out.mono ?_; rintro e w1 ⟨rfl, m, rfl⟩))
      go_ret
      exact ⟨ret_num HC.out.symm, by (repeat (first | exact Below.refl _ _ | refine Below.drew ?_ | refine bel_drewN ?_ _ | refine bel_alloc ?_ _ | refine bel_call ?_ (by assumption)))⟩
    · have d1 : decide ((4098 : Int) < sizeN r.B) = false := by simpa using h1
      by_cases h2 : sizeN r.B ≤ (n : Int)
      · have HC := hid (chkF_no (r := r) (no_size (.inr (by omega))))
        have d2 : decide (sizeN r.B ≤ (n : Int)) = true := by simpa using h2
        rw [hbad'] at HS ⊢
        clear hl hbad hbad'
        generalize sizeN r.B = z at *
        go_enter Try.func17, Try.ntmps17
        go_wp2_with (go_at_call 24; go_must (with_reducible refine HS.out.mono ?_; rintro e w1 ⟨rfl, m, rfl⟩))
        go_ret
        exact ⟨ret_num HC.out.symm, by (repeat (first | exact Below.refl _ _ | refine Below.drew ?_ | refine bel_drewN ?_ _ | refine bel_alloc ?_ _ | refine bel_call ?_ (by assumption)))⟩
      · have HC := hid (chkF_ok (r := r) (ok_size (fun h => hbad h.1) (by omega) (by omega)))
        have d2 : decide (sizeN r.B ≤ (n : Int)) = false := by simpa using h2
        rw [hbad'] at HS ⊢
        clear hl hbad hbad'
        generalize sizeN r.B = z at *
        go_enter Try.func17, Try.ntmps17
        go_wp2_with (go_at_call 24; go_must (with_reducible refine HS.out.mono ?_; rintro e w1 ⟨rfl, m, rfl⟩))
        go_ret
        exact ⟨ret_num HC.out.symm, by (repeat (first | exact Below.refl _ _ | refine Below.drew ?_ | refine bel_drewN ?_ _ | refine bel_alloc ?_ _ | refine bel_call ?_ (by assumption)))⟩

set_option maxRecDepth 100000 in
set_option maxHeartbeats 2000000 in
theorem frameWants_any (s : Array Value) (r : Rdr) (w : World) (h : lay_Reader.rep w (· < w.heap.size) r s.toList) :
    Calls Try.prog 12 #[.agg s] w fun e w' => e = .returned (.tuple #[.int .i64 (waN r), .int .i64 (waE r)]) ∧ Below w.heap.size w w' := by
  obtain ⟨A, n, c, hc, hV⟩ := rep_Reader.1 h
  obtain rfl : s = #[.slice A n c, .bool r.Bad] := Array.ext' hc
  have hcap := hV.cap
  unfold maxLen at hcap
  have hl := hV.len
  have hb0 : Below w.heap.size w (w.alloc (Obj.cells #[.slice A n c, .bool r.Bad] 24)) := bel_alloc (Below.refl _ _) _
  have R := (hV.rd (B := w.heap.size) fun _ h => h).below hb0
  have hz := sizeN_bd (oct_of R)
  have RP := hid (rep_at h hb0)
  have HR := hid R
  have q0 : (w.alloc (Obj.cells #[.slice A n c, .bool r.Bad] 24)).cell? ⟨w.heap.size, 0, none⟩ = some (.slice A n c) := by rw [World.cell?_alloc_at _ _ _ _ rfl]; rfl
  have q1 : (w.alloc (Obj.cells #[.slice A n c, .bool r.Bad] 24)).cell? ⟨w.heap.size, 1, none⟩ = some (.bool r.Bad) := by rw [World.cell?_alloc_at _ _ _ _ rfl]; rfl
  have hg0 : w.heap.size < (w.alloc (Obj.cells #[.slice A n c, .bool r.Bad] 24)).heap.size := by simp
  clear h hc hV R
  go_enter Try.func12, Try.ntmps12
  go_wp2_with fail
  generalize w.alloc (Obj.cells #[.slice A n c, .bool r.Bad] 24) = W0 at *
  with_reducible refine (frameCheck_any _ r _ RP.out).mono ?_
  rintro e w1 ⟨rfl, hb1⟩
  have p0 := (hb1.cell (p := ⟨w.heap.size, 0, none⟩) hg0).trans q0
  have p1 := (hb1.cell (p := ⟨w.heap.size, 1, none⟩) hg0).trans q1
  have R1 := HR.out.below (hb1.mono hb0.size)
  have HB := hid (bel_call hb0 hb1)
  by_cases hk : RdrOk r
  case neg =>
    have HN := hid (waN_no hk)
    have HE := hid (show waE r = 1 from chkF_no hk)
    rw [chkF_no hk]
    clear hk hl hz
    go_wp2
    go_ret2
    exact ⟨by rw [HN.out, HE.out]; rfl, HB.out⟩
  have HE := hid (show waE r = 0 from chkF_ok hk)
  rw [chkF_ok hk]
  by_cases hbad : r.Bad = true
  · have HN := hid (waN_bad hk hbad)
    rw [hbad] at p1
    clear hk hl hbad hz
    go_wp2
    go_ret2
    exact ⟨by rw [HN.out, HE.out]; rfl, HB.out⟩
  have hbad' : r.Bad = false := by simpa using hbad
  have HN := hid (waN_ok hk hbad')
  rw [hbad'] at p1
  have HW := hid (show wantN r.B = sizeN r.B - (n : Int) from by rw [want_size, hl])
  have HSU := hid (fun k => Calls.quiet_of (sure_any _ _ _ _ _ _ (R1.drewN k)))
  have wb : IntKind.i64.wrap (sizeN r.B - (n : Int)) = sizeN r.B - (n : Int) := IntWalk.i64_in _ (by omega)
  clear hk hl hbad hbad' HR R1
  generalize sizeN r.B = z at *
  go_wp2_with fail
  go_quiet ((go_at_call 24; exact HSU.out _))
  go_wp2
  go_ret2
  exact ⟨by rw [HN.out, HE.out, HW.out]; rfl, bel_drewN HB.out _⟩

set_option maxHeartbeats 1000000 in
theorem frameSame_any (s1 s2 : Array Value) (x y : Rdr) (w : World) (h1 : lay_Reader.rep w (· < w.heap.size) x s1.toList) (h2 : lay_Reader.rep w (· < w.heap.size) y s2.toList) :
    Calls Try.prog 19 #[.agg s1, .agg s2] w fun e w' => e = .returned (.bool (decide (x = y))) ∧ Below w.heap.size w w' := by
  obtain ⟨A1, n1, c1, hc1, hV1⟩ := rep_Reader.1 h1
  obtain rfl : s1 = #[.slice A1 n1 c1, .bool x.Bad] := Array.ext' hc1
  obtain ⟨A2, n2, c2, hc2, hV2⟩ := rep_Reader.1 h2
  obtain rfl : s2 = #[.slice A2 n2 c2, .bool y.Bad] := Array.ext' hc2
  have hb0 : Below w.heap.size w ((w.alloc (Obj.cells #[.slice A1 n1 c1, .bool x.Bad] 24)).alloc (Obj.cells #[.slice A2 n2 c2, .bool y.Bad] 24)) := bel_alloc (bel_alloc (Below.refl _ _) _) _
  have R1 := hid ((hV1.rd (B := w.heap.size) fun _ h => h).below hb0)
  have R2 := hid ((hV2.rd (B := w.heap.size) fun _ h => h).below hb0)
  clear hV1 hV2 h1 h2 hc1 hc2
  by_cases ht : x.Bad = y.Bad
  · have hbe : (x.Bad == y.Bad) = true := by simpa using ht
    have HD := hid (show decide (x = y) = decide (x.B = y.B) from by
      by_cases hv : x.B = y.B
      · rw [decide_eq_true (by cases x; cases y; simp_all), decide_eq_true hv]
      · rw [decide_eq_false hv, decide_eq_false fun e => hv (by rw [e])])
    clear ht
    generalize x.Bad = b1 at *
    generalize y.Bad = b2 at *
    go_enter Try.func19, Try.ntmps19
    go_wp2_with (go_at_call 26; go_must (refine (equal_any _ _ _ _ _ _ _ _ _ _ _ R1.out R2.out).mono ?_; rintro e w' ⟨rfl, rfl⟩))
    go_ret
    exact ⟨ret_bool HD.out.symm, hb0⟩
  · have hbe : (x.Bad == y.Bad) = false := by simpa using ht
    have HD := hid (show decide (x = y) = false from decide_eq_false fun e => ht (by rw [e]))
    clear ht
    generalize x.Bad = b1 at *
    generalize y.Bad = b2 at *
    go_enter Try.func19, Try.ntmps19
    go_wp2
    go_ret
    exact ⟨ret_bool HD.out.symm, hb0⟩
end Go.Proofs.Ytbcahbgdjoahaaa
