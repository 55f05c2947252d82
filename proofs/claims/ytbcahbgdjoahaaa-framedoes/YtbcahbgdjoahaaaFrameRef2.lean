/-
  The contracts of the document's own Check, and Wants, of layer 3.
-/
import Derived.Test.YtbcahbgdjoahaaaFrameRef
namespace Go.Proofs.Ytbcahbgdjoahaaa
open Go.RowKit Go.WalkArith

theorem chkF_ok {r : Rdr} (h : RdrOk r) : chkF r = 0 := if_pos h
theorem chkF_no {r : Rdr} (h : ¬ RdrOk r) : chkF r = 1 := if_neg h

set_option maxRecDepth 100000 in
set_option maxHeartbeats 2000000 in
theorem refCheckF_any (s : Array Value) (r : Rdr) (w : World) (h : lay_Reader.rep w (· < w.heap.size) r s.toList) :
    Calls Try.prog 18 #[.agg s] w fun e w' => e = .returned (.int .i64 (chkF r)) ∧ Below w.heap.size w w' := by
  obtain ⟨A, n, c, hc, hV⟩ := rep_Reader.1 h
  obtain rfl : s = #[.slice A n c, .bool r.Bad] := Array.ext' hc
  have hcap := hV.cap
  unfold maxLen at hcap
  have hl := hV.len
  have hb0 : Below w.heap.size w (w.alloc (Obj.cells #[.slice A n c, .bool r.Bad] 24)) := bel_alloc (Below.refl _ _) _
  have R := (hV.rd (B := w.heap.size) fun _ h => h).below hb0
  have hlb := longN_bd (oct_of R)
  have HR := hid R
  clear h hc hV R
  by_cases hbad : r.Bad = true
  · rcases Nat.eq_zero_or_pos n with hn | hn
    · have HC := hid (chkF_ok (r := r) ⟨fun h => by omega, fun h => by omega⟩)
      rw [hbad]
      subst hn
      clear hl
      go_enter Try.func18, Try.ntmps18
      go_wp2_with fail
      go_quiet (fail)
      go_wp2
      go_ret
      exact ⟨ret_num HC.out.symm, by (repeat (first | exact Below.refl _ _ | refine Below.drew ?_ | refine bel_drewN ?_ _ | refine bel_alloc ?_ _ | refine bel_call ?_ (by assumption)))⟩
    · have HC := hid (chkF_no (r := r) fun h => h.1 ⟨hbad, by omega⟩)
      have d1 : decide ((0 : Int) < (n : Int)) = true := by simp; omega
      have d1' : decide (0 < n) = true := by simp; omega
      rw [hbad]
      clear hl
      go_enter Try.func18, Try.ntmps18
      go_wp2_with fail
      go_quiet (fail)
      go_wp2
      go_ret
      exact ⟨ret_num HC.out.symm, by (repeat (first | exact Below.refl _ _ | refine Below.drew ?_ | refine bel_drewN ?_ _ | refine bel_alloc ?_ _ | refine bel_call ?_ (by assumption)))⟩
  · have hbad' : r.Bad = false := by simpa using hbad
    rcases Nat.lt_or_ge n 2 with hn | hn
    · have HC := hid (chkF_ok (r := r) ⟨fun h => hbad h.1, fun h => by omega⟩)
      have d1 : decide ((2 : Int) ≤ (n : Int)) = false := by simp; omega
      rw [hbad']
      clear hl hbad
      go_enter Try.func18, Try.ntmps18
      go_wp2_with fail
      go_quiet (fail)
      go_wp2
      go_ret
      exact ⟨ret_num HC.out.symm, by (repeat (first | exact Below.refl _ _ | refine Below.drew ?_ | refine bel_drewN ?_ _ | refine bel_alloc ?_ _ | refine bel_call ?_ (by assumption)))⟩
    · have d1 : decide ((2 : Int) ≤ (n : Int)) = true := by simp; omega
      have d1' : decide (2 ≤ n) = true := by simp; omega
      have wn : IntKind.i64.wrap ((n : Int) - 2) = (n : Int) - 2 := IntWalk.i64_in _ (by omega)
      have HLONG := hid (fun k => Calls.quiet_of (long_any _ _ _ _ _ _ (HR.out.drewN k) hn))
      by_cases hg : 4096 < longN r.B
      · have HC := hid (chkF_no (r := r) fun h => h.2 ⟨by omega, .inl hg⟩)
        have d2 : decide ((4096 : Int) < longN r.B) = true := by simpa using hg
        rw [hbad'] at *
        clear hl hbad hbad' HR
        generalize longN r.B = L at *
        go_enter Try.func18, Try.ntmps18
        go_wp2_with fail
        go_quiet ((go_at_call 25; exact HLONG.out _))
        go_wp2
        go_ret
        exact ⟨ret_num HC.out.symm, by (repeat (first | exact Below.refl _ _ | refine Below.drew ?_ | refine bel_drewN ?_ _ | refine bel_alloc ?_ _ | refine bel_call ?_ (by assumption)))⟩
      · have d2 : decide ((4096 : Int) < longN r.B) = false := by simpa using hg
        by_cases hk : longN r.B ≤ (n : Int) - 2
        · have HC := hid (chkF_no (r := r) fun h => h.2 ⟨by omega, .inr (by omega)⟩)
          have d3 : decide (longN r.B ≤ (n : Int) - 2) = true := by simpa using hk
          rw [hbad'] at *
          clear hl hbad hbad' HR
          generalize longN r.B = L at *
          go_enter Try.func18, Try.ntmps18
          go_wp2_with fail
          go_quiet ((go_at_call 25; exact HLONG.out _))
          go_wp2
          go_ret
          exact ⟨ret_num HC.out.symm, by (repeat (first | exact Below.refl _ _ | refine Below.drew ?_ | refine bel_drewN ?_ _ | refine bel_alloc ?_ _ | refine bel_call ?_ (by assumption)))⟩
        · have HC := hid (chkF_ok (r := r) ⟨fun h => hbad h.1, fun h => by rcases h.2 with h2 | h2 <;> omega⟩)
          have d3 : decide (longN r.B ≤ (n : Int) - 2) = false := by simpa using hk
          rw [hbad'] at *
          clear hl hbad hbad' HR
          generalize longN r.B = L at *
          go_enter Try.func18, Try.ntmps18
          go_wp2_with fail
          go_quiet ((go_at_call 25; exact HLONG.out _))
          go_wp2
          go_ret
          exact ⟨ret_num HC.out.symm, by (repeat (first | exact Below.refl _ _ | refine Below.drew ?_ | refine bel_drewN ?_ _ | refine bel_alloc ?_ _ | refine bel_call ?_ (by assumption)))⟩

theorem waN_no {r : Rdr} (h : ¬ RdrOk r) : waN r = 0 := if_neg h
theorem waN_bad {r : Rdr} (h : RdrOk r) (hb : r.Bad = true) : waN r = 0 := by unfold waN; rw [if_pos h, if_pos hb]
theorem waN_ok {r : Rdr} (h : RdrOk r) (hb : r.Bad = false) : waN r = wantN r.B := by unfold waN; rw [if_pos h, if_neg (by simp [hb])]

set_option maxRecDepth 100000 in
set_option maxHeartbeats 2000000 in
theorem refWants_any (s : Array Value) (r : Rdr) (w : World) (h : lay_Reader.rep w (· < w.heap.size) r s.toList) :
    Calls Try.prog 13 #[.agg s] w fun e w' => e = .returned (.tuple #[.int .i64 (waN r), .int .i64 (waE r)]) ∧ Below w.heap.size w w' := by
  obtain ⟨A, n, c, hc, hV⟩ := rep_Reader.1 h
  obtain rfl : s = #[.slice A n c, .bool r.Bad] := Array.ext' hc
  have hcap := hV.cap
  unfold maxLen at hcap
  have hl := hV.len
  have hb0 : Below w.heap.size w (w.alloc (Obj.cells #[.slice A n c, .bool r.Bad] 24)) := bel_alloc (Below.refl _ _) _
  have R := (hV.rd (B := w.heap.size) fun _ h => h).below hb0
  have hlb := longN_bd (oct_of R)
  have RP := hid (show lay_Reader.rep (w.alloc (Obj.cells #[.slice A n c, .bool r.Bad] 24)) (· < (w.alloc (Obj.cells #[.slice A n c, .bool r.Bad] 24)).heap.size) r (#[.slice A n c, .bool r.Bad] : Array Value).toList from
    lay_Reader.wide (lay_Reader.keep h fun _ hp => hb0.cell hp) fun _ hb => Nat.lt_of_lt_of_le hb hb0.size)
  have HR := hid R
  have q0 : (w.alloc (Obj.cells #[.slice A n c, .bool r.Bad] 24)).cell? ⟨w.heap.size, 0, none⟩ = some (.slice A n c) := by rw [World.cell?_alloc_at _ _ _ _ rfl]; rfl
  have q1 : (w.alloc (Obj.cells #[.slice A n c, .bool r.Bad] 24)).cell? ⟨w.heap.size, 1, none⟩ = some (.bool r.Bad) := by rw [World.cell?_alloc_at _ _ _ _ rfl]; rfl
  have hg0 : w.heap.size < (w.alloc (Obj.cells #[.slice A n c, .bool r.Bad] 24)).heap.size := by simp
  clear h hc hV R
  go_enter Try.func13, Try.ntmps13
  go_wp2_with fail
  generalize w.alloc (Obj.cells #[.slice A n c, .bool r.Bad] 24) = W0 at *
  with_reducible refine (refCheckF_any _ r _ RP.out).mono ?_
  rintro e w1 ⟨rfl, hb1⟩
  have p0 := (hb1.cell (p := ⟨w.heap.size, 0, none⟩) hg0).trans q0
  have p1 := (hb1.cell (p := ⟨w.heap.size, 1, none⟩) hg0).trans q1
  have R1 := HR.out.below (hb1.mono hb0.size)
  have HB := hid (bel_call hb0 hb1)
  by_cases hk : RdrOk r
  case neg =>
    have HN := hid (waN_no hk)
    have HE := hid (show waE r = 1 from chkF_no hk)
    rw [chkF_no hk]
    clear hk hl
    go_wp2
    go_ret2
    exact ⟨by rw [HN.out, HE.out]; rfl, HB.out⟩
  have HE := hid (show waE r = 0 from chkF_ok hk)
  rw [chkF_ok hk]
  by_cases hbad : r.Bad = true
  · have HN := hid (waN_bad hk hbad)
    rw [hbad] at p1
    clear hk hl hbad
    go_wp2
    go_ret2
    exact ⟨by rw [HN.out, HE.out]; rfl, HB.out⟩
  have hbad' : r.Bad = false := by simpa using hbad
  have HN := hid (waN_ok hk hbad')
  rw [hbad'] at p1
  rcases Nat.lt_or_ge n 2 with hn | hn
  · have HW := hid (show wantN r.B = 2 - (n : Int) from by unfold wantN; rw [if_pos (by omega), hl])
    have d1 : decide ((n : Int) < 2) = true := by simp; omega
    clear hk hl hbad hbad'
    go_wp2
    go_ret2
    exact ⟨by rw [HN.out, HE.out, HW.out]; rfl, HB.out⟩
  · have HW := hid (show wantN r.B = longN r.B + 2 - (n : Int) from by unfold wantN; rw [if_neg (by omega), hl])
    have d1 : decide ((n : Int) < 2) = false := by simp; omega
    have HLONG := hid (fun k => Calls.quiet_of (long_any _ _ _ _ _ _ (R1.drewN k) hn))
    have wa : IntKind.i64.wrap (longN r.B + 2) = longN r.B + 2 := IntWalk.i64_in _ (by omega)
    have wb : IntKind.i64.wrap (longN r.B + 2 - (n : Int)) = longN r.B + 2 - (n : Int) := IntWalk.i64_in _ (by omega)
    clear hk hl hbad hbad' HR R1
    generalize longN r.B = L at *
    go_wp2_with fail
    go_quiet ((go_at_call 25; exact HLONG.out _))
    go_wp2
    go_ret2
    exact ⟨by rw [HN.out, HE.out, HW.out]; rfl, bel_drewN HB.out _⟩
end Go.Proofs.Ytbcahbgdjoahaaa
