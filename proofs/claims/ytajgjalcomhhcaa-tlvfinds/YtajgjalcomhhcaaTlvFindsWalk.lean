/-
  The walk of TlvFinds.
-/
import Derived.Test.YtajgjalcomhhcaaTlvLive
import Derived.Test.YtajgjalcomhhcaaTlvOrderWalk
import Derived.Test.YtajgjalcomhhcaaScr
import Derived.Test.YtajgjalcomhhcaaTlvRefNumber
namespace Go.Proofs.Ytajgjalcomhhcaa
open Go.RowKit Go.WalkArith

set_option maxRecDepth 100000 in
set_option maxHeartbeats 2000000 in
theorem tlvFinds_walk (A0 : Option Addr) (n0 c0 : Nat) (x0 : List Rec) (s1 : Array Value) (x1 : Rec) (a2 : Int) (w : World) (r0 : Sl lay_Record w (· < w.heap.size) A0 n0 c0 x0) (r1 : lay_Record.rep w (· < w.heap.size) x1 s1.toList) (b2 : 0 ≤ a2 ∧ a2 ≤ 18446744073709551615) :
    Calls Try.prog 4 #[.slice A0 n0 c0, .agg s1, .int .u64 a2] w fun e w' => e = .returned (.bool true) ∧ Below w.heap.size w w' := by
  obtain ⟨A1, n1, c1, hcs, hT1, hV1⟩ := rep_Record.1 r1
  obtain rfl : s1 = #[.int .u64 x1.T, .slice A1 n1 c1] := Array.ext' hcs
  have hc1 := hV1.cap
  unfold maxLen at hc1
  clear hcs
  have hb0 : Below w.heap.size w (w.alloc (Obj.cells #[.int .u64 x1.T, .slice A1 n1 c1] 36)) := bel_alloc (Below.refl _ _) _
  have a1 : (w.alloc (Obj.cells #[.int .u64 x1.T, .slice A1 n1 c1] 36)).cell? ⟨w.heap.size, 0, none⟩ = some (.int .u64 x1.T) := by go_simp
  have a2' : (w.alloc (Obj.cells #[.int .u64 x1.T, .slice A1 n1 c1] 36)).cell? ⟨w.heap.size, 1, none⟩ = some (.slice A1 n1 c1) := by go_simp
  have g1 : w.heap.size < (w.alloc (Obj.cells #[.int .u64 x1.T, .slice A1 n1 c1] 36)).heap.size := by simp
  have q0 := hid (r0.call hb0)
  have p1 := hid (rep_call r1 hb0)
  have R0 := hid (((hV1.rd (B := w.heap.size) fun _ h => h).below hb0).more hb0.size)
  clear r0 r1 hV1 hT1
  go_enter Try.func4, Try.ntmps4
  go_wp2_with fail
  generalize (w.alloc (Obj.cells #[.int .u64 x1.T, .slice A1 n1 c1] 36)) = W0 at *
  have C1 := hid (fun (W : World) (h : Below W0.heap.size W0 W) => (h.cell (p := ⟨w.heap.size, 0, none⟩) g1).trans a1)
  have C2 := hid (fun (W : World) (h : Below W0.heap.size W0 W) => (h.cell (p := ⟨w.heap.size, 1, none⟩) g1).trans a2')
  have STR := hid (fun (W : World) (h : Below W0.heap.size W0 W) => (R0.out.below h).str (P := Try.prog) Try.underlying23 Try.underlying5 Try.underlying9)
  clear a1 a2'
  with_reducible refine (live2_any _).mono ?_
  rintro e w1 ⟨rfl, hb1⟩
  have HB := hb1
  clear hb1
  go_wp2_with fail
  with_reducible refine (few_any _ _ _ _ _ (q0.out.call HB)).mono ?_
  rintro e w2 ⟨rfl, hb2⟩
  replace HB := bel_call HB hb2
  clear hb2
  have k2 := C2.out _ HB
  by_cases hf : fewB x0 = true
  case neg =>
    have hf' : fewB x0 = false := by simpa using hf
    have HBE := hid (bel_call hb0 HB)
    clear hf
    go_wp2
    go_ret
    exact ⟨rfl, HBE.out⟩
  by_cases h5 : (100 < n1 ∧ n1 ≤ 4096) ∨ 4100 < n1
  · have HBE := hid (bel_call hb0 HB)
    rcases h5 with h5 | h5
    · have d5 : decide ((100 : Int) < (n1 : Int)) = true := by simp; omega
      have d6 : decide ((n1 : Int) ≤ 4096) = true := by simp; omega
      go_wp2
      go_ret
      exact ⟨rfl, HBE.out⟩
    · have d5 : decide ((100 : Int) < (n1 : Int)) = true := by simp; omega
      have d6 : decide ((n1 : Int) ≤ 4096) = false := by simp; omega
      have d7 : decide ((4100 : Int) < (n1 : Int)) = true := by simp; omega
      go_wp2
      go_ret
      exact ⟨rfl, HBE.out⟩
  have hcase : n1 ≤ 100 ∨ (4096 < n1 ∧ n1 ≤ 4100) := by omega
  clear h5
  rcases hcase with hcase | hcase
  case' inl => have d5 : decide ((100 : Int) < (n1 : Int)) = false := by simp; omega
               have d7 : decide ((4100 : Int) < (n1 : Int)) = false := by simp; omega
               go_wp2_with fail
               clear d5 d7
  case' inr => have d5 : decide ((100 : Int) < (n1 : Int)) = true := by simp; omega
               have d6 : decide ((n1 : Int) ≤ 4096) = false := by simp; omega
               have d7 : decide ((4100 : Int) < (n1 : Int)) = false := by simp; omega
               go_wp2_with fail
               clear d5 d6 d7
  all_goals
    clear hcase k2
    with_reducible refine (tlvFind_any _ _ _ _ _ _ (q0.out.call HB) b2.1).mono ?_
    rintro e w3 ⟨v3, rfl, hown3, hb3⟩
    obtain ⟨A3, n3, c3, rfl, q3⟩ := hown3.formN
    replace HB := bel_call HB hb3
    clear hb3 hown3
    go_wp2_with fail
    with_reducible refine (refFind_any _ _ _ _ _ _ (q0.out.call HB)).mono ?_
    rintro e w4 ⟨v4, rfl, hown4, hb4⟩
    obtain ⟨A4, n4, c4, rfl, q4⟩ := hown4.formN
    replace HB := bel_call HB hb4
    replace q3 := (q3.below hb4).more hb4.size
    have HY := Below.refl w4.heap.size w4
    have Q4 := hid q4
    clear hb4 hown4 q4
    go_wp2_with fail
    with_reducible refine (tlvNumber_any _ _ _ _ _ _ (q0.out.call HB) b2.1).mono ?_
    rintro e w5 ⟨rfl, hb5⟩
    replace HB := bel_call HB hb5
    replace HY := bel_call HY hb5
    replace q3 := (q3.below hb5).more hb5.size
    clear hb5
    go_wp2_with fail
    with_reducible refine (refNumber_any _ _ _ _ _ _ (q0.out.call HB)).mono ?_
    rintro e w6 ⟨rfl, hb6⟩
    replace HB := bel_call HB hb6
    replace HY := bel_call HY hb6
    replace q3 := (q3.below hb6).more hb6.size
    clear hb6
    have k1 := C1.out _ HB
    have k2 := C2.out _ HB
    go_wp2_with fail
    with_reducible refine (tlvWith_any _ _ _ _ _ x1 _ (q0.out.call HB) (rep_call p1.out HB)).mono ?_
    rintro e w7 ⟨v7, rfl, hown7, hb7⟩
    obtain ⟨A7, n7, c7, rfl, q7⟩ := hown7.read
    have hlo := HB.size
    have hyo := HY.size
    replace HB := bel_call HB hb7
    replace HY := bel_call HY hb7
    replace q3 := (q3.below hb7).more hb7.size
    clear hb7
    replace k1 := C1.out _ HB
    replace k2 := C2.out _ HB
    go_wp2_with fail
    with_reducible refine (refWith_any _ _ _ _ _ x1 _ (q0.out.call HB) (rep_call p1.out HB)).mono ?_
    rintro e w8 ⟨v8, rfl, hown8, hb8⟩
    obtain ⟨A8, n8, c8, rfl, q8⟩ := hown8.read
    replace HB := bel_call HB hb8
    replace HY := bel_call HY hb8
    replace q3 := (q3.below hb8).more hb8.size
    replace q7 := q7.call hb8
    replace hown7 := hown7.keep hb8
    clear hb8 hown8
    replace k1 := C1.out _ HB
    replace k2 := C2.out _ HB
    go_wp2_with fail
    with_reducible refine (sameBytes_any _ _ _ _ _ _ _ _ _ _ _ q3 (Q4.out.below HY)).mono ?_
    rw [decide_eq_true (show fV x0 a2 = fV x0 a2 from rfl)]
    rintro e w9 ⟨rfl, rfl⟩
    go_wp2_with fail
    with_reducible refine (refSame_any _ _ _ _ _ _ _ _ _ q7 q8).mono ?_
    rw [decide_eq_true (show wL x0 x1 = wL x0 x1 from rfl)]
    rintro e w12 ⟨rfl, hb12⟩
    replace HB := bel_call HB hb12
    replace HY := bel_call HY hb12
    replace hown7 := hown7.keep hb12
    clear hb12 q3 q7 q8
    replace k1 := C1.out _ HB
    replace k2 := C2.out _ HB
    have k9 := STR.out _ HB
    obtain ⟨-, hcap7, hoct⟩ := hown7.octs
    unfold maxLen at hcap7
    obtain ⟨g, hg⟩ : ∃ g, 0 < n7 → (A7 = some ⟨g, 0, none⟩ ∧ g < w12.heap.size ∧ ∀ j, j < n7 → ∃ A' n' c', w12.cell? ⟨g, j * 2 + 1, none⟩ = some (.slice A' n' c') ∧ (n' ≤ c' ∧ c' ≤ maxLen) ∧
      (0 < n' → ∃ b off, A' = some ⟨b, off, none⟩ ∧ w6.heap.size ≤ b ∧ b ≠ g ∧ ∀ k, k < n' → w12.frozen? ⟨b, off + k, none⟩ = false ∧ ∃ x, w12.cell? ⟨b, off + k, none⟩ = some (.int .u8 x))) := by
      rcases Nat.eq_zero_or_pos n7 with h | h
      · exact ⟨0, fun h' => absurd h' (by omega)⟩
      · obtain ⟨g, h'⟩ := hoct h
        exact ⟨g, fun _ => h'⟩
    have HG := hid hg
    have HBB := hid HB
    have HYY := hid HY
    clear hoct hg hown7 HB HY k1
    go_wp2
    clear k2 k9
    go_loopw [117] (fun i wr => ∃ j : Nat, j ≤ n7 ∧ i = .int .i64 j ∧ Scr w6.heap.size g w12 wr) (fun i _ => n7 - (intOf i).toNat)
    case atStart => exact ⟨0, Nat.zero_le _, rfl, Scr.refl _ _ _⟩
    case round =>
      obtain ⟨j, hj, rfl, hscr⟩ := hrel
      by_cases hlt : j < n7
      · obtain ⟨rfl, hgl, hgj⟩ := HG.out (by omega)
        obtain ⟨A', n', c', e1, hcv, hrow⟩ := hgj j hlt
        unfold maxLen at hcv
        have e1' := (hscr.cell (j * 2 + 1)).trans e1
        have HROW := hid hrow
        clear hgj hrow
        go_wp2
        go_loopw [126] (fun i wr' => ∃ k : Nat, k ≤ n' ∧ i = .int .i64 k ∧ Scr w6.heap.size g w12 wr') (fun i _ => n' - (intOf i).toNat)
        case atStart => exact ⟨0, Nat.zero_le _, rfl, hscr⟩
        case round =>
          obtain ⟨k, hk, rfl, hscr'⟩ := hrel
          have e2 := (hscr'.cell (j * 2 + 1)).trans e1
          by_cases hlk : k < n'
          · obtain ⟨b, off, rfl, hbl, hbg, hcells⟩ := HROW.out (by omega)
            obtain ⟨hfz, x, hx⟩ := hcells k hlk
            obtain ⟨y, hy⟩ := hscr'.u8 b (off + k) x hx
            have hfz' := (hscr'.fz ⟨b, off + k, none⟩).trans hfz
            clear hcells hfz hx e1 e1'
            go_wp2
            go_roundw
            case rel => exact ⟨k + 1, by omega, by go_num, hscr'.put hbl hbg _ hy⟩
            case measure => simp [intOf]; omega
          · go_wp2
            go_roundw
            case rel => exact ⟨j + 1, by omega, by go_num, hscr'⟩
            case measure => simp [intOf]; omega
      · have HB : Below W0.heap.size W0 wr := HBB.out.trans (hscr.bel.mono hlo)
        have HY : Below w4.heap.size w4 wr := HYY.out.trans (hscr.bel.mono hyo)
        have hj' : decide ((j : Int) < (n7 : Int)) = false := by simp; omega
        clear hscr
        go_wp2_with fail
        with_reducible refine (tlvFind_any _ _ _ _ _ _ (q0.out.call HB) b2.1).mono ?_
        rintro e w13 ⟨v13, rfl, hown13, hb13⟩
        obtain ⟨A13, n13, c13, rfl, q13⟩ := hown13.formN
        replace HB := bel_call HB hb13
        replace HY := bel_call HY hb13
        clear hb13 hown13
        have k2 := C2.out _ HB
        have k9 := STR.out _ HB
        have HBE := hid (bel_call hb0 HB)
        go_wp2_with fail
        with_reducible refine (sameBytes_any _ _ _ _ _ _ _ _ _ _ _ q13 (Q4.out.below HY)).mono ?_
        rw [decide_eq_true (show fV x0 a2 = fV x0 a2 from rfl)]
        rintro e w14 ⟨rfl, rfl⟩
        go_wp2
        go_ret
        exact ⟨rfl, HBE.out⟩
end Go.Proofs.Ytajgjalcomhhcaa
