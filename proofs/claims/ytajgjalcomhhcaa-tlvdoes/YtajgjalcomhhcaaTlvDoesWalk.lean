/-
  The walk of TlvDoes.
-/
import Derived.Test.YtajgjalcomhhcaaTlvLive
import Derived.Test.YtajgjalcomhhcaaScr
namespace Go.Proofs.Ytajgjalcomhhcaa
open Go.RowKit Go.WalkArith

set_option maxRecDepth 100000 in
set_option maxHeartbeats 2000000 in
theorem tlvDoes_walk (A0 : Option Addr) (n0 c0 : Nat) (x0 : List Rec) (A1 : Option Addr) (n1 c1 : Nat) (x1 : List Rec) (A2 : Option Addr) (n2 c2 : Nat) (x2 : List Int) (w : World) (r0 : Sl lay_Record w (· < w.heap.size) A0 n0 c0 x0) (r1 : Sl lay_Record w (· < w.heap.size) A1 n1 c1 x1) (r2 : Rd w w.heap.size .u8 A2 n2 c2 x2) :
    Calls Try.prog 3 #[.slice A0 n0 c0, .slice A1 n1 c1, .slice A2 n2 c2] w fun e w' => e = .returned (.bool true) ∧ Below w.heap.size w w' := by
  have hc2 := r2.cap
  unfold maxLen at hc2
  go_enter Try.func3, Try.ntmps3
  go_wp2_with fail
  with_reducible refine (live2_any _).mono ?_
  rintro e w1 ⟨rfl, hb1⟩
  have q0 := r0.call hb1
  have q1 := r1.call hb1
  have q2 := r2.below hb1
  go_wp2_with fail
  with_reducible refine (few_any _ _ _ _ _ q0).mono ?_
  rintro e w2 ⟨rfl, hb2⟩
  have HB := bel_call hb1 hb2
  replace q0 := q0.call hb2
  replace q1 := q1.call hb2
  replace q2 := r2.below HB
  clear hb1 hb2 r0 r1
  by_cases hf : fewB x0 = true
  case neg =>
    have hf' : fewB x0 = false := by simpa using hf
    clear hf
    go_wp2
    go_ret
    exact ⟨rfl, HB⟩
  go_wp2_with fail
  with_reducible refine (few_any _ _ _ _ _ q1).mono ?_
  rintro e w3 ⟨rfl, hb3⟩
  replace HB := bel_call HB hb3
  replace q0 := q0.call hb3
  replace q1 := q1.call hb3
  replace q2 := r2.below HB
  clear hb3 w2
  by_cases hf1 : fewB x1 = true
  case neg =>
    have hf' : fewB x1 = false := by simpa using hf1
    clear hf1
    go_wp2
    go_ret
    exact ⟨rfl, HB⟩
  by_cases h5 : (5000 < n2 ∧ n2 ≤ 65535) ∨ 65540 < n2
  · have HBB := hid HB
    rcases h5 with h5 | h5
    · have d5 : decide ((5000 : Int) < (n2 : Int)) = true := by simp; omega
      have d6 : decide ((n2 : Int) ≤ 65535) = true := by simp; omega
      go_wp2
      go_ret
      exact ⟨rfl, HBB.out⟩
    · have d5 : decide ((5000 : Int) < (n2 : Int)) = true := by simp; omega
      have d6 : decide ((n2 : Int) ≤ 65535) = false := by simp; omega
      have d7 : decide ((65540 : Int) < (n2 : Int)) = true := by simp; omega
      go_wp2
      go_ret
      exact ⟨rfl, HBB.out⟩
  have hcase : n2 ≤ 5000 ∨ (65535 < n2 ∧ n2 ≤ 65540) := by omega
  have hstr := fun (W : World) (h : Below w.heap.size w W) => (r2.below h).str (P := Try.prog) Try.underlying23 Try.underlying5 Try.underlying9
  have HSTR := hid hstr
  have k1 := hstr _ HB
  clear h5 hstr
  rcases hcase with hcase | hcase
  case' inl => have d5 : decide ((5000 : Int) < (n2 : Int)) = false := by simp; omega
               have d7 : decide ((65540 : Int) < (n2 : Int)) = false := by simp; omega
               go_wp2_with fail
               clear d5 d7
  case' inr => have d5 : decide ((5000 : Int) < (n2 : Int)) = true := by simp; omega
               have d6 : decide ((n2 : Int) ≤ 65535) = false := by simp; omega
               have d7 : decide ((65540 : Int) < (n2 : Int)) = false := by simp; omega
               go_wp2_with fail
               clear d5 d6 d7
  all_goals
    with_reducible refine (tlvPut_any _ _ _ _ _ q0).mono ?_
    rintro e w4 ⟨v4, rfl, hown4, hb4⟩
    obtain ⟨A4, n4, c4, rfl, q4⟩ := hown4.formN
    replace HB := bel_call HB hb4
    replace q0 := q0.call hb4
    replace q1 := q1.call hb4
    replace q2 := r2.below HB
    clear hb4 hown4 k1
    go_wp2_with fail
    with_reducible refine (refPutR_any _ _ _ _ _ q0).mono ?_
    rintro e w5 ⟨v5, rfl, hown5, hb5⟩
    obtain ⟨A5, n5, c5, rfl, q5⟩ := hown5.formN
    replace HB := bel_call HB hb5
    replace q0 := q0.call hb5
    replace q1 := q1.call hb5
    replace q2 := r2.below HB
    replace q4 := (q4.below hb5).more hb5.size
    clear hb5 hown5
    go_wp2_with fail
    with_reducible refine (tlvGet_any _ _ _ _ _ (q2.more HB.size)).mono ?_
    rintro e w6 ⟨v6, rfl, hown6, hb6⟩
    obtain ⟨A6, n6, c6, rfl, q6⟩ := hown6.read
    have hlo := HB.size
    replace HB := bel_call HB hb6
    replace q0 := q0.call hb6
    replace q1 := q1.call hb6
    replace q2 := r2.below HB
    replace q4 := (q4.below hb6).more hb6.size
    replace q5 := (q5.below hb6).more hb6.size
    clear hb6
    go_wp2_with fail
    with_reducible refine (refGetR_any _ _ _ _ _ (q2.more HB.size)).mono ?_
    rintro e w7 ⟨v7, rfl, hown7, hb7⟩
    obtain ⟨A7, n7, c7, rfl, q7⟩ := hown7.read
    replace HB := bel_call HB hb7
    replace q0 := q0.call hb7
    replace q1 := q1.call hb7
    replace q4 := (q4.below hb7).more hb7.size
    replace q5 := (q5.below hb7).more hb7.size
    replace q6 := q6.call hb7
    replace hown6 := hown6.keep hb7
    clear hb7 hown7 q2
    go_wp2_with fail
    with_reducible refine (sameBytes_any _ _ _ _ _ _ _ _ _ _ _ q4 q5).mono ?_
    rw [decide_eq_true (show pO x0 = pO x0 from rfl)]
    rintro e w8 ⟨rfl, rfl⟩
    go_wp2_with fail
    with_reducible refine (refSame_any _ _ _ _ _ _ _ _ _ q6 q7).mono ?_
    rw [decide_eq_true (show (getR x2).1 = (getR x2).1 from rfl)]
    rintro e w8 ⟨rfl, hb8⟩
    replace HB := bel_call HB hb8
    replace q0 := q0.call hb8
    replace q1 := q1.call hb8
    replace hown6 := hown6.keep hb8
    clear hb8 q4 q5 q6 q7
    go_wp2_with fail
    with_reducible refine (tlvCheck_any _ _ _ _ _ q0).mono ?_
    rintro e w9 ⟨rfl, hb9⟩
    replace HB := bel_call HB hb9
    replace q0 := q0.call hb9
    replace q1 := q1.call hb9
    replace hown6 := hown6.keep hb9
    clear hb9
    go_wp2_with fail
    with_reducible refine (check_any _ _ _ _ _ q0).mono ?_
    rintro e w10 ⟨rfl, hb10⟩
    replace HB := bel_call HB hb10
    replace q0 := q0.call hb10
    replace q1 := q1.call hb10
    replace hown6 := hown6.keep hb10
    clear hb10
    go_wp2_with fail
    with_reducible refine (tlvSame_any _ _ _ _ _ _ _ _ _ q0 q1).mono ?_
    obtain ⟨dx, hdx⟩ : ∃ d, decide (x0 = x1) = d := ⟨_, rfl⟩
    have HDX := hid hdx
    rw [HDX.out]
    clear hdx
    rintro e w11 ⟨rfl, hb11⟩
    replace HB := bel_call HB hb11
    replace q0 := q0.call hb11
    replace q1 := q1.call hb11
    replace hown6 := hown6.keep hb11
    clear hb11
    go_wp2_with fail
    with_reducible refine (refSame_any _ _ _ _ _ _ _ _ _ q0 q1).mono ?_
    rw [HDX.out]
    rintro e w12 ⟨rfl, hb12⟩
    replace HB := bel_call HB hb12
    replace hown6 := hown6.keep hb12
    clear hb12 q0 q1
    obtain ⟨-, hcap6, hoct⟩ := hown6.octs
    unfold maxLen at hcap6
    obtain ⟨g, hg⟩ : ∃ g, 0 < n6 → (A6 = some ⟨g, 0, none⟩ ∧ g < w12.heap.size ∧ ∀ j, j < n6 → ∃ A' n' c', w12.cell? ⟨g, j * 2 + 1, none⟩ = some (.slice A' n' c') ∧ (n' ≤ c' ∧ c' ≤ maxLen) ∧
      (0 < n' → ∃ b off, A' = some ⟨b, off, none⟩ ∧ w5.heap.size ≤ b ∧ b ≠ g ∧ ∀ k, k < n' → w12.frozen? ⟨b, off + k, none⟩ = false ∧ ∃ x, w12.cell? ⟨b, off + k, none⟩ = some (.int .u8 x))) := by
      rcases Nat.eq_zero_or_pos n6 with h | h
      · exact ⟨0, fun h' => absurd h' (by omega)⟩
      · obtain ⟨g, h'⟩ := hoct h
        exact ⟨g, fun _ => h'⟩
    have HG := hid hg
    have HBB := hid HB
    clear hoct hg hown6 HB
    go_wp2
    go_loopw [102] (fun i wr => ∃ j : Nat, j ≤ n6 ∧ i = .int .i64 j ∧ Scr w5.heap.size g w12 wr) (fun i _ => n6 - (intOf i).toNat)
    case atStart => exact ⟨0, Nat.zero_le _, rfl, Scr.refl _ _ _⟩
    case round =>
      obtain ⟨j, hj, rfl, hscr⟩ := hrel
      by_cases hlt : j < n6
      · obtain ⟨rfl, hgl, hgj⟩ := HG.out (by omega)
        obtain ⟨A', n', c', e1, hcv, hrow⟩ := hgj j hlt
        unfold maxLen at hcv
        have e1' := (hscr.cell (j * 2 + 1)).trans e1
        have HROW := hid hrow
        clear hgj hrow
        go_wp2
        go_loopw [111] (fun i wr' => ∃ k : Nat, k ≤ n' ∧ i = .int .i64 k ∧ Scr w5.heap.size g w12 wr') (fun i _ => n' - (intOf i).toNat)
        case atStart => exact ⟨0, Nat.zero_le _, rfl, hscr⟩
        case round =>
          obtain ⟨k, hk, rfl, hscr'⟩ := hrel
          have e2 := (hscr'.cell (j * 2 + 1)).trans e1
          by_cases hlk : k < n'
          · obtain ⟨b, off, rfl, hbl, hbg, hcells⟩ := HROW.out (by omega)
            obtain ⟨hfz, x, hx⟩ := hcells k hlk
            obtain ⟨y, hy⟩ := hscr'.u8 b (off + k) x hx
            have hfz' := (hscr'.fz ⟨b, off + k, none⟩).trans hfz
            clear hcells hfz hx e1 e1'
            go_wp2
            go_roundw
            case rel => exact ⟨k + 1, by omega, by go_num, hscr'.put hbl hbg _ hy⟩
            case measure => simp [intOf]; omega
          · go_wp2
            go_roundw
            case rel => exact ⟨j + 1, by omega, by go_num, hscr'⟩
            case measure => simp [intOf]; omega
      · have k9 := HSTR.out wr (HBB.out.trans (hscr.bel.mono hlo))
        have dss : ((strOfNums x2).toList == (strOfNums x2).toList) = true := by simp
        go_wp2
        go_ret
        exact ⟨rfl, HBB.out.trans (hscr.bel.mono hlo)⟩
end Go.Proofs.Ytajgjalcomhhcaa
