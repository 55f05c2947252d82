/-
  The contract of package caveat's own Caps.
-/
import Derived.Test.YtikfdfdancgnpaaCaveat7
import Derived.Test.YtikfdfdancgnpaaCaveatMap
namespace Go.Proofs.Ytikfdfdancgnpaa
open Go.RowKit Go.WalkArith Go.Maps

set_option maxRecDepth 100000 in
set_option maxHeartbeats 4000000 in
theorem cCaps_any : CapsSpec := by
  intro A n c l w h1
  have HL := hid h1.len
  have hcap := h1.cap
  unfold maxLen at hcap
  have HCL := hid (checkList_any A n c l _ h1)
  go_enter Try.func21, Try.ntmps21
  go_wp2_with fail
  refine HCL.out.mono ?_
  rintro e w1 ⟨rfl, hb1⟩
  have HB1 := hb1
  clear hb1 HCL
  rcases cpE_is (l := l) with ⟨hE, hcs⟩ | ⟨hE, hcs⟩
  rotate_left
  · rw [hE]
    have HN := hid hE
    have HC := hid (show cpL l = [] from if_neg hcs)
    clear hE hcs
    go_wp2
    go_ret2
    exact ⟨_, by rw [HN.out]; rfl, .inl ⟨rfl, by rw [HC.out]; rfl⟩, HB1⟩
  rw [hE]
  have HN := hid hE
  have HC := hid (show cpL l = l from if_pos hcs)
  have hn := hcs.1
  rw [HL.out] at hn
  clear hE hcs
  have hmm : (Instr.makeMap 45 none).run Try.prog w1 = .ok (.map (some w1.heap.size)) (w1.alloc (.map #[] 0)) := rfl
  have M0 := capTo_made w1
  have hz := HB1.size
  have HB2 : Below w.heap.size w (w1.alloc (.map #[] 0)) := bel_alloc HB1 _
  go_wp2
  generalize w1.alloc (Obj.map #[] 0) = W1 at *
  have hgm : w.heap.size ≤ w1.heap.size := hz
  generalize w1.heap.size = gm at *
  clear hz HB1 hmm
  go_loopw [18] (fun i wr => ∃ j : Nat, j ≤ n ∧ i = .int .i64 j ∧ CapTo wr gm (l.take j) ∧ Below w.heap.size w wr) (fun i _ => n - (intOf i).toNat)
  case atStart => exact ⟨0, Nat.zero_le _, rfl, by rw [List.take_zero]; exact M0, HB2⟩
  case round =>
    obtain ⟨j, hj, rfl, hm, hbel⟩ := hrel
    clear M0 HB2
    by_cases hlt : j < n
    · obtain ⟨b1, o1, hx1, rfl, hb1, t1, t2, t3, hw⟩ := cav_at h1 hlt
      have q1 := (hbel.cell (p := ⟨b1, o1 + j * 3, none⟩) hb1).trans t1
      have q2 := (hbel.cell (p := ⟨b1, o1 + j * 3 + 1, none⟩) hb1).trans t2
      have q3 := (hbel.cell (p := ⟨b1, o1 + j * 3 + 2, none⟩) hb1).trans t3
      have HT := hid (List.take_succ_eq_append_getElem hx1)
      have HLT := hid (show (l.take j).length = j from by rw [List.length_take]; omega)
      have hbw : Below wr.heap.size wr (wr.alloc (Obj.cells #[.int .i64 l[j].Kind, .int .u64 l[j].A, .int .u64 l[j].B] 24)) := bel_alloc (Below.refl _ _) _
      have hba := bel_call hbel hbw
      have MA := hm.below hbw
      clear t1 t2 t3 hbw hm
      by_cases h4 : l[j].Kind = 4
      rotate_left
      · have HM4 := hid (show CapTo _ gm (l.take (j + 1)) from by rw [HT.out]; exact MA.skip (.inl h4))
        have d4 : (l[j].Kind != 4) = true := by simpa using h4
        clear MA h4
        go_wp2
        go_roundw
        case rel => exact ⟨j + 1, by omega, by go_num, HM4.out, hba⟩
        case measure => simp [intOf]; omega
      have hlk := MA.look hw.b
      have d4 : (l[j].Kind != 4) = false := by simpa using h4
      have H4 := hid h4
      clear h4
      cases ho : capS (l.take j) l[j].B with
      | none =>
        rw [ho] at hlk
        simp only [Option.getD_none, Option.isSome_none] at hlk
        obtain ⟨w4, hrun, hm4, hg4⟩ := MA.put hw (by rw [HLT.out]; omega) H4.out (.inl ho)
        rw [← HT.out] at hm4
        have HM4 := hid hm4
        have HB4 := hid (hba.trans (grown_below hg4 hgm hba.size))
        clear hm4 hg4 MA
        go_wp2
        go_roundw
        case rel => exact ⟨j + 1, by omega, by go_num, HM4.out, HB4.out⟩
        case measure => simp [intOf]; omega
      | some m =>
        rw [ho] at hlk
        simp only [Option.getD_some, Option.isSome_some] at hlk
        by_cases hlt2 : l[j].A < m
        · have d5 : decide (l[j].A < m) = true := by simpa using hlt2
          obtain ⟨w4, hrun, hm4, hg4⟩ := MA.put hw (by rw [HLT.out]; omega) H4.out (.inr ⟨m, ho, hlt2⟩)
          rw [← HT.out] at hm4
          have HM4 := hid hm4
          have HB4 := hid (hba.trans (grown_below hg4 hgm hba.size))
          clear hm4 hg4 MA
          go_wp2
          go_roundw
          case rel => exact ⟨j + 1, by omega, by go_num, HM4.out, HB4.out⟩
          case measure => simp [intOf]; omega
        · have d5 : decide (l[j].A < m) = false := by simpa using hlt2
          have HM4 := hid (show CapTo _ gm (l.take (j + 1)) from by rw [HT.out]; exact MA.skip (.inr ⟨m, ho, hlt2⟩))
          clear MA hlt2
          go_wp2
          go_roundw
          case rel => exact ⟨j + 1, by omega, by go_num, HM4.out, hba⟩
          case measure => simp [intOf]; omega
    · have HTK := hid (show l.take j = l from List.take_of_length_le (by rw [HL.out]; omega))
      rw [HTK.out] at hm
      go_wp2
      go_ret2
      exact ⟨_, by rw [HN.out]; rfl, .inr ⟨gm, rfl, hgm, by rw [HC.out]; exact hm⟩, hbel⟩
end Go.Proofs.Ytikfdfdancgnpaa
