/-
  The contract of package roots' Add: put together anew (slices.Concat, slices.Grow).
-/
import Derived.Test.YtlenoiaepanejaaRoots3
import Derived.Test.YtlenoiaepanejaaGrow
import Derived.Deep.RegionHeld3
namespace Go.Proofs.Ytlenoiaepanejaa
open Go.RowKit Go.WalkArith

theorem rtk_flat5 (w : World) (S S' : Nat → Prop) (a : Rtk) (c : List Value) (h : lay_RootKey.rep w S a c) : lay_RootKey.rep w S' a c := h

set_option maxRecDepth 100000 in
set_option maxHeartbeats 1000000 in
/-- slices.Grow, of nothing. -/
theorem growR_any (n : Nat) (hn : n ≤ 1048576) (lo : Option Nat) (w : World) :
    Calls Try.prog 37 #[.slice none 0 0, .int .i64 n] w fun e w' => ∃ v', e = .returned v' ∧ OwnL lay_RootKey w' w.heap.size lo 34 v' [] ∧ Below w.heap.size w w' := by
  have w0 : IntKind.i64.wrap ((n : Int) - 0) = n := IntWalk.i64_in _ (by omega)
  have w1 : IntKind.i64.wrap (n : Int) = n := IntWalk.i64_in _ (by omega)
  have d0 : decide ((n : Int) < 0) = false := by simp
  by_cases h0 : n = 0
  · subst h0
    go_enter Try.func37, Try.ntmps37
    go_wp2
    go_ret
    exact ⟨_, rfl, OwnL.nil _ _ _ _ _, Below.refl _ _⟩
  · have d1 : decide ((0 : Int) < (n : Int)) = true := by simp; omega
    have d2 : decide (0 < n) = true := by simp; omega
    have hsl := fun A c => run_uptoL (P := Try.prog) 22 34 .i64 Try.underlying22 Try.elemRtk Try.infoRtk A n c 0 (Nat.zero_le _)
    have hsl0 := run_uptoL (P := Try.prog) 22 34 .i64 Try.underlying22 Try.elemRtk Try.infoRtk none 0 0 0 (Nat.zero_le _)
    obtain ⟨cap, W, hr, ho, hb⟩ := run_zeros0 (P := Try.prog) lay_RootKey w 22 3 22 34 .i64 .i64 Try.underlying22 Try.underlying3 Try.infoRtk rfl (by decide) lo n (by omega) hn (by decide)
    have HO := hid ho
    have HB := hid hb
    have HS := hid hsl
    clear ho hb h0 hsl
    go_enter Try.func37, Try.ntmps37
    have hs2 := HS.out (some ⟨w.heap.size, 0, none⟩) cap
    go_wp2_with (at_builtin; go_must (refine Lib.wpList_append_run _ rfl _ _ _ _ rfl _ _ rfl rfl _ _ hr ?_))
    go_ret
    exact ⟨_, rfl, HO.out, HB.out⟩

set_option maxRecDepth 100000 in
set_option maxHeartbeats 2000000 in
/-- slices.Concat, of rows that are no longer together than so much. -/
theorem concatR_any (A : Option Addr) (n c : Nat) (ls : List (List Rtk)) (w : World) (h : Sl (Lay.slice lay_RootKey) w (· < w.heap.size) A n c ls) (hsum : ls.flatten.length ≤ 1048576) :
    Calls Try.prog 23 #[.slice A n c] w fun e w' => ∃ v', e = .returned v' ∧ OwnL lay_RootKey w' w.heap.size (some w.heap.size) 34 v' ls.flatten ∧ Below w.heap.size w w' := by
  have HL := hid h.len
  have hcap := h.cap
  unfold maxLen at hcap
  have HF := hid (fun j => flat_take_len ls j)
  go_enter Try.func23, Try.ntmps23
  go_wp2
  go_loop [3, 11] (fun s i => ∃ j : Nat, j ≤ n ∧ i = .int .i64 j ∧ s = .int .i64 (lenF ls j : Nat)) (fun _ i => n - (intOf i).toNat)
  case atStart => exact ⟨0, Nat.zero_le _, rfl, rfl⟩
  case round =>
    obtain ⟨j, hj, rfl, rfl⟩ := hrel
    have hs := HF.out j
    by_cases hlt : j < n
    · obtain ⟨b, off, A', n', c', hx, rfl, hb, hc, hsl⟩ := row_at h hlt
      have HT := hid (flat_take hx)
      have hs1 := HF.out (j + 1)
      have hs2 : lenF ls (j + 1) = lenF ls j + n' := by unfold lenF; rw [HT.out, List.length_append, hsl.len]
      have HN := hid (show ((lenF ls (j + 1) : Nat) : Int) = (lenF ls j : Nat) + n' from by omega)
      rw [hs2] at hs1
      clear hs2
      generalize lenF ls j = m at *
      clear hsl
      have wm : IntKind.i64.wrap ((m : Int) + (n' : Int)) = (m : Int) + (n' : Int) := IntWalk.i64_in _ (by omega)
      have d1 : decide ((m : Int) + (n' : Int) < 0) = false := by simp; omega
      go_wp2
      go_round
      case rel => exact ⟨j + 1, by omega, by go_num, by rw [HN.out]⟩
      case measure => simp [intOf]; omega
    · have hjn : j = n := by omega
      have HE := hid (show ls.take j = ls from List.take_of_length_le (by rw [HL.out]; omega))
      have hm : lenF ls j ≤ 1048576 := Nat.le_trans hs hsum
      clear hs
      generalize lenF ls j = m at *
      go_wp2_with fail
      with_reducible refine (growR_any m hm (some w.heap.size) w).mono ?_
      rintro e w1 ⟨v1, rfl, ho1, hb1⟩
      have HSL := hid (fun (W : World) (h' : Below w.heap.size w W) => Sl.call h h')
      go_wp2
      go_loopw [6, 27] (fun u i wr => ∃ k : Nat, k ≤ n ∧ i = .int .i64 k ∧ OwnL lay_RootKey wr w.heap.size (some w.heap.size) 34 u (ls.take k).flatten ∧ Below w.heap.size w wr) (fun _ i _ => n - (intOf i).toNat)
      case atStart => exact ⟨0, Nat.zero_le _, rfl, ho1, hb1⟩
      case round =>
        obtain ⟨k, hk, rfl, hown, hbel⟩ := hrel
        by_cases hlk : k < n
        · obtain ⟨b, off, A', n', c', hx, rfl, hb, hc, hsl⟩ := row_at h hlk
          have q1 := (hbel.cell (p := ⟨b, off + k, none⟩) hb).trans hc
          have HT := hid (flat_take hx)
          have hs1 := HF.out (k + 1)
          have hs3 : (ls.take k).flatten.length + n' ≤ 1048576 := by
            unfold lenF at hs1
            rw [HT.out, List.length_append, hsl.len] at hs1
            omega
          clear hs1
          have HS2 := hid ((hsl.keep (w' := wr) fun p hp => hbel.cell hp))
          clear hsl hc
          have hsz := hbel.size
          have HO := hid hown
          clear hown
          go_wp2_with (at_builtin; go_must (refine wpList_catL rfl _ _ 22 rfl w.heap.size none 34 _ 24 Try.underlying22 Try.infoRtk rfl (by decide) _ (ls.take k).flatten ls[k] (· < w.heap.size) A' n' c' rfl rfl HO.out.loose HS2.out (fun b hb => ⟨trivial, Nat.lt_of_lt_of_le hb hsz, fun he => by have := HO.out.ge he.symm; omega⟩) hsz (by omega) (by unfold maxLen; omega) ?_; intro v3 w3 hown3 hext3))
          go_roundw
          case rel => exact ⟨k + 1, by omega, by go_num, by rw [HT.out]; exact hown3.flat rtk_flat5 _, hbel.trans (HO.out.below hext3 hsz)⟩
          case measure => simp [intOf]; omega
        · have HE2 := hid (show ls.take k = ls from List.take_of_length_le (by rw [HL.out]; omega))
          rw [HE2.out] at hown
          go_wp2
          go_ret
          exact ⟨_, rfl, hown, hbel⟩
end Go.Proofs.Ytlenoiaepanejaa
