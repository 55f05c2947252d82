/-
  The walk of FrameBad.
-/
import Derived.Test.YtbcahbgdjoahaaaFrameLive
namespace Go.Proofs.Ytbcahbgdjoahaaa
open Go.RowKit Go.WalkArith

theorem feed_bad {b more : List Int} {n : Int} (hb : Oct b) (hl : b.length ≤ 4096) (hn : 4096 < n) : feedS ⟨[], false⟩ (frameOf b ++ [n / 256, n % 256] ++ more) = (⟨[], true⟩, [b]) := by
  have hlong : longN [n / 256, n % 256] = n := by simp [longN, nth]; omega
  rw [feedS_app, feedS_app, feedS_frame hb hl]
  simp only
  rw [feedS_two, octS_two, hlong, if_pos hn]
  simp only
  rw [feedS_bad rfl]
  simp

theorem ok_none : RdrOk ⟨[], false⟩ := ⟨by simp, by simp⟩
theorem ok_gone : RdrOk ⟨[], true⟩ := ⟨by simp, by simp⟩
theorem rep_none (w : World) : lay_Reader.rep w (· < w.heap.size) ⟨[], false⟩ (#[.slice none 0 0, .bool false] : Array Value).toList := rep_Reader.2 ⟨none, 0, 0, rfl, Sl.nil _ _ _⟩
theorem fd_ok {r : Rdr} {xs : List Int} (h : RdrOk r) (hl : xs.length ≤ 65535) : fdE r xs = 0 ∧ fdR r xs = (feedS r xs).1 ∧ fdL r xs = (feedS r xs).2 := by
  have he : fdE r xs = 0 := by unfold fdE; rw [if_neg (by simpa using h), if_neg (by omega)]
  exact ⟨he, if_pos he, if_pos he⟩

set_option maxRecDepth 100000 in
set_option maxHeartbeats 2000000 in
theorem frameBad_walk (A0 : Option Addr) (n0 c0 : Nat) (x0 : List Int) (a1 : Int) (A2 : Option Addr) (n2 c2 : Nat) (x2 : List Int) (w : World) (r0 : Rd w w.heap.size .u8 A0 n0 c0 x0) (b1 : 0 ≤ a1 ∧ a1 ≤ 65535) (r2 : Rd w w.heap.size .u8 A2 n2 c2 x2) :
    Calls Try.prog 5 #[.slice A0 n0 c0, .int .u16 a1, .slice A2 n2 c2] w fun e w' => e = .returned (.bool true) ∧ Below w.heap.size w w' := by
  have hc0 := r0.cap
  have hc2 := r2.cap
  unfold maxLen at hc0 hc2
  have HL0 := hid r0.len
  have HL2 := hid r2.len
  have O0 := hid (oct_of r0)
  have R0 := hid (fun (W : World) (h : Below w.heap.size w W) => r0.below h)
  have R2 := hid (fun (W : World) (h : Below w.heap.size w W) => r2.below h)
  clear r0 r2
  go_enter Try.func5, Try.ntmps5
  go_wp2_with fail
  with_reducible refine (live3_any _).mono ?_
  rintro e w1 ⟨rfl, hb1⟩
  have HB := hb1
  clear hb1
  by_cases h5 : 300 < n0 ∨ 300 < n2 ∨ a1 ≤ 4096
  · rcases Nat.lt_or_ge 300 n0 with h6 | h6
    · have d5 : decide ((300 : Int) < (n0 : Int)) = true := by simp; omega
      go_wp2
      go_ret
      exact ⟨rfl, HB⟩
    · have d5 : decide ((300 : Int) < (n0 : Int)) = false := by simp; omega
      rcases Nat.lt_or_ge 300 n2 with h7 | h7
      · have d6 : decide ((300 : Int) < (n2 : Int)) = true := by simp; omega
        go_wp2
        go_ret
        exact ⟨rfl, HB⟩
      · have d6 : decide ((300 : Int) < (n2 : Int)) = false := by simp; omega
        have d7 : decide (a1 ≤ 4096) = true := by simp; omega
        go_wp2
        go_ret
        exact ⟨rfl, HB⟩
  have d5 : decide ((300 : Int) < (n0 : Int)) = false := by simp; omega
  have d6 : decide ((300 : Int) < (n2 : Int)) = false := by simp; omega
  have d7 : decide (a1 ≤ 4096) = false := by simp; omega
  have hn0 : n0 ≤ 300 := by omega
  have hn2 : n2 ≤ 300 := by omega
  have ha1 : 4096 < a1 := by omega
  clear h5
  have HPT := hid (show ptE x0 = 0 ∧ ptO x0 = frameOf x0 from ⟨if_neg (by rw [HL0.out]; omega), if_neg (by rw [HL0.out]; omega)⟩)
  have hfl : (frameOf x0).length ≤ 302 := by simp [frameOf, HL0.out]; omega
  go_wp2_with fail
  with_reducible refine (framePut_any _ _ _ _ x0 _ (R0.out _ HB) HB.size).mono ?_
  rw [HPT.out.1, HPT.out.2]
  rintro e w2 ⟨v2, rfl, hown2, hb2⟩
  have hz1 := HB.size
  have hz2 := hb2.size
  replace HB := bel_call HB hb2
  clear hb2
  have hw1 : (Lit.int .u8 (a1 / 256)).wf = true := wf_u8 (by omega)
  have hw2 : (Lit.int .u8 (a1 % 256)).wf = true := wf_u8 (by omega)
  have HLIT := hid (show Rd (w2.alloc (Obj.cells #[.int .u8 (a1 / 256), .int .u8 (a1 % 256)] 5)) (w2.alloc (Obj.cells #[.int .u8 (a1 / 256), .int .u8 (a1 % 256)] 5)).heap.size .u8 (some ⟨w2.heap.size, 0, none⟩) 2 2 [a1 / 256, a1 % 256] from Rd.lit2 (cell_marked _ _ _ _ 0) (cell_marked _ _ _ _ 1) hw1 hw2)
  have HOA := hid (hown2.alloc (Obj.cells #[.int .u8 (a1 / 256), .int .u8 (a1 % 256)] 5))
  have hza : w1.heap.size ≤ (w2.alloc (Obj.cells #[.int .u8 (a1 / 256), .int .u8 (a1 % 256)] 5)).heap.size := by simp; omega
  have hfl2 : (frameOf x0 ++ [a1 / 256, a1 % 256]).length ≤ 304 := by simp; omega
  have BLA := hid (bel_alloc (Below.refl w2.heap.size w2) (Obj.cells #[.int .u8 (a1 / 256), .int .u8 (a1 % 256)] 5))
  go_wp2_with (first | (at_builtin; refine wpList_cat rfl (.tmp 38) (.tmp 44) 22 rfl w1.heap.size 5 .u8 1 Try.underlying22 Try.infoU8 v2 (frameOf x0) _ _ 2 2 [a1 / 256, a1 % 256] rfl rfl HOA.out HLIT.out hza (by omega) (by omega) ?_; intro v3 w3 hown3 hext3; have hb3 : Below w1.heap.size w2 w3 := (BLA.out.mono hz2).trans (HOA.out.below hext3 hza); have HB3 : Below w.heap.size w w3 := HB.trans (hb3.mono hz1); have hz3 := Nat.le_trans hz2 hb3.size) | (at_builtin; go_must (refine wpList_cat rfl (.tmp 45) (.tmp 46) 22 rfl w1.heap.size 5 .u8 1 Try.underlying22 Try.infoU8 v3 (frameOf x0 ++ [a1 / 256, a1 % 256]) _ A2 n2 c2 x2 rfl rfl hown3 (R2.out _ HB3) hz3 (by omega) (by omega) ?_; intro v4 w4 hown4 hext4; have HB4 : Below w.heap.size w w4 := HB3.trans ((hown3.below hext4 hz3).mono hz1); obtain ⟨A4, n4, c4, rfl, q4⟩ := hown4.formN)))
  have hl4 : (frameOf x0 ++ [a1 / 256, a1 % 256] ++ x2).length ≤ 65535 := by have := HL2.out; rw [List.length_append]; omega
  have HF := hid (fd_ok ok_none hl4)
  rw [feed_bad O0.out (by rw [HL0.out]; omega) ha1] at HF
  clear hext3 hext4 hown3 hown4 hown2 HOA HLIT hza BLA HB HB3 hb3
  with_reducible refine (frameFeed_any _ ⟨[], false⟩ _ _ _ _ _ (rep_none _) q4).mono ?_
  rintro e w5 ⟨A5, n5, c5, v5, rfl, hs5, hown5, hb5⟩
  rw [HF.out.1, HF.out.2.1, HF.out.2.2] at *
  simp only at *
  obtain ⟨A6, n6, c6, rfl, q6⟩ := hown5.read
  have hn5 : n5 = 0 := hs5.len.symm
  have hn6 : n6 = 1 := q6.len.symm
  subst hn5 hn6
  obtain ⟨b6, o6, A7, n7, c7, hx6, rfl, hb6, t6, hV6⟩ := txt_at q6 (j := 0) (by omega)
  simp only [Nat.add_zero] at t6
  have hba := bel_alloc (Below.refl w5.heap.size w5) (Obj.cells #[.slice A5 0 c5, .bool true] 24)
  have t6' := (hba.cell (p := ⟨b6, o6, none⟩) hb6).trans t6
  have R7 := hid ((hV6.rd (B := w5.heap.size) fun _ h => h).below hba)
  have V5 := Var2.new w5 24 (.slice A5 0 c5) (.bool true)
  have HB5 := bel_call (bel_call HB4 hb5) hba
  have PX := hid (show lay_Reader.rep (w5.alloc (Obj.cells #[.slice A5 0 c5, .bool true] 24)) (· < (w5.alloc (Obj.cells #[.slice A5 0 c5, .bool true] 24)).heap.size) ⟨[], true⟩ (#[.slice A5 0 c5, .bool true] : Array Value).toList from
    rep_at (rep_Reader.2 ⟨A5, 0, c5, rfl, hs5.wide fun _ hb => hb.2.1⟩) hba)
  have hc6 := q6.cap
  unfold maxLen at hc6
  clear hb5 hba hs5 hown5 q6 t6 hV6 HB4 q4 HF
  go_wp2_with fail
  with_reducible refine (sameBytes_any _ _ _ _ _ _ _ _ _ _ _ R7.out (R0.out _ HB5)).mono ?_
  rw [decide_eq_true (show [x0][0] = x0 from rfl)]
  rintro e w6 ⟨rfl, rfl⟩
  generalize w5.alloc (Obj.cells #[.slice A5 0 c5, .bool true] 24) = W5 at *
  have k0 := V5.c0
  have k1 := V5.c1
  have HF2 := hid (fd_ok (xs := x2) ok_gone (by rw [HL2.out]; omega))
  rw [feedS_bad rfl] at HF2
  go_wp2_with fail
  with_reducible refine (frameFeed_any _ ⟨[], true⟩ _ _ _ x2 _ PX.out ((R2.out _ HB5).more HB5.size)).mono ?_
  rintro e w7 ⟨A8, n8, c8, v8, rfl, hs8, hown8, hb8⟩
  rw [HF2.out.1, HF2.out.2.1, HF2.out.2.2] at *
  simp only at *
  obtain ⟨A9, n9, c9, rfl, q9⟩ := hown8.read
  have hn9 : n9 = 0 := q9.len.symm
  subst hn9
  have hba := bel_alloc (Below.refl w7.heap.size w7) (Obj.cells #[.slice A8 n8 c8, .bool true] 24)
  have PY := hid (show lay_Reader.rep (w7.alloc (Obj.cells #[.slice A8 n8 c8, .bool true] 24)) (· < (w7.alloc (Obj.cells #[.slice A8 n8 c8, .bool true] 24)).heap.size) ⟨[], true⟩ (#[.slice A8 n8 c8, .bool true] : Array Value).toList from
    rep_at (rep_Reader.2 ⟨A8, n8, c8, rfl, hs8.wide fun _ hb => hb.2.1⟩) hba)
  have V8 := Var2.new w7 24 (.slice A8 n8 c8) (.bool true)
  have hg5 := Nat.lt_of_lt_of_le V5.lt hb8.size
  have HB8 := bel_call hb8 hba
  have HBE := bel_call HB5 HB8
  clear hb8 hba hs8 hown8 q9 HF2 k0 k1
  have k0 := (V5.call HB8).c0
  have k1 := (V5.call HB8).c1
  have PX8 := hid (rep_at PX.out HB8)
  have HWa := hid (show waN ⟨[], true⟩ = 0 ∧ waE ⟨[], true⟩ = 0 from ⟨waN_bad ok_gone rfl, chkF_ok ok_gone⟩)
  go_wp2_with fail
  generalize w7.alloc (Obj.cells #[.slice A8 n8 c8, .bool true] 24) = W7 at *
  with_reducible refine (frameWants_any _ ⟨[], true⟩ _ PX8.out).mono ?_
  rw [HWa.out.1, HWa.out.2]
  rintro e w9 ⟨rfl, hb9⟩
  have m0 := (V8.call hb9).c0
  have m1 := (V8.call hb9).c1
  have l0 := (hb9.cell (p := ⟨w5.heap.size, 0, none⟩) (Nat.lt_of_lt_of_le V5.lt HB8.size)).trans k0
  have l1 := (hb9.cell (p := ⟨w5.heap.size, 1, none⟩) (Nat.lt_of_lt_of_le V5.lt HB8.size)).trans k1
  have PA := hid (rep_at PY.out hb9)
  have PB := hid (rep_at PX8.out hb9)
  replace HBE := bel_call HBE hb9
  clear hb9 k0 k1
  go_wp2_with fail
  with_reducible refine (frameSame_any _ _ ⟨[], true⟩ ⟨[], true⟩ _ PA.out PB.out).mono ?_
  rw [decide_eq_true (show (⟨[], true⟩ : Rdr) = ⟨[], true⟩ from rfl)]
  rintro e w10 ⟨rfl, hb10⟩
  replace HBE := bel_call HBE hb10
  have HBF := hid HBE
  clear HBE hb10
  go_wp2
  go_ret
  exact ⟨rfl, HBF.out⟩
end Go.Proofs.Ytbcahbgdjoahaaa
