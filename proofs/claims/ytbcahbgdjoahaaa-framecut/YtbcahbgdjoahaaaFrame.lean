/-
  The contract of the program's Feed of layer 3.
-/
import Derived.Test.YtbcahbgdjoahaaaFrame3
namespace Go.Proofs.Ytbcahbgdjoahaaa
open Go.RowKit Go.WalkArith

set_option maxRecDepth 100000 in
set_option maxHeartbeats 2000000 in
theorem frameFeed_any (s : Array Value) (r : Rdr) (A : Option Addr) (n c : Nat) (xs : List Int) (w : World) (h : lay_Reader.rep w (· < w.heap.size) r s.toList) (hr : Rd w w.heap.size .u8 A n c xs) :
    Calls Try.prog 10 #[.agg s, .slice A n c] w (FeedPost w r xs) := by
  obtain ⟨A0, n0, c0, hc, hV⟩ := rep_Reader.1 h
  obtain rfl : s = #[.slice A0 n0 c0, .bool r.Bad] := Array.ext' hc
  have hcap := hr.cap
  unfold maxLen at hcap
  have HL := hid hr.len
  have hb0 : Below w.heap.size w ((w.alloc (Obj.cells #[.slice A0 n0 c0, .bool r.Bad] 24)).alloc (Obj.cells #[.slice none 0 0, .bool false] 24)) := bel_alloc (bel_alloc (Below.refl _ _) _) _
  have hz : ((w.alloc (Obj.cells #[.slice A0 n0 c0, .bool r.Bad] 24)).alloc (Obj.cells #[.slice none 0 0, .bool false] 24)).heap.size = w.heap.size + 2 := by simp
  have v0 : Var2 ((w.alloc (Obj.cells #[.slice A0 n0 c0, .bool r.Bad] 24)).alloc (Obj.cells #[.slice none 0 0, .bool false] 24)) w.heap.size 24 (.slice A0 n0 c0) (.bool r.Bad) := (Below.heap_alloc _ _ _ (by simp)).trans (heap_alloc_new _ _)
  have v1 : Var2 ((w.alloc (Obj.cells #[.slice A0 n0 c0, .bool r.Bad] 24)).alloc (Obj.cells #[.slice none 0 0, .bool false] 24)) (w.heap.size + 1) 24 (.slice none 0 0) (.bool false) := alloc2_new _ _ _
  have RP := hid (rep_at h hb0)
  have HR := hid hr
  have HV := hid (hV.rd (B := w.heap.size) fun _ h => h)
  clear h hc hV hr
  go_enter Try.func10, Try.ntmps10
  go_wp2_with fail
  generalize (w.alloc (Obj.cells #[.slice A0 n0 c0, .bool r.Bad] 24)).alloc (Obj.cells #[.slice none 0 0, .bool false] 24) = W0 at *
  with_reducible refine (frameCheck_any _ r _ RP.out).mono ?_
  rintro e w1 ⟨rfl, hb1⟩
  have V0 := v0.call hb1
  have V1 := v1.call hb1
  have y0 := V0.c0
  have y1 := V0.c1
  have z0 := V1.c0
  have z1 := V1.c1
  have f0 := V1.f 0
  have f1 := V1.f 1
  have HB1 := hb0.trans (hb1.mono hb0.size)
  have hs1 : w.heap.size + 2 ≤ w1.heap.size := by rw [← hz]; exact hb1.size
  by_cases hk : RdrOk r
  case neg =>
    have HE := hid (show fdE r xs = 1 from if_pos hk)
    have HRr := hid (show fdR r xs = ⟨[], false⟩ from if_neg (by rw [HE.out]; decide))
    have HLl := hid (show fdL r xs = [] from if_neg (by rw [HE.out]; decide))
    rw [chkF_no hk]
    clear hk
    go_wp2
    refine bodyPost_ret_by (results_ctt rfl _ _ (w.heap.size + 1) 0 rfl [.slice none 0 0, .bool false] _ (range2 (set2' z0 z1).1 (set2' z0 z1).2) Try.underlying24 rfl (by kernel_rfl)) rfl ?_
    exact ⟨none, 0, 0, _, by rw [HRr.out, HE.out]; rfl, by rw [HRr.out]; exact Sl.nil _ _ _, by rw [HLl.out]; exact OwnL.nil _ _ _ _ _, (HB1.setCell (by simp) _).setCell (by simp) _⟩
  rw [chkF_ok hk]
  by_cases hbig : 65535 < n
  · have HE := hid (show fdE r xs = 4 from by unfold fdE; rw [if_neg (by simpa using hk), if_pos (by rw [HL.out]; exact hbig)])
    have HRr := hid (show fdR r xs = ⟨[], false⟩ from if_neg (by rw [HE.out]; decide))
    have HLl := hid (show fdL r xs = [] from if_neg (by rw [HE.out]; decide))
    have hbig' : (65535 : Int) < (n : Int) := by omega
    clear hk
    go_wp2
    refine bodyPost_ret_by (results_ctt rfl _ _ (w.heap.size + 1) 0 rfl [.slice none 0 0, .bool false] _ (range2 (set2' z0 z1).1 (set2' z0 z1).2) Try.underlying24 rfl (by kernel_rfl)) rfl ?_
    exact ⟨none, 0, 0, _, by rw [HRr.out, HE.out]; rfl, by rw [HRr.out]; exact Sl.nil _ _ _, by rw [HLl.out]; exact OwnL.nil _ _ _ _ _, (HB1.setCell (by simp) _).setCell (by simp) _⟩
  have HE := hid (show fdE r xs = 0 from by unfold fdE; rw [if_neg (by simpa using hk), if_neg (by rw [HL.out]; exact hbig)])
  have HRr := hid (show fdR r xs = (feedS r xs).1 from if_pos HE.out)
  have HLl := hid (show fdL r xs = (feedS r xs).2 from if_pos HE.out)
  have hbig' : decide ((65535 : Int) < (n : Int)) = false := by simp; omega
  have hn : n ≤ 65535 := by omega
  have hn0 : n0 ≤ 4097 := by rw [← HV.out.len]; exact ok_len hk
  by_cases hbad : r.Bad = true
  · have HX := hid (show feedS r xs = (⟨[], true⟩, []) from by
      rw [feedS_bad hbad]
      have := ok_bad hk hbad
      cases r
      simp_all)
    rw [hbad] at y1
    clear hk hbig
    go_wp2
    refine bodyPost_ret_by (results_ctt rfl _ _ (w.heap.size + 1) 0 rfl [.slice none 0 0, .bool true] _ (range2 (set2' z0 z1).1 (set2' z0 z1).2) Try.underlying24 rfl (by kernel_rfl)) rfl ?_
    exact ⟨none, 0, 0, _, by rw [HRr.out, HX.out, HE.out]; rfl, by rw [HRr.out, HX.out]; exact Sl.nil _ _ _, by rw [HLl.out, HX.out]; exact OwnL.nil _ _ _ _ _, (HB1.setCell (by simp) _).setCell (by simp) _⟩
  have hbad' : r.Bad = false := by simpa using hbad
  have HX := hid (show feedS ⟨[], false⟩ (r.B ++ xs) = feedS r xs from by
    have hr : r = ⟨r.B, false⟩ := by cases r; simp_all
    rw [feedS_whole (by rw [← hr]; exact hk), ← hr])
  rw [hbad'] at y1
  have R1 := HV.out.below HB1
  have X1 := HR.out.below HB1
  clear hk hbig hbad hbad' v0 v1
  generalize r.B = rb at *
  go_wp2_with fail
  with_reducible refine (clone_any _ _ _ _ rb _ R1 (by omega) (by omega)).mono ?_
  rintro e w2 ⟨v2, rfl, hown2, hb2⟩
  have X2 := X1.below (hb2.mono (by omega))
  have hs2 := hb2.size
  have hl2 : rb.length = n0 := HV.out.len
  have hq1 : (rb.length + n) * 1 ≤ 140737488355328 := by omega
  have hq2 : rb.length + n < 140737488355328 := by omega
  go_wp2_with (at_builtin; go_must (refine wpList_cat rfl (.tmp 26) (.tmp 27) 22 rfl w1.heap.size 5 .u8 1 Try.underlying22 Try.infoU8 v2 rb w.heap.size A n c xs rfl rfl hown2 X2 hs2 hq1 hq2 ?_; intro v3 w3 hown3 hext3; obtain ⟨A3, n3, c3, rfl, hr3⟩ := hown3.formN))
  have hbel3 : Below w1.heap.size w1 w3 := hb2.trans (hown2.below hext3 hs2)
  have hl3 : n3 ≤ 70000 := by rw [← hr3.len, List.length_append, HL.out]; omega
  have hsz3 := hbel3.size
  have HRD := hid (read_any _ _ _ _ _ hr3 hl3)
  unfold ReadPost at HRD
  have HX2 := HX
  generalize feedS ⟨[], false⟩ (rb ++ xs) = p at *
  obtain ⟨⟨B4, b4⟩, l4⟩ := p
  simp only at HRD
  clear HX hr3 hown3 hext3 z0 z1 f0 f1 y0 y1
  with_reducible refine HRD.out.mono ?_
  rintro e w4 ⟨A4, n4, c4, v4, rfl, hs4, hown4, hb4⟩
  have U1 := (V1.call hbel3).call hb4
  have z0 := U1.c0
  have z1 := U1.c1
  have f0 := U1.f 0
  have f1 := U1.f 1
  have hsz4 := hb4.size
  have hlt4 := U1.lt
  go_wp2
  have T1 := U1.set (.slice A4 n4 c4) (.bool b4)
  have HSF := ((hs4.setLow (b := w.heap.size + 1) (by omega) 0 (.slice A4 n4 c4)).setLow (b := w.heap.size + 1) (by omega) 1 (.bool b4)).low (l' := w.heap.size) (by omega)
  have HOF := ((hown4.setLow (b := w.heap.size + 1) (by omega) (by omega) 0 (.slice A4 n4 c4)).setLow (b := w.heap.size + 1) (by omega) (by omega) 1 (.bool b4)).lows (base' := w.heap.size) (lo' := w.heap.size) (by omega) (by omega)
  have HBF := (((HB1.trans (hbel3.mono (by omega))).trans (hb4.mono (by omega))).setCell (p := ⟨w.heap.size + 1, 0, none⟩) (by simp) (.slice A4 n4 c4)).setCell (p := ⟨w.heap.size + 1, 1, none⟩) (by simp) (.bool b4)
  generalize (w4.setCell ⟨w.heap.size + 1, 0, none⟩ (.slice A4 n4 c4)).setCell ⟨w.heap.size + 1, 1, none⟩ (.bool b4) = W5 at *
  have hal := bel_alloc (Below.refl W5.heap.size W5) (Obj.cells #[.slice A4 n4 c4, .bool b4] 24)
  have T2 := T1.call hal
  refine bodyPost_ret_by (results_ctt rfl _ _ (w.heap.size + 1) 0 rfl [.slice A4 n4 c4, .bool b4] _ (range2 T2.c0 T2.c1) Try.underlying24 rfl (by kernel_rfl)) rfl ?_
  exact ⟨A4, n4, c4, _, by rw [HRr.out, ← HX2.out, HE.out]; rfl, by rw [HRr.out, ← HX2.out]; exact (HSF.keep fun _ hp => hal.cell hp.2.1).wide fun _ hb => hb.keep hal, by rw [HLl.out, ← HX2.out]; exact HOF.keep hal, HBF.trans (hal.mono HBF.size)⟩
end Go.Proofs.Ytbcahbgdjoahaaa
