/-
  The contracts of the document's without, Settle, and Fail, of layer 9.
-/
import Derived.Test.YtanlpcndbfmkiaaChannelRef4
namespace Go.Proofs.Ytanlpcndbfmkiaa
open Go.RowKit Go.WalkArith

theorem BoxC.keep {w w' : World} {B g : Nat} {t : Chn} {A : Option Addr} {n c : Nat} (h : BoxC w g t A n c) (hb : Below B w w') (hg : g < B) : BoxC w' g t A n c := (hb.block g hg).trans h
theorem BoxH.keep {w w' : World} {B g : Nat} {t : Hld} (h : BoxH w g t) (hb : Below B w w') (hg : g < B) : BoxH w' g t := (hb.block g hg).trans h
theorem BoxH.setOther {w : World} {g b : Nat} {t : Hld} (h : BoxH w g t) (hne : g ≠ b) (i : Nat) (u : Value) : BoxH (w.setCell ⟨b, i, none⟩ u) g t := (Below.heap_setCell _ _ _ _ hne).trans h
theorem filter_takeH {p : Hld → Bool} {l : List Hld} {j : Nat} (hj : j < l.length) : (l.take (j + 1)).filter p = (l.take j).filter p ++ (if p l[j] = true then [l[j]] else []) := by
  rw [List.take_succ_eq_append_getElem hj, List.filter_append]
  congr 1
  by_cases h : p l[j] = true
  · rw [if_pos h]; simp [h]
  · rw [if_neg h]; simp [h]
theorem filter_lenH {p : Hld → Bool} (l : List Hld) (j : Nat) : ((l.take j).filter p).length ≤ l.length := by
  have h1 := List.length_filter_le p (l.take j)
  rw [List.length_take] at h1
  omega
noncomputable def lwC (c : Chn) (id : Int) : Chn := if wtE c id = 0 then ⟨c.Id, c.Local, c.Remote, c.Reserve, c.Most, lessH c.Holds id, c.Open⟩ else zeroCh
theorem find_wt {c : Chn} {id : Int} {x : Hld} {b : Bool} (ok : ChOk c) (h : FindR c.Holds id x b) : (b = true ∧ wtE c id = 0 ∧ wtN c id = x.N) ∨ (b = false ∧ wtE c id = 5 ∧ wtN c id = 0) := by
  rcases h with ⟨h1, h2⟩ | ⟨h1, h2⟩
  · exact .inl ⟨h1, wt_of ok h2⟩
  · exact .inr ⟨h1, wt_none ok h2⟩

set_option maxRecDepth 100000 in
set_option maxHeartbeats 4000000 in
theorem refWithout9_any (s : Array Value) (c : Chn) (id : Int) (w : World) (r : lay_Channel.rep w (· < w.heap.size) c s.toList) :
    Calls Try.prog 88 #[.agg s, .int .u64 id] w fun e w' => ∃ v, e = .returned (.tuple #[v, .int .u64 (wtN c id), .int .i64 (wtE c id)]) ∧ OwnC w' w.heap.size v (lwC c id) ∧ Below w.heap.size w w' := by
  obtain ⟨A, n, k, rfl, hw, hs⟩ := agg_Channel r
  clear r
  have HL := hid hs.len
  have hcap := hs.cap
  unfold maxLen at hcap
  have hb0 : Below w.heap.size w ((w.alloc (Obj.cells #[.int .u64 c.Id, .int .u64 c.Local, .int .u64 c.Remote, .int .u64 c.Reserve, .int .u64 c.Most, .slice A n k, .bool c.Open] 26)).alloc (Obj.cells #[.int .u64 0, .int .u64 0, .int .u64 0, .int .u64 0, .int .u64 0, .slice none 0 0, .bool false] 26)) := bel_alloc (bel_alloc (Below.refl _ _) _) _
  have BC : BoxC ((w.alloc (Obj.cells #[.int .u64 c.Id, .int .u64 c.Local, .int .u64 c.Remote, .int .u64 c.Reserve, .int .u64 c.Most, .slice A n k, .bool c.Open] 26)).alloc (Obj.cells #[.int .u64 0, .int .u64 0, .int .u64 0, .int .u64 0, .int .u64 0, .slice none 0 0, .bool false] 26)) w.heap.size c A n k := heap_alloc2_old _ _ _
  have BR : BoxC ((w.alloc (Obj.cells #[.int .u64 c.Id, .int .u64 c.Local, .int .u64 c.Remote, .int .u64 c.Reserve, .int .u64 c.Most, .slice A n k, .bool c.Open] 26)).alloc (Obj.cells #[.int .u64 0, .int .u64 0, .int .u64 0, .int .u64 0, .int .u64 0, .slice none 0 0, .bool false] 26)) (w.heap.size + 1) zeroCh none 0 0 := alloc2_new _ _ _
  have HZ := hid (show ((w.alloc (Obj.cells #[.int .u64 c.Id, .int .u64 c.Local, .int .u64 c.Remote, .int .u64 c.Reserve, .int .u64 c.Most, .slice A n k, .bool c.Open] 26)).alloc (Obj.cells #[.int .u64 0, .int .u64 0, .int .u64 0, .int .u64 0, .int .u64 0, .slice none 0 0, .bool false] 26)).heap.size = w.heap.size + 2 from by simp)
  have S0 := Sl.call hs hb0
  go_enter Try.func88, Try.ntmps88
  go_upto_region 1 with (fail)
  generalize ((w.alloc (Obj.cells #[.int .u64 c.Id, .int .u64 c.Local, .int .u64 c.Remote, .int .u64 c.Reserve, .int .u64 c.Most, .slice A n k, .bool c.Open] 26)).alloc (Obj.cells #[.int .u64 0, .int .u64 0, .int .u64 0, .int .u64 0, .int .u64 0, .slice none 0 0, .bool false] 26)) = W0 at *
  obtain ⟨p0, p1, p2, p3, p4, p5, p6⟩ := BC.all
  go_wp2_with fail
  refine (refCheck9_any _ c _ (chan_in hw S0 (Below.refl _ _))).mono ?_
  rintro e w1 ⟨rfl, hb1⟩
  have BC1 := BC.call hb1
  have BR1 := BR.call hb1
  have HB := bel_call hb0 hb1
  have HX := hb1
  clear p0 p1 p2 p3 p4 p5 p6 hb1 BC BR
  rcases ch_is (c := c) with ⟨ok, hE⟩ | ⟨ok, hE⟩
  rotate_left
  · rw [hE]
    have HE := hid (show wtN c id = 0 ∧ wtE c id = 1 ∧ lwC c id = zeroCh from by
      have e : wtE c id = 1 := if_neg ok
      exact ⟨if_neg ok, e, if_neg (by rw [e]; decide)⟩)
    clear hE ok
    have B9 := hid (BR1.set zeroCh none 0 0)
    have HB9 := hid (Below.setBox HB (g := w.heap.size + 1) (Nat.le_succ _) zeroCh none 0 0)
    obtain ⟨z0, z1, z2, z3, z4, z5, z6⟩ := BR1.all
    have f0 := BR1.f 0
    have f1 := BR1.f 1
    have f2 := BR1.f 2
    have f3 := BR1.f 3
    have f4 := BR1.f 4
    have f5 := BR1.f 5
    have f6 := BR1.f 6
    go_wp2
    refine bodyPost_ret_by (results_ctt rfl _ _ (w.heap.size + 1) 0 rfl [.int .u64 0, .int .u64 0, .int .u64 0, .int .u64 0, .int .u64 0, .slice none 0 0, .bool false] _ (range7 B9.out) Try.underlying26 rfl (by kernel_rfl)) rfl ?_
    exact ⟨_, by rw [HE.out.1, HE.out.2.1]; rfl, by rw [HE.out.2.2]; exact ⟨_, rfl, OwnL.nil _ _ _ _ _⟩, HB9.out⟩
  rw [hE]
  clear hE
  obtain ⟨p0, p1, p2, p3, p4, p5, p6⟩ := BC1.all
  go_wp2_with fail
  refine (refFind9_any A n k c.Holds id _ (Sl.call S0 HX)).mono ?_
  rintro e w2 ⟨hx, fb, rfl, hfr, hb2⟩
  have hba := bel_alloc (Below.refl w2.heap.size w2) (Obj.cells #[.int .u64 hx.Id, .int .u64 hx.N] 41)
  have BH := BoxH.new w2 hx
  have BC3 := (BC1.call hb2).call hba
  have BR3 := (BR1.call hb2).call hba
  have HB3 := bel_call (bel_call HB hb2) hba
  have HX3 := bel_call (bel_call HX hb2) hba
  have hg2 : w.heap.size + 2 ≤ w2.heap.size := by rw [← HZ.out]; exact (bel_call HX hb2).size
  clear p0 p1 p2 p3 p4 p5 p6 hb2 hba BC1 BR1 HB HX
  go_upto_region 4 with (fail)
  generalize w2.alloc (Obj.cells #[.int .u64 hx.Id, .int .u64 hx.N] 41) = W3 at *
  generalize w2.heap.size = gh at *
  have hl64 : n ≤ 64 := by rw [← HL.out]; exact ok.2.2.1
  rcases find_wt ok hfr with ⟨rfl, q1, q2⟩ | ⟨rfl, q1, q2⟩
  rotate_left
  · have HE := hid (show wtN c id = 0 ∧ wtE c id = 5 ∧ lwC c id = zeroCh from ⟨q2, q1, if_neg (by rw [q1]; decide)⟩)
    clear q1 q2 hfr ok
    have B9 := hid (BR3.set zeroCh none 0 0)
    have HB9 := hid (Below.setBox HB3 (g := w.heap.size + 1) (Nat.le_succ _) zeroCh none 0 0)
    obtain ⟨z0, z1, z2, z3, z4, z5, z6⟩ := BR3.all
    have f0 := BR3.f 0
    have f1 := BR3.f 1
    have f2 := BR3.f 2
    have f3 := BR3.f 3
    have f4 := BR3.f 4
    have f5 := BR3.f 5
    have f6 := BR3.f 6
    go_wp2
    refine bodyPost_ret_by (results_ctt rfl _ _ (w.heap.size + 1) 0 rfl [.int .u64 0, .int .u64 0, .int .u64 0, .int .u64 0, .int .u64 0, .slice none 0 0, .bool false] _ (range7 B9.out) Try.underlying26 rfl (by kernel_rfl)) rfl ?_
    exact ⟨_, by rw [HE.out.1, HE.out.2.1]; rfl, by rw [HE.out.2.2]; exact ⟨_, rfl, OwnL.nil _ _ _ _ _⟩, HB9.out⟩
  have QW := hid (And.intro q1 q2)
  clear q1 q2 hfr ok
  obtain ⟨p0, p1, p2, p3, p4, p5, p6⟩ := BC3.all
  have hba := bel_alloc (Below.refl W3.heap.size W3) (Obj.cells #[.int .u64 c.Id, .int .u64 c.Local, .int .u64 c.Remote, .int .u64 c.Reserve, .int .u64 c.Most, .slice A n k, .bool c.Open] 26)
  have BO4 := BoxC.new W3 c A n k
  have BC4 := BC3.call hba
  have BR4 := BR3.call hba
  have BH4 := BH.call hba
  have hgh := BH.lt
  have HB4 := bel_call HB3 hba
  clear BC3 BR3 BH HB3 hba
  go_upto_region 7 with (fail)
  generalize W3.alloc (Obj.cells #[.int .u64 c.Id, .int .u64 c.Local, .int .u64 c.Remote, .int .u64 c.Reserve, .int .u64 c.Most, .slice A n k, .bool c.Open] 26) = W4 at *
  generalize W3.heap.size = go at *
  have o5 := BO4.all.2.2.2.2.2.1
  have g5 := BO4.f 5
  have BO5 := BO4.setHol none 0 0
  have BC5 := BC4.setOther (b := go) (by omega) 5 (.slice none 0 0)
  have BR5 := BR4.setOther (b := go) (by omega) 5 (.slice none 0 0)
  have BH5 := BH4.setOther (b := go) (by omega) 5 (.slice none 0 0)
  have HB5 := HB4.setCell (p := ⟨go, 5, none⟩) (by show w.heap.size ≤ go; omega) (.slice none 0 0)
  clear p0 p1 p2 p3 p4 p5 p6 BO4 BC4 BR4 BH4 HB4 HX3
  go_upto_region 8 with (fail)
  generalize W4.setCell ⟨go, 5, none⟩ (.slice none 0 0) = W5 at *
  clear o5 g5
  obtain ⟨BS, hBS⟩ : ∃ z, W5.heap.size = z := ⟨_, rfl⟩
  have hgo : go < BS := by rw [← hBS]; exact BO5.lt
  obtain ⟨F, hF⟩ : ∃ f : Hld → Bool, f = fun x => x.Id != id := ⟨_, rfl⟩
  have GF := hid (fun x => congrFun hF x)
  clear hF
  obtain ⟨-, -, -, -, -, p5, -⟩ := BC5.all
  go_wp2
  clear p5
  go_loopw [31] (fun i wr => ∃ (j : Nat) (A' : Option Addr) (n' c' : Nat), j ≤ n ∧ i = .int .i64 j ∧ BoxC wr go c A' n' c' ∧ OwnL lay_Hold wr BS (some BS) 41 (.slice A' n' c') (([] : List Hld) ++ (c.Holds.take j).filter F) ∧ BoxC wr w.heap.size c A n k ∧ BoxC wr (w.heap.size + 1) zeroCh none 0 0 ∧ BoxH wr gh hx ∧ BS ≤ wr.heap.size ∧ Below w.heap.size w wr) (fun i _ => n - (intOf i).toNat)
  case atStart => exact ⟨0, none, 0, 0, Nat.zero_le _, rfl, BO5, OwnL.nil _ _ _ _ _, BC5, BR5, BH5, Nat.le_of_eq hBS.symm, HB5⟩
  case round =>
  obtain ⟨j, Ax, nx, cx, hj, rfl, BO, hown, BCr, BRr, BHr, hzB, hbel⟩ := hrel
  by_cases hlt : j < n
  · obtain ⟨b1, o1, hx1, hA1, hb1, t1, t2, hwh⟩ := hld_at hs hlt
    have q1 := (hbel.cell (p := ⟨b1, o1 + j * 2, none⟩) hb1).trans t1
    have q2 := (hbel.cell (p := ⟨b1, o1 + j * 2 + 1, none⟩) hb1).trans t2
    subst hA1
    have hba := bel_alloc (Below.refl wr.heap.size wr) (Obj.cells #[.int .u64 c.Holds[j].Id, .int .u64 c.Holds[j].N] 41)
    have BO2 := BO.call hba
    have BC2 := BCr.call hba
    have BR2 := BRr.call hba
    have BH2 := BHr.call hba
    have BN := BoxH.new wr c.Holds[j]
    have ho2 := hown.keep hba
    have HB2 := bel_call hbel hba
    have HFT := hid (filter_takeH (p := F) hx1)
    have hfl := filter_lenH (p := F) c.Holds j
    rw [HL.out] at hfl
    have HSZ := hid (show wr.heap.size + 1 = (wr.alloc (Obj.cells #[.int .u64 c.Holds[j].Id, .int .u64 c.Holds[j].N] 41)).heap.size from by simp)
    have hz2 : BS ≤ (wr.alloc (Obj.cells #[.int .u64 c.Holds[j].Id, .int .u64 c.Holds[j].N] 41)).heap.size := by rw [← HSZ.out]; omega
    clear t1 t2 hown BO BCr BRr BHr
    by_cases he : c.Holds[j].Id ≠ id
    · have d1 : (c.Holds[j].Id != id) = true := by simpa using he
      rw [if_pos (by rw [GF.out]; exact d1)] at HFT
      have hlen1 : ((([] : List Hld) ++ (c.Holds.take j).filter F).length + 1) * 16 ≤ 140737488355328 := by rw [List.length_append]; rw [List.length_nil]; omega
      have hlen2 : (([] : List Hld) ++ (c.Holds.take j).filter F).length + 1 ≤ maxLen := by rw [List.length_append]; unfold maxLen; rw [List.length_nil]; omega
      have y0 := BN.c0
      have y1 := BN.c1
      have o5 := BO2.all.2.2.2.2.2.1
      clear he
      go_wp2_with (at_builtin; go_must (refine wpList_pushL (w := wr.alloc (Obj.cells #[.int .u64 c.Holds[j].Id, .int .u64 c.Holds[j].N] 41)) rfl (.tmp 40) (.tmp 42) 24 rfl BS (some BS) 41 _ 16 Try.underlying24 Try.infoHld rfl (by decide) (.slice Ax nx cx) (([] : List Hld) ++ (c.Holds.take j).filter F) c.Holds[j] #[.int .u64 c.Holds[j].Id, .int .u64 c.Holds[j].N] (fun _ => False) rfl (congrArg (fun z => Value.slice (some ⟨z, 0, none⟩) 1 1) HSZ.out) ho2 (rep_Hold.2 ⟨rfl, hwh⟩) (fun b hb => hb.elim) hz2 hlen1 hlen2 ?_; intro v7 w7 ho7 hx7; have hb7 : Below BS (wr.alloc (Obj.cells #[.int .u64 c.Holds[j].Id, .int .u64 c.Holds[j].N] 41)) w7 := ho2.below hx7 hz2; have BO7 := BO2.keep hb7 hgo; have o7 := BO7.all.2.2.2.2.2.1; have f7 := BO7.f 5; obtain ⟨A7, n7, c7, rfl, hs7⟩ := ho7.read; clear hs7))
      go_roundw
      case rel => exact ⟨j + 1, A7, n7, c7, by omega, by go_num, BO7.setHol A7 n7 c7, by rw [HFT.out, ← List.append_assoc]; exact ho7.setLow (b := go) hgo hgo 5 _, (BC2.keep hb7 (by omega)).setOther (by omega) 5 _, (BR2.keep hb7 (by omega)).setOther (by omega) 5 _, (BH2.keep hb7 (by omega)).setOther (by omega) 5 _, by simpa using Nat.le_trans hz2 hb7.size, ((HB2.trans (hb7.mono (by omega))).setCell (p := ⟨go, 5, none⟩) (by show w.heap.size ≤ go; omega) _)⟩
      case measure => simp [intOf]; omega
    · have d1 : (c.Holds[j].Id != id) = false := by simpa using he
      rw [if_neg (by rw [GF.out, d1]; decide), List.append_nil] at HFT
      have y0 := BN.c0
      clear he
      go_wp2
      go_roundw
      case rel => exact ⟨j + 1, Ax, nx, cx, by omega, by go_num, BO2, by rw [HFT.out]; exact ho2, BC2, BR2, BH2, hz2, HB2⟩
      case measure => simp [intOf]; omega
  rw [List.take_of_length_le (show c.Holds.length ≤ j by rw [HL.out]; omega)] at hown
  have HLS := hid (show c.Holds.filter F = lessH c.Holds id from by unfold lessH; congr 1; funext z; rw [GF.out])
  rw [List.nil_append, HLS.out] at hown
  obtain ⟨d, hd⟩ : ∃ z : Chn, z = ⟨c.Id, c.Local, c.Remote, c.Reserve, c.Most, lessH c.Holds id, c.Open⟩ := ⟨_, rfl⟩
  have HDT := hid (show lwC c id = d from by rw [hd]; exact if_pos QW.out.1)
  have hown' : OwnL lay_Hold wr BS (some BS) 41 (.slice Ax nx cx) d.Holds := by rw [hd]; exact hown
  have BO' : BoxC wr go d Ax nx cx := by rw [hd]; exact BO
  clear hd hown BO
  have z0 := (hown'.setBox (g := w.heap.size + 1) (by omega) d Ax nx cx).lows (base' := w.heap.size) (lo' := w.heap.size) (by omega) (by omega)
  have HO9 := hid z0
  have B9 := hid (BRr.set d Ax nx cx)
  have HB9 := hid (Below.setBox hbel (g := w.heap.size + 1) (Nat.le_succ _) d Ax nx cx)
  obtain ⟨p0, p1, p2, p3, p4, p5, p6⟩ := BO'.all
  obtain ⟨k0, k1, k2, k3, k4, k5, k6⟩ := BRr.all
  have f0 := BRr.f 0
  have f1 := BRr.f 1
  have f2 := BRr.f 2
  have f3 := BRr.f 3
  have f4 := BRr.f 4
  have f5 := BRr.f 5
  have f6 := BRr.f 6
  have h1 := BHr.c1
  clear z0 BO' hown' BRr BCr BHr
  go_wp2
  go_region
  all_goals
    go_wp2
    have D9 := B9.out.call (Below.refl _ _).drew
    refine bodyPost_ret_by (results_ctt rfl _ _ (w.heap.size + 1) 0 rfl [.int .u64 d.Id, .int .u64 d.Local, .int .u64 d.Remote, .int .u64 d.Reserve, .int .u64 d.Most, .slice Ax nx cx, .bool d.Open] _ (range7 D9) Try.underlying26 rfl (by kernel_rfl)) rfl ?_
    exact ⟨_, by rw [QW.out.1, QW.out.2]; rfl, by rw [HDT.out]; exact ⟨_, rfl, HO9.out.keep (Below.refl _ _).drew⟩, HB9.out.drew⟩


set_option maxRecDepth 100000 in
set_option maxHeartbeats 4000000 in
theorem refSettle9_any (s : Array Value) (c : Chn) (id : Int) (w : World) (r : lay_Channel.rep w (· < w.heap.size) c s.toList) :
    Calls Try.prog 61 #[.agg s, .int .u64 id] w fun e w' => ∃ v, e = .returned (.tuple #[v, .int .u64 (wtN c id), .int .i64 (wtE c id)]) ∧ OwnC w' w.heap.size v (seC c id) ∧ Below w.heap.size w w' := by
  obtain ⟨A, n, k, rfl, hw, hs⟩ := agg_Channel r
  clear r
  have HL := hid hs.len
  have hcap := hs.cap
  unfold maxLen at hcap
  have hb0 : Below w.heap.size w ((w.alloc (Obj.cells #[.int .u64 c.Id, .int .u64 c.Local, .int .u64 c.Remote, .int .u64 c.Reserve, .int .u64 c.Most, .slice A n k, .bool c.Open] 26)).alloc (Obj.cells #[.int .u64 0, .int .u64 0, .int .u64 0, .int .u64 0, .int .u64 0, .slice none 0 0, .bool false] 26)) := bel_alloc (bel_alloc (Below.refl _ _) _) _
  have BC : BoxC ((w.alloc (Obj.cells #[.int .u64 c.Id, .int .u64 c.Local, .int .u64 c.Remote, .int .u64 c.Reserve, .int .u64 c.Most, .slice A n k, .bool c.Open] 26)).alloc (Obj.cells #[.int .u64 0, .int .u64 0, .int .u64 0, .int .u64 0, .int .u64 0, .slice none 0 0, .bool false] 26)) w.heap.size c A n k := heap_alloc2_old _ _ _
  have BR : BoxC ((w.alloc (Obj.cells #[.int .u64 c.Id, .int .u64 c.Local, .int .u64 c.Remote, .int .u64 c.Reserve, .int .u64 c.Most, .slice A n k, .bool c.Open] 26)).alloc (Obj.cells #[.int .u64 0, .int .u64 0, .int .u64 0, .int .u64 0, .int .u64 0, .slice none 0 0, .bool false] 26)) (w.heap.size + 1) zeroCh none 0 0 := alloc2_new _ _ _
  have HZ := hid (show ((w.alloc (Obj.cells #[.int .u64 c.Id, .int .u64 c.Local, .int .u64 c.Remote, .int .u64 c.Reserve, .int .u64 c.Most, .slice A n k, .bool c.Open] 26)).alloc (Obj.cells #[.int .u64 0, .int .u64 0, .int .u64 0, .int .u64 0, .int .u64 0, .slice none 0 0, .bool false] 26)).heap.size = w.heap.size + 2 from by simp)
  have S0 := Sl.call hs hb0
  go_enter Try.func61, Try.ntmps61
  go_upto_region 1 with (fail)
  generalize ((w.alloc (Obj.cells #[.int .u64 c.Id, .int .u64 c.Local, .int .u64 c.Remote, .int .u64 c.Reserve, .int .u64 c.Most, .slice A n k, .bool c.Open] 26)).alloc (Obj.cells #[.int .u64 0, .int .u64 0, .int .u64 0, .int .u64 0, .int .u64 0, .slice none 0 0, .bool false] 26)) = W0 at *
  obtain ⟨a, ha⟩ : ∃ z, wtN c id = z := ⟨_, rfl⟩
  obtain ⟨er, her⟩ : ∃ z, wtE c id = z := ⟨_, rfl⟩
  obtain ⟨x, hx⟩ : ∃ z, lwC c id = z := ⟨_, rfl⟩
  obtain ⟨d, hd⟩ : ∃ z, seC c id = z := ⟨_, rfl⟩
  have HXD := hid (show d = ⟨x.Id, x.Local, x.Remote + a, x.Reserve, x.Most, x.Holds, x.Open⟩ from by
    rw [← hd, ← hx, ← ha]
    by_cases q : wtE c id = 0
    · unfold seC lwC; rw [if_pos q, if_pos q]
    · rw [(wt_no q).1]; unfold seC lwC; rw [if_neg q, if_neg q]; rfl)
  have hwd : ChnWf d := by rw [← hd]; exact se_wf hw (sl_hlds hs)
  have QA := hid ha
  have QE := hid her
  have QX := hid hx
  have QD := hid hd
  clear ha her hx hd
  obtain ⟨p0, p1, p2, p3, p4, p5, p6⟩ := BC.all
  go_wp2_with fail
  refine (refWithout9_any _ c id _ (chan_in hw S0 (Below.refl _ _))).mono ?_
  rw [QA.out, QE.out, QX.out]
  rintro e w1 ⟨v, rfl, ⟨u, rfl, ho1⟩, hb1⟩
  obtain ⟨A7, n7, c7, rfl, hs7⟩ := ho1.read
  have hba := bel_alloc (Below.refl w1.heap.size w1) (Obj.cells #[.int .u64 x.Id, .int .u64 x.Local, .int .u64 x.Remote, .int .u64 x.Reserve, .int .u64 x.Most, .slice A7 n7 c7, .bool x.Open] 26)
  have BO := BoxC.new w1 x A7 n7 c7
  have BR1 := (BR.call hb1).call hba
  have HB1 := bel_call (bel_call hb0 hb1) hba
  have hg1 := hb1.size
  clear p0 p1 p2 p3 p4 p5 p6 hs7 hb1 BC BR hb0
  go_upto_region 2 with (fail)
  generalize w1.alloc (Obj.cells #[.int .u64 x.Id, .int .u64 x.Local, .int .u64 x.Remote, .int .u64 x.Reserve, .int .u64 x.Most, .slice A7 n7 c7, .bool x.Open] 26) = W2 at *
  have hzw := HZ.out
  have wd := hwd.rem
  rw [HXD.out] at wd
  have we : IntKind.u64.wrap (x.Remote + a) = x.Remote + a := IntWalk.u64_in _ (bounds_u64 wd)
  obtain ⟨p0, p1, p2, p3, p4, p5, p6⟩ := BO.all
  have g2 := BO.f 2
  have BC8' := BO.setRem (x.Remote + a)
  have BR8 := BR1.setOther (b := w1.heap.size) (by omega) 2 (.int .u64 (x.Remote + a))
  have HB8 := HB1.setCell (p := ⟨w1.heap.size, 2, none⟩) (by show w.heap.size ≤ w1.heap.size; omega) (.int .u64 (x.Remote + a))
  have HO8' := ho1.keep (hba.setCell (p := ⟨w1.heap.size, 2, none⟩) (Nat.le_refl _) (.int .u64 (x.Remote + a)))
  clear BO BR1 HB1 ho1 wd hba
  go_upto_region 3 with (fail)
  clear p0 p1 p2 p3 p4 p5 p6 g2
  generalize W2.setCell ⟨w1.heap.size, 2, none⟩ (.int .u64 (x.Remote + a)) = W8 at *
  have BC8 : BoxC W8 w1.heap.size d A7 n7 c7 := by rw [HXD.out]; exact BC8'
  have HO8 : OwnL lay_Hold W8 W0.heap.size (some W0.heap.size) 41 (.slice A7 n7 c7) d.Holds := by rw [HXD.out]; exact HO8'
  clear BC8' HO8'
  have B9 := hid (BR8.set d A7 n7 c7)
  have HB9 := hid (Below.setBox HB8 (g := w.heap.size + 1) (Nat.le_succ _) d A7 n7 c7)
  have HO9 := hid ((OwnL.setBox HO8 (g := w.heap.size + 1) (by rw [HZ.out]; omega) d A7 n7 c7).lows (base' := w.heap.size) (lo' := w.heap.size) (by rw [HZ.out]; omega) (by rw [HZ.out]; omega))
  obtain ⟨p0, p1, p2, p3, p4, p5, p6⟩ := BC8.all
  obtain ⟨z0, z1, z2, z3, z4, z5, z6⟩ := BR8.all
  have f0 := BR8.f 0
  have f1 := BR8.f 1
  have f2 := BR8.f 2
  have f3 := BR8.f 3
  have f4 := BR8.f 4
  have f5 := BR8.f 5
  have f6 := BR8.f 6
  clear BC8 BR8 HB8 HO8
  go_wp2
  refine bodyPost_ret_by (results_ctt rfl _ _ (w.heap.size + 1) 0 rfl [.int .u64 d.Id, .int .u64 d.Local, .int .u64 d.Remote, .int .u64 d.Reserve, .int .u64 d.Most, .slice A7 n7 c7, .bool d.Open] _ (range7 B9.out) Try.underlying26 rfl (by kernel_rfl)) rfl ?_
  exact ⟨_, by rw [QA.out, QE.out]; rfl, by rw [QD.out]; exact ⟨_, rfl, HO9.out⟩, HB9.out⟩


set_option maxRecDepth 100000 in
set_option maxHeartbeats 4000000 in
theorem refFail9_any (s : Array Value) (c : Chn) (id : Int) (w : World) (r : lay_Channel.rep w (· < w.heap.size) c s.toList) :
    Calls Try.prog 60 #[.agg s, .int .u64 id] w fun e w' => ∃ v, e = .returned (.tuple #[v, .int .u64 (wtN c id), .int .i64 (wtE c id)]) ∧ OwnC w' w.heap.size v (faC c id) ∧ Below w.heap.size w w' := by
  obtain ⟨A, n, k, rfl, hw, hs⟩ := agg_Channel r
  clear r
  have HL := hid hs.len
  have hcap := hs.cap
  unfold maxLen at hcap
  have hb0 : Below w.heap.size w ((w.alloc (Obj.cells #[.int .u64 c.Id, .int .u64 c.Local, .int .u64 c.Remote, .int .u64 c.Reserve, .int .u64 c.Most, .slice A n k, .bool c.Open] 26)).alloc (Obj.cells #[.int .u64 0, .int .u64 0, .int .u64 0, .int .u64 0, .int .u64 0, .slice none 0 0, .bool false] 26)) := bel_alloc (bel_alloc (Below.refl _ _) _) _
  have BC : BoxC ((w.alloc (Obj.cells #[.int .u64 c.Id, .int .u64 c.Local, .int .u64 c.Remote, .int .u64 c.Reserve, .int .u64 c.Most, .slice A n k, .bool c.Open] 26)).alloc (Obj.cells #[.int .u64 0, .int .u64 0, .int .u64 0, .int .u64 0, .int .u64 0, .slice none 0 0, .bool false] 26)) w.heap.size c A n k := heap_alloc2_old _ _ _
  have BR : BoxC ((w.alloc (Obj.cells #[.int .u64 c.Id, .int .u64 c.Local, .int .u64 c.Remote, .int .u64 c.Reserve, .int .u64 c.Most, .slice A n k, .bool c.Open] 26)).alloc (Obj.cells #[.int .u64 0, .int .u64 0, .int .u64 0, .int .u64 0, .int .u64 0, .slice none 0 0, .bool false] 26)) (w.heap.size + 1) zeroCh none 0 0 := alloc2_new _ _ _
  have HZ := hid (show ((w.alloc (Obj.cells #[.int .u64 c.Id, .int .u64 c.Local, .int .u64 c.Remote, .int .u64 c.Reserve, .int .u64 c.Most, .slice A n k, .bool c.Open] 26)).alloc (Obj.cells #[.int .u64 0, .int .u64 0, .int .u64 0, .int .u64 0, .int .u64 0, .slice none 0 0, .bool false] 26)).heap.size = w.heap.size + 2 from by simp)
  have S0 := Sl.call hs hb0
  go_enter Try.func60, Try.ntmps60
  go_upto_region 1 with (fail)
  generalize ((w.alloc (Obj.cells #[.int .u64 c.Id, .int .u64 c.Local, .int .u64 c.Remote, .int .u64 c.Reserve, .int .u64 c.Most, .slice A n k, .bool c.Open] 26)).alloc (Obj.cells #[.int .u64 0, .int .u64 0, .int .u64 0, .int .u64 0, .int .u64 0, .slice none 0 0, .bool false] 26)) = W0 at *
  obtain ⟨a, ha⟩ : ∃ z, wtN c id = z := ⟨_, rfl⟩
  obtain ⟨er, her⟩ : ∃ z, wtE c id = z := ⟨_, rfl⟩
  obtain ⟨x, hx⟩ : ∃ z, lwC c id = z := ⟨_, rfl⟩
  obtain ⟨d, hd⟩ : ∃ z, faC c id = z := ⟨_, rfl⟩
  have HXD := hid (show d = ⟨x.Id, x.Local + a, x.Remote, x.Reserve, x.Most, x.Holds, x.Open⟩ from by
    rw [← hd, ← hx, ← ha]
    by_cases q : wtE c id = 0
    · unfold faC lwC; rw [if_pos q, if_pos q]
    · rw [(wt_no q).1]; unfold faC lwC; rw [if_neg q, if_neg q]; rfl)
  have hwd : ChnWf d := by rw [← hd]; exact fa_wf hw (sl_hlds hs)
  have QA := hid ha
  have QE := hid her
  have QX := hid hx
  have QD := hid hd
  clear ha her hx hd
  obtain ⟨p0, p1, p2, p3, p4, p5, p6⟩ := BC.all
  go_wp2_with fail
  refine (refWithout9_any _ c id _ (chan_in hw S0 (Below.refl _ _))).mono ?_
  rw [QA.out, QE.out, QX.out]
  rintro e w1 ⟨v, rfl, ⟨u, rfl, ho1⟩, hb1⟩
  obtain ⟨A7, n7, c7, rfl, hs7⟩ := ho1.read
  have hba := bel_alloc (Below.refl w1.heap.size w1) (Obj.cells #[.int .u64 x.Id, .int .u64 x.Local, .int .u64 x.Remote, .int .u64 x.Reserve, .int .u64 x.Most, .slice A7 n7 c7, .bool x.Open] 26)
  have BO := BoxC.new w1 x A7 n7 c7
  have BR1 := (BR.call hb1).call hba
  have HB1 := bel_call (bel_call hb0 hb1) hba
  have hg1 := hb1.size
  clear p0 p1 p2 p3 p4 p5 p6 hs7 hb1 BC BR hb0
  go_upto_region 2 with (fail)
  generalize w1.alloc (Obj.cells #[.int .u64 x.Id, .int .u64 x.Local, .int .u64 x.Remote, .int .u64 x.Reserve, .int .u64 x.Most, .slice A7 n7 c7, .bool x.Open] 26) = W2 at *
  have hzw := HZ.out
  have wd := hwd.loc
  rw [HXD.out] at wd
  have we : IntKind.u64.wrap (x.Local + a) = x.Local + a := IntWalk.u64_in _ (bounds_u64 wd)
  obtain ⟨p0, p1, p2, p3, p4, p5, p6⟩ := BO.all
  have g2 := BO.f 1
  have BC8' := BO.setLoc (x.Local + a)
  have BR8 := BR1.setOther (b := w1.heap.size) (by omega) 1 (.int .u64 (x.Local + a))
  have HB8 := HB1.setCell (p := ⟨w1.heap.size, 1, none⟩) (by show w.heap.size ≤ w1.heap.size; omega) (.int .u64 (x.Local + a))
  have HO8' := ho1.keep (hba.setCell (p := ⟨w1.heap.size, 1, none⟩) (Nat.le_refl _) (.int .u64 (x.Local + a)))
  clear BO BR1 HB1 ho1 wd hba
  go_upto_region 3 with (fail)
  clear p0 p1 p2 p3 p4 p5 p6 g2
  generalize W2.setCell ⟨w1.heap.size, 1, none⟩ (.int .u64 (x.Local + a)) = W8 at *
  have BC8 : BoxC W8 w1.heap.size d A7 n7 c7 := by rw [HXD.out]; exact BC8'
  have HO8 : OwnL lay_Hold W8 W0.heap.size (some W0.heap.size) 41 (.slice A7 n7 c7) d.Holds := by rw [HXD.out]; exact HO8'
  clear BC8' HO8'
  have B9 := hid (BR8.set d A7 n7 c7)
  have HB9 := hid (Below.setBox HB8 (g := w.heap.size + 1) (Nat.le_succ _) d A7 n7 c7)
  have HO9 := hid ((OwnL.setBox HO8 (g := w.heap.size + 1) (by rw [HZ.out]; omega) d A7 n7 c7).lows (base' := w.heap.size) (lo' := w.heap.size) (by rw [HZ.out]; omega) (by rw [HZ.out]; omega))
  obtain ⟨p0, p1, p2, p3, p4, p5, p6⟩ := BC8.all
  obtain ⟨z0, z1, z2, z3, z4, z5, z6⟩ := BR8.all
  have f0 := BR8.f 0
  have f1 := BR8.f 1
  have f2 := BR8.f 2
  have f3 := BR8.f 3
  have f4 := BR8.f 4
  have f5 := BR8.f 5
  have f6 := BR8.f 6
  clear BC8 BR8 HB8 HO8
  go_wp2
  refine bodyPost_ret_by (results_ctt rfl _ _ (w.heap.size + 1) 0 rfl [.int .u64 d.Id, .int .u64 d.Local, .int .u64 d.Remote, .int .u64 d.Reserve, .int .u64 d.Most, .slice A7 n7 c7, .bool d.Open] _ (range7 B9.out) Try.underlying26 rfl (by kernel_rfl)) rfl ?_
  exact ⟨_, by rw [QA.out, QE.out]; rfl, by rw [QD.out]; exact ⟨_, rfl, HO9.out⟩, HB9.out⟩


end Go.Proofs.Ytanlpcndbfmkiaa
