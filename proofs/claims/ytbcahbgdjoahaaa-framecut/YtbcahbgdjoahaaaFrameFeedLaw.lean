/-
  The contract of 'feed' of layer 3's statements: a reader that reads piece by piece.
-/
import Derived.Test.YtbcahbgdjoahaaaFrameBadWalk
import Derived.Deep.Cut
namespace Go.Proofs.Ytbcahbgdjoahaaa
open Go.RowKit Go.WalkArith

/-- A block that is none of the two variables'. -/
def Off (g : Nat) (w : World) (b : Nat) : Prop := b < w.heap.size ∧ b ≠ g ∧ b ≠ g + 1
theorem Sl.setOff {α : Type} {L : Lay α} {w : World} {g b : Nat} {A : Option Addr} {n c : Nat} {xs : List α} (h : Sl L w (Off g w) A n c xs) (hb : b = g ∨ b = g + 1) (i : Nat) (u : Value) : Sl L (w.setCell ⟨b, i, none⟩ u) (Off g (w.setCell ⟨b, i, none⟩ u)) A n c xs := by
  have hne : ∀ k, Off g w k → k ≠ b := fun k hk e => by have h1 := hk.2.1; have h2 := hk.2.2; omega
  exact (h.keep fun p hp => World.cell?_of_block (Below.heap_setCell _ _ _ _ (hne _ hp))).wide fun k hk => ⟨by simpa using hk.1, hk.2⟩
theorem Sl.callOff {α : Type} {L : Lay α} {w w' : World} {g : Nat} {A : Option Addr} {n c : Nat} {xs : List α} (h : Sl L w (Off g w) A n c xs) (hb : Below w.heap.size w w') : Sl L w' (Off g w') A n c xs :=
  (h.keep fun _ hp => hb.cell hp.1).wide fun _ hk => ⟨Nat.lt_of_lt_of_le hk.1 hb.size, hk.2⟩
def FLInv (w : World) (r : Rdr) (xs : List Int) (nc : Nat) (s u i : Value) (wr : World) : Prop :=
  ∃ (A' : Option Addr) (n' c' j : Nat) (ys : List Int) (rj : Rdr) (lj : List (List Int)) (Ar : Option Addr) (nr cr : Nat), s = .slice A' n' c' ∧ i = .int .i64 j ∧ Rd wr w.heap.size .u8 A' n' c' ys ∧ n' ≤ 2000 ∧ j ≤ nc + 1 ∧ (j = nc + 1 → n' = 0) ∧
    feedS r xs = ((feedS rj ys).1, lj ++ (feedS rj ys).2) ∧ RdrOk rj ∧ Oct rj.B ∧ Oct ys ∧ lj.length + n' ≤ 2000 ∧
    Var2 wr w.heap.size 24 (.slice Ar nr cr) (.bool rj.Bad) ∧ Var2 wr (w.heap.size + 1) 24 (.slice none 0 0) (.bool false) ∧ Sl (Lay.int .u8) wr (Off w.heap.size wr) Ar nr cr rj.B ∧
    OwnL lay_Txt wr (w.heap.size + 2) (some (w.heap.size + 2)) 22 u lj ∧ Below w.heap.size w wr

set_option maxRecDepth 100000 in
set_option maxHeartbeats 2000000 in
theorem feedLaw_any (s : Array Value) (r : Rdr) (A : Option Addr) (n c : Nat) (xs : List Int) (A2 : Option Addr) (n2 c2 : Nat) (cs : List Int) (w : World) (h : lay_Reader.rep w (· < w.heap.size) r s.toList) (hr : Rd w w.heap.size .u8 A n c xs) (hr2 : Rd w w.heap.size .u8 A2 n2 c2 cs) (hk : RdrOk r) (hn : n ≤ 2000) (hn2 : n2 ≤ 300) :
    Calls Try.prog 20 #[.agg s, .slice A n c, .slice A2 n2 c2] w fun e w' => ∃ A1 n1 c1 v, e = .returned (.tuple #[.agg #[.slice A1 n1 c1, .bool (feedS r xs).1.Bad], v, .bool true]) ∧ Sl (Lay.int .u8) w' (· < w'.heap.size) A1 n1 c1 (feedS r xs).1.B ∧
      OwnL lay_Txt w' w.heap.size none 22 v (feedS r xs).2 ∧ Below w.heap.size w w' := by
  obtain ⟨A0, n0, c0, hc, hV⟩ := rep_Reader.1 h
  obtain rfl : s = #[.slice A0 n0 c0, .bool r.Bad] := Array.ext' hc
  have hb0 : Below w.heap.size w ((w.alloc (Obj.cells #[.slice A0 n0 c0, .bool r.Bad] 24)).alloc (Obj.cells #[.slice none 0 0, .bool false] 24)) := bel_alloc (bel_alloc (Below.refl _ _) _) _
  have hz : ((w.alloc (Obj.cells #[.slice A0 n0 c0, .bool r.Bad] 24)).alloc (Obj.cells #[.slice none 0 0, .bool false] 24)).heap.size = w.heap.size + 2 := by simp
  have v0 : Var2 ((w.alloc (Obj.cells #[.slice A0 n0 c0, .bool r.Bad] 24)).alloc (Obj.cells #[.slice none 0 0, .bool false] 24)) w.heap.size 24 (.slice A0 n0 c0) (.bool r.Bad) := (Below.heap_alloc _ _ _ (by simp)).trans (heap_alloc_new _ _)
  have v1 : Var2 ((w.alloc (Obj.cells #[.slice A0 n0 c0, .bool r.Bad] 24)).alloc (Obj.cells #[.slice none 0 0, .bool false] 24)) (w.heap.size + 1) 24 (.slice none 0 0) (.bool false) := alloc2_new _ _ _
  have HS0 := hid ((hV.keep fun _ hp => hb0.cell hp).wide (S' := Off w.heap.size ((w.alloc (Obj.cells #[.slice A0 n0 c0, .bool r.Bad] 24)).alloc (Obj.cells #[.slice none 0 0, .bool false] 24))) fun b hb => ⟨Nat.lt_of_lt_of_le hb hb0.size, by omega, by omega⟩)
  have HR0 := hid (hr.below hb0)
  have HOx := hid (oct_of hr)
  have HOr := hid (oct_of (hV.rd (B := w.heap.size) fun _ h => h))
  have HCS := hid hr2
  have HLX := hid hr.len
  have HK := hid hk
  have hcap2 := hr2.cap
  unfold maxLen at hcap2
  clear h hc hV hr hr2 hk
  go_enter Try.func20, Try.ntmps20
  go_wp2
  generalize (w.alloc (Obj.cells #[.slice A0 n0 c0, .bool r.Bad] 24)).alloc (Obj.cells #[.slice none 0 0, .bool false] 24) = W0 at *
  go_loopw [1, 9, 10] (fun s u i wr => FLInv w r xs n2 s u i wr) (fun s _ i _ => slen s + (n2 + 1 - (intOf i).toNat))
  case atStart => exact ⟨A, n, c, 0, xs, r, [], A0, n0, c0, rfl, rfl, HR0.out, hn, by omega, fun h => by omega, by simp, HK.out, HOr.out, HOx.out, by simpa using hn, v0, v1, HS0.out, OwnL.nil _ _ _ _ _, hb0⟩
  case round =>
    obtain ⟨A', n', c', j, ys, rj, lj, Ar, nr, cr, rfl, rfl, hR, hn', hj, hjl, hF, hok, hoB, hoY, hll, X0, X1, hS, hown, hbel⟩ := hrel
    have HF := hid hF
    have HOK := hid hok
    have HOB := hid hoB
    have HOY := hid hoY
    have hcap' := hR.cap
    unfold maxLen at hcap'
    have HLY := hid hR.len
    have y0 := X0.c0
    have y1 := X0.c1
    have hg1 := X1.lt
    clear hF hok hoB hoY
    by_cases hz0 : n' = 0
    · subst hz0
      have hy : ys = [] := List.eq_nil_of_length_eq_zero HLY.out
      have HF' := hid (show feedS r xs = (rj, lj) from by rw [HF.out, hy, feedS_nil]; simp)
      have z0 := X1.c0
      have z1 := X1.c1
      have f0 := X1.f 0
      have f1 := X1.f 1
      have HSF := hid ((hS.setOff (b := w.heap.size + 1) (.inr rfl) 0 (.slice Ar nr cr)).setOff (b := w.heap.size + 1) (.inr rfl) 1 (.bool rj.Bad))
      have HOF := hid (((hown.setLow (b := w.heap.size + 1) (by omega) (by omega) 0 (.slice Ar nr cr)).setLow (b := w.heap.size + 1) (by omega) (by omega) 1 (.bool rj.Bad)).lows (base' := w.heap.size) (lo' := w.heap.size) (by omega) (by omega)).loose
      have HBF := hid ((hbel.setCell (p := ⟨w.heap.size + 1, 0, none⟩) (by simp) (.slice Ar nr cr)).setCell (p := ⟨w.heap.size + 1, 1, none⟩) (by simp) (.bool rj.Bad))
      clear hy
      go_wp2
      refine bodyPost_ret_by (results_ctt rfl _ _ (w.heap.size + 1) 0 rfl [.slice Ar nr cr, .bool rj.Bad] _ (range2 (set2' z0 z1).1 (set2' z0 z1).2) Try.underlying24 rfl (by kernel_rfl)) rfl ?_
      exact ⟨Ar, nr, cr, _, by rw [HF'.out]; rfl, by rw [HF'.out]; exact HSF.out.wide fun _ hb => hb.1, by rw [HF'.out]; exact HOF.out, HBF.out⟩
    have hp : (0 : Int) < (n' : Int) := by omega
    have hjn : j ≤ n2 := by
      rcases Nat.lt_or_ge n2 j with h | h
      · exact absurd (hjl (by omega)) hz0
      · exact h
    clear hjl
    rcases Nat.lt_or_ge j n2 with hlt | hge
    · obtain ⟨bc, oc, rfl, hbc, hcc⟩ := HCS.out.at_ (by omega)
      have qc := (hbel.cell (p := ⟨bc, oc + j, none⟩) hbc).trans (hcc j hlt)
      have hcx := nth_bd (oct_of HCS.out) j
      clear hcc
      generalize nth cs j = cj at *
      rcases (show cj < (n' : Int) ∨ (n' : Int) ≤ cj by omega) with hm | hm
      · obtain ⟨kk, rfl⟩ := Int.eq_ofNat_of_zero_le hcx.1
        go_wp2_with fail
        have hkn : kk ≤ n' := by omega
        have hup := run_uptoL (P := Try.prog) 22 5 .i64 Try.underlying22 Try.elemU8 Try.infoU8 A' n' c' kk (by omega)
        have hfr := run_fromK (P := Try.prog) 22 5 .i64 Try.underlying22 Try.elemU8 Try.infoU8 A' n' c' kk hkn
        have HFD := hid (fd_ok (r := rj) (xs := ys.take kk) HOK.out (Nat.le_trans (List.length_take_le _ _) (by omega)))
        have RU := hid (fun (W : World) (h : Below wr.heap.size wr W) => ((hR.upto (i := kk) hkn).below (h.mono hbel.size)).more (Nat.le_trans hbel.size h.size))
        have PW := hid (fun (W : World) (h : Below wr.heap.size wr W) => rep_at (show lay_Reader.rep wr (· < wr.heap.size) rj (#[.slice Ar nr cr, .bool rj.Bad] : Array Value).toList from rep_Reader.2 ⟨Ar, nr, cr, rfl, hS.wide fun _ hb => hb.1⟩) h)
        have KC := hid (fun (W : World) (h : Below wr.heap.size wr W) => And.intro (X0.call h).c0 (X0.call h).c1)
        have hg0 : w.heap.size < wr.heap.size := by omega
        have HBr := Below.refl wr.heap.size wr
        have hFk := (feedS_ok (ys.take kk) rj HOK.out HOB.out (oct_take HOY.out kk))
        generalize hG : feedS rj (ys.take kk) = p at *
        obtain ⟨⟨B3, b3⟩, l3⟩ := p
        have HG := hid hG
        have HFK := hid hFk
        clear hG hFk
        simp only at *
        go_region_held3 (fun w' => w'.cell? ⟨w.heap.size, 0, none⟩ = some (.slice Ar nr cr) ∧ w'.cell? ⟨w.heap.size, 1, none⟩ = some (.bool rj.Bad))
          (first | exact ⟨y0, y1⟩ | exact KC.out _ HB3 | exact ⟨(World.cell?_alloc_past _ _ _ hg0).trans y0, (World.cell?_alloc_past _ _ _ hg0).trans y1⟩ | exact KC.out _ (bel_alloc HB3 _) | exact KC.out _ ((HB3.setCell (p := ⟨wr.heap.size, 0, none⟩) (Nat.le_refl _) _).setCell (p := ⟨wr.heap.size, 1, none⟩) (Nat.le_refl _) _) | go_keep)
          (first
            | (go_at_call 10; (refine (frameFeed_any _ rj _ _ _ (ys.take kk) _ (PW.out _ HBr.drew) (RU.out _ HBr.drew)).mono ?_; rintro e w3 ⟨A3, n3, c3, v3, rfl, hs3, hown3, hb3⟩; rw [HFD.out.1, HFD.out.2.1, HFD.out.2.2] at *; obtain ⟨A4, n4, c4, rfl, q4⟩ := hown3.sl (Nat.le_refl _) (Nat.le_refl _); have HB3 := bel_call HBr.drew hb3))
            | (go_at_call 10; (refine (frameFeed_any _ rj _ _ _ (ys.take kk) _ (PW.out _ (bel_alloc HBr.drew _)) (RU.out _ (bel_alloc HBr.drew _))).mono ?_; rintro e w3 ⟨A3, n3, c3, v3, rfl, hs3, hown3, hb3⟩; rw [HFD.out.1, HFD.out.2.1, HFD.out.2.2] at *; obtain ⟨A4, n4, c4, rfl, q4⟩ := hown3.sl (Nat.le_refl _) (Nat.le_refl _); have HB3 := bel_call (bel_alloc HBr.drew _) hb3; have T : Var2 w3 wr.heap.size 24 (.slice none 0 0) (.bool false) := (Var2.new wr.drew 24 (.slice none 0 0) (.bool false)).call hb3; have t0 := T.c0; have t1 := T.c1; have t2 := T.f 0; have t3 := T.f 1)))
        · have hal := bel_alloc (Below.refl w3.heap.size w3) (Obj.cells #[.slice A3 n3 c3, .bool b3] 24)
          have N := Var2.new w3 24 (.slice A3 n3 c3) (.bool b3)
          have HBW := bel_call HB3 hal
          have hsN := ((hs3.keep fun p hp => hal.cell hp.2.1).wide (S' := From (w3.alloc (Obj.cells #[.slice A3 n3 c3, .bool b3] 24)) wr.heap.size) fun b hb => hb.keep hal)
          have qN := ((q4.keep fun p hp => hal.cell hp.2.1).wide (S' := From (w3.alloc (Obj.cells #[.slice A3 n3 c3, .bool b3] 24)) wr.heap.size) fun b hb => hb.keep hal)
          have hgn : wr.heap.size ≤ w3.heap.size := HB3.size
          have X0' := X0.call HBW
          have X1' := X1.call HBW
          have hownN := hown.keep HBW
          clear hs3 hown3 q4 hb3 HB3 y0 y1 hup KC PW RU hS
          generalize (w3.alloc (Obj.cells #[.slice A3 n3 c3, .bool b3] 24)) = W3 at *
          generalize w3.heap.size = gn at *
          have n0' := N.c0
          have n1' := N.c1
          have x0' := X0'.c0
          have x1' := X0'.c1
          have e0 := X0'.f 0
          have e1 := X0'.f 1
          have hzW := HBW.size
          have hown4 := (hownN.setLow (b := w.heap.size) (by omega) (by omega) 0 (.slice A3 n3 c3)).setLow (b := w.heap.size) (by omega) (by omega) 1 (.bool b3)
          have q4 := (qN.setLow (b := w.heap.size) (by omega) 0 (.slice A3 n3 c3)).setLow (b := w.heap.size) (by omega) 1 (.bool b3)
          have hs4 := (hsN.setLow (b := w.heap.size) (by omega) 0 (.slice A3 n3 c3)).setLow (b := w.heap.size) (by omega) 1 (.bool b3)
          have V4 := X0'.set (.slice A3 n3 c3) (.bool b3)
          have Y4 := (X1'.setOther (b := w.heap.size) (by omega) 0 (.slice A3 n3 c3)).setOther (b := w.heap.size) (by omega) 1 (.bool b3)
          have hB4 : Below w.heap.size w ((W3.setCell ⟨w.heap.size, 0, none⟩ (.slice A3 n3 c3)).setCell ⟨w.heap.size, 1, none⟩ (.bool b3)) := ((hbel.trans (HBW.mono hbel.size)).setCell (by simp) _).setCell (by simp) _
          have hsz4 : ((W3.setCell ⟨w.heap.size, 0, none⟩ (.slice A3 n3 c3)).setCell ⟨w.heap.size, 1, none⟩ (.bool b3)).heap.size = W3.heap.size := by simp
          have hEl := hid (fun (b : Nat) (hb : From ((W3.setCell ⟨w.heap.size, 0, none⟩ (.slice A3 n3 c3)).setCell ⟨w.heap.size, 1, none⟩ (.bool b3)) wr.heap.size b) => (show Els ((W3.setCell ⟨w.heap.size, 0, none⟩ (.slice A3 n3 c3)).setCell ⟨w.heap.size, 1, none⟩ (.bool b3)) (some (w.heap.size + 2)) u9 b from ⟨⟨by have := hb.1; omega, hb.2.2⟩, hb.2.1, fun he => by have h9 := hown.lt he.symm; have h8 := hb.1; omega⟩))
          have hn4 : n4 ≤ kk := by
            have h1 := q4.len
            have h2 := feedS_texts (ys.take kk) rj
            have h3 := List.length_take_le kk ys
            rw [HG.out] at h2
            simp only at h2
            omega
          have hlt4 : (lj.length + n4) * 24 ≤ 140737488355328 := by omega
          have hlt5 : lj.length + n4 ≤ maxLen := by unfold maxLen; omega
          have HS := hid (And.intro hs4 (And.intro V4 (And.intro Y4 (And.intro hB4 hsz4))))
          have HQ := hid q4
          have HO4 := hid hown4
          have hz4 : w.heap.size + 2 ≤ ((W3.setCell ⟨w.heap.size, 0, none⟩ (.slice A3 n3 c3)).setCell ⟨w.heap.size, 1, none⟩ (.bool b3)).heap.size := by rw [hsz4]; omega
          have HZ4 := hid hz4
          clear hs4 V4 Y4 hB4 hsz4 q4 hown4 hz4 qN hsN hownN
          go_wp2_with (at_builtin; go_must (refine wpList_catL (L := lay_Txt) rfl (.tmp 46) (.tmp 47) 29 rfl (w.heap.size + 2) (some (w.heap.size + 2)) 22 _ 24 Try.underlying29 Try.infoTxt rfl (by decide) u9 lj l3 _ A4 n4 c4 rfl rfl HO4.out HQ.out hEl.out HZ4.out hlt4 hlt5 ?_; intro v5 w5 hown5 hext5))
          obtain ⟨hs4, V4, Y4, hB4, hsz4⟩ := HS.out
          have hE5 := HO4.out.below hext5 HZ4.out
          have hz4 := HZ4.out
          have hR5 := (hR.cut (i := kk) hkn).below (((HBW.mono hbel.size).setCell (p := ⟨w.heap.size, 0, none⟩) (by simp) (.slice A3 n3 c3)).setCell (p := ⟨w.heap.size, 1, none⟩) (by simp) (.bool b3))
          generalize ((W3.setCell ⟨w.heap.size, 0, none⟩ (.slice A3 n3 c3)).setCell ⟨w.heap.size, 1, none⟩ (.bool b3)) = W4 at *
          have hne5 : ∀ k, From W4 wr.heap.size k → some k ≠ u9.ownBlock := fun k hk he => by have h9 := hown.lt he.symm; have h8 := hk.1; omega
          have hs5 : Sl (Lay.int .u8) w5 (Off w.heap.size w5) A3 n3 c3 B3 := (hs4.keep (w' := w5) fun p hp => World.cell?_of_block (hext5.1.block p.block hp.2.1 (hne5 _ hp))).wide fun b hb => ⟨Nat.lt_of_lt_of_le hb.2.1 hext5.size, by have := hb.1; omega, by have := hb.1; omega⟩
          have hB5 := hB4.trans (hE5.mono (by omega))
          have hR6 := hR5.below (hE5.mono (by omega))
          have HFN := hid (show feedS r xs = ((feedS ⟨B3, b3⟩ (ys.drop kk)).1, (lj ++ l3) ++ (feedS ⟨B3, b3⟩ (ys.drop kk)).2) from by
            rw [HF.out]
            conv => lhs; rw [← List.take_append_drop kk ys, feedS_app, HG.out]
            simp)
          go_wp2
          go_roundw
          case rel =>
            refine ⟨cutA A' c' kk, n' - kk, c' - kk, j + 1, ys.drop kk, ⟨B3, b3⟩, lj ++ l3, A3, n3, c3, by first | rfl | simp, by go_num, hR6, by omega, by omega, fun h => by omega, HFN.out, HFK.out.1, HFK.out.2.1, fun x hx => HOY.out x (List.mem_of_mem_drop hx), ?_, V4.keep hE5 (by omega), Y4.keep hE5 (by omega), hs5, hown5, hB5⟩
            have h1 := HQ.out.len
            rw [List.length_append]
            omega
          case measure => simp [intOf, slen]; omega
        · have N := T.set (.slice A3 n3 c3) (.bool b3)
          have HBW := (HB3.setCell (p := ⟨wr.heap.size, 0, none⟩) (Nat.le_refl _) (.slice A3 n3 c3)).setCell (p := ⟨wr.heap.size, 1, none⟩) (Nat.le_refl _) (.bool b3)
          have hsN := ((hs3.setLow (b := wr.heap.size) (by simp) 0 (.slice A3 n3 c3)).setLow (b := wr.heap.size) (by simp) 1 (.bool b3)).low (l' := wr.heap.size) (by simp)
          have qN := ((q4.setLow (b := wr.heap.size) (by simp) 0 (.slice A3 n3 c3)).setLow (b := wr.heap.size) (by simp) 1 (.bool b3)).low (l' := wr.heap.size) (by simp)
          have hgn : wr.heap.size ≤ wr.heap.size := Nat.le_refl _
          clear t0 t1 t2 t3 T
          have X0' := X0.call HBW
          have X1' := X1.call HBW
          have hownN := hown.keep HBW
          clear hs3 hown3 q4 hb3 HB3 y0 y1 hup KC PW RU hS
          generalize ((w3.setCell ⟨wr.heap.size, 0, none⟩ (.slice A3 n3 c3)).setCell ⟨wr.heap.size, 1, none⟩ (.bool b3)) = W3 at *
          have n0' := N.c0
          have n1' := N.c1
          have x0' := X0'.c0
          have x1' := X0'.c1
          have e0 := X0'.f 0
          have e1 := X0'.f 1
          have hzW := HBW.size
          have hown4 := (hownN.setLow (b := w.heap.size) (by omega) (by omega) 0 (.slice A3 n3 c3)).setLow (b := w.heap.size) (by omega) (by omega) 1 (.bool b3)
          have q4 := (qN.setLow (b := w.heap.size) (by omega) 0 (.slice A3 n3 c3)).setLow (b := w.heap.size) (by omega) 1 (.bool b3)
          have hs4 := (hsN.setLow (b := w.heap.size) (by omega) 0 (.slice A3 n3 c3)).setLow (b := w.heap.size) (by omega) 1 (.bool b3)
          have V4 := X0'.set (.slice A3 n3 c3) (.bool b3)
          have Y4 := (X1'.setOther (b := w.heap.size) (by omega) 0 (.slice A3 n3 c3)).setOther (b := w.heap.size) (by omega) 1 (.bool b3)
          have hB4 : Below w.heap.size w ((W3.setCell ⟨w.heap.size, 0, none⟩ (.slice A3 n3 c3)).setCell ⟨w.heap.size, 1, none⟩ (.bool b3)) := ((hbel.trans (HBW.mono hbel.size)).setCell (by simp) _).setCell (by simp) _
          have hsz4 : ((W3.setCell ⟨w.heap.size, 0, none⟩ (.slice A3 n3 c3)).setCell ⟨w.heap.size, 1, none⟩ (.bool b3)).heap.size = W3.heap.size := by simp
          have hEl := hid (fun (b : Nat) (hb : From ((W3.setCell ⟨w.heap.size, 0, none⟩ (.slice A3 n3 c3)).setCell ⟨w.heap.size, 1, none⟩ (.bool b3)) wr.heap.size b) => (show Els ((W3.setCell ⟨w.heap.size, 0, none⟩ (.slice A3 n3 c3)).setCell ⟨w.heap.size, 1, none⟩ (.bool b3)) (some (w.heap.size + 2)) u9 b from ⟨⟨by have := hb.1; omega, hb.2.2⟩, hb.2.1, fun he => by have h9 := hown.lt he.symm; have h8 := hb.1; omega⟩))
          have hn4 : n4 ≤ kk := by
            have h1 := q4.len
            have h2 := feedS_texts (ys.take kk) rj
            have h3 := List.length_take_le kk ys
            rw [HG.out] at h2
            simp only at h2
            omega
          have hlt4 : (lj.length + n4) * 24 ≤ 140737488355328 := by omega
          have hlt5 : lj.length + n4 ≤ maxLen := by unfold maxLen; omega
          have HS := hid (And.intro hs4 (And.intro V4 (And.intro Y4 (And.intro hB4 hsz4))))
          have HQ := hid q4
          have HO4 := hid hown4
          have hz4 : w.heap.size + 2 ≤ ((W3.setCell ⟨w.heap.size, 0, none⟩ (.slice A3 n3 c3)).setCell ⟨w.heap.size, 1, none⟩ (.bool b3)).heap.size := by rw [hsz4]; omega
          have HZ4 := hid hz4
          clear hs4 V4 Y4 hB4 hsz4 q4 hown4 hz4 qN hsN hownN
          go_wp2_with (at_builtin; go_must (refine wpList_catL (L := lay_Txt) rfl (.tmp 46) (.tmp 47) 29 rfl (w.heap.size + 2) (some (w.heap.size + 2)) 22 _ 24 Try.underlying29 Try.infoTxt rfl (by decide) u9 lj l3 _ A4 n4 c4 rfl rfl HO4.out HQ.out hEl.out HZ4.out hlt4 hlt5 ?_; intro v5 w5 hown5 hext5))
          obtain ⟨hs4, V4, Y4, hB4, hsz4⟩ := HS.out
          have hE5 := HO4.out.below hext5 HZ4.out
          have hz4 := HZ4.out
          have hR5 := (hR.cut (i := kk) hkn).below (((HBW.mono hbel.size).setCell (p := ⟨w.heap.size, 0, none⟩) (by simp) (.slice A3 n3 c3)).setCell (p := ⟨w.heap.size, 1, none⟩) (by simp) (.bool b3))
          generalize ((W3.setCell ⟨w.heap.size, 0, none⟩ (.slice A3 n3 c3)).setCell ⟨w.heap.size, 1, none⟩ (.bool b3)) = W4 at *
          have hne5 : ∀ k, From W4 wr.heap.size k → some k ≠ u9.ownBlock := fun k hk he => by have h9 := hown.lt he.symm; have h8 := hk.1; omega
          have hs5 : Sl (Lay.int .u8) w5 (Off w.heap.size w5) A3 n3 c3 B3 := (hs4.keep (w' := w5) fun p hp => World.cell?_of_block (hext5.1.block p.block hp.2.1 (hne5 _ hp))).wide fun b hb => ⟨Nat.lt_of_lt_of_le hb.2.1 hext5.size, by have := hb.1; omega, by have := hb.1; omega⟩
          have hB5 := hB4.trans (hE5.mono (by omega))
          have hR6 := hR5.below (hE5.mono (by omega))
          have HFN := hid (show feedS r xs = ((feedS ⟨B3, b3⟩ (ys.drop kk)).1, (lj ++ l3) ++ (feedS ⟨B3, b3⟩ (ys.drop kk)).2) from by
            rw [HF.out]
            conv => lhs; rw [← List.take_append_drop kk ys, feedS_app, HG.out]
            simp)
          go_wp2
          go_roundw
          case rel =>
            refine ⟨cutA A' c' kk, n' - kk, c' - kk, j + 1, ys.drop kk, ⟨B3, b3⟩, lj ++ l3, A3, n3, c3, by first | rfl | simp, by go_num, hR6, by omega, by omega, fun h => by omega, HFN.out, HFK.out.1, HFK.out.2.1, fun x hx => HOY.out x (List.mem_of_mem_drop hx), ?_, V4.keep hE5 (by omega), Y4.keep hE5 (by omega), hs5, hown5, hB5⟩
            have h1 := HQ.out.len
            rw [List.length_append]
            omega
          case measure => simp [intOf, slen]; omega
      · go_wp2_with fail
        have hkn : n' ≤ n' := by omega
        have hup := run_uptoL (P := Try.prog) 22 5 .i64 Try.underlying22 Try.elemU8 Try.infoU8 A' n' c' n' (by omega)
        have hfr := run_fromK (P := Try.prog) 22 5 .i64 Try.underlying22 Try.elemU8 Try.infoU8 A' n' c' n' hkn
        have HFD := hid (fd_ok (r := rj) (xs := ys.take n') HOK.out (Nat.le_trans (List.length_take_le _ _) (by omega)))
        have RU := hid (fun (W : World) (h : Below wr.heap.size wr W) => ((hR.upto (i := n') hkn).below (h.mono hbel.size)).more (Nat.le_trans hbel.size h.size))
        have PW := hid (fun (W : World) (h : Below wr.heap.size wr W) => rep_at (show lay_Reader.rep wr (· < wr.heap.size) rj (#[.slice Ar nr cr, .bool rj.Bad] : Array Value).toList from rep_Reader.2 ⟨Ar, nr, cr, rfl, hS.wide fun _ hb => hb.1⟩) h)
        have KC := hid (fun (W : World) (h : Below wr.heap.size wr W) => And.intro (X0.call h).c0 (X0.call h).c1)
        have hg0 : w.heap.size < wr.heap.size := by omega
        have HBr := Below.refl wr.heap.size wr
        have hFk := (feedS_ok (ys.take n') rj HOK.out HOB.out (oct_take HOY.out n'))
        generalize hG : feedS rj (ys.take n') = p at *
        obtain ⟨⟨B3, b3⟩, l3⟩ := p
        have HG := hid hG
        have HFK := hid hFk
        clear hG hFk
        simp only at *
        go_region_held3 (fun w' => w'.cell? ⟨w.heap.size, 0, none⟩ = some (.slice Ar nr cr) ∧ w'.cell? ⟨w.heap.size, 1, none⟩ = some (.bool rj.Bad))
          (first | exact ⟨y0, y1⟩ | exact KC.out _ HB3 | exact ⟨(World.cell?_alloc_past _ _ _ hg0).trans y0, (World.cell?_alloc_past _ _ _ hg0).trans y1⟩ | exact KC.out _ (bel_alloc HB3 _) | exact KC.out _ ((HB3.setCell (p := ⟨wr.heap.size, 0, none⟩) (Nat.le_refl _) _).setCell (p := ⟨wr.heap.size, 1, none⟩) (Nat.le_refl _) _) | go_keep)
          (first
            | (go_at_call 10; (refine (frameFeed_any _ rj _ _ _ (ys.take n') _ (PW.out _ HBr.drew) (RU.out _ HBr.drew)).mono ?_; rintro e w3 ⟨A3, n3, c3, v3, rfl, hs3, hown3, hb3⟩; rw [HFD.out.1, HFD.out.2.1, HFD.out.2.2] at *; obtain ⟨A4, n4, c4, rfl, q4⟩ := hown3.sl (Nat.le_refl _) (Nat.le_refl _); have HB3 := bel_call HBr.drew hb3))
            | (go_at_call 10; (refine (frameFeed_any _ rj _ _ _ (ys.take n') _ (PW.out _ (bel_alloc HBr.drew _)) (RU.out _ (bel_alloc HBr.drew _))).mono ?_; rintro e w3 ⟨A3, n3, c3, v3, rfl, hs3, hown3, hb3⟩; rw [HFD.out.1, HFD.out.2.1, HFD.out.2.2] at *; obtain ⟨A4, n4, c4, rfl, q4⟩ := hown3.sl (Nat.le_refl _) (Nat.le_refl _); have HB3 := bel_call (bel_alloc HBr.drew _) hb3; have T : Var2 w3 wr.heap.size 24 (.slice none 0 0) (.bool false) := (Var2.new wr.drew 24 (.slice none 0 0) (.bool false)).call hb3; have t0 := T.c0; have t1 := T.c1; have t2 := T.f 0; have t3 := T.f 1)))
        · have hal := bel_alloc (Below.refl w3.heap.size w3) (Obj.cells #[.slice A3 n3 c3, .bool b3] 24)
          have N := Var2.new w3 24 (.slice A3 n3 c3) (.bool b3)
          have HBW := bel_call HB3 hal
          have hsN := ((hs3.keep fun p hp => hal.cell hp.2.1).wide (S' := From (w3.alloc (Obj.cells #[.slice A3 n3 c3, .bool b3] 24)) wr.heap.size) fun b hb => hb.keep hal)
          have qN := ((q4.keep fun p hp => hal.cell hp.2.1).wide (S' := From (w3.alloc (Obj.cells #[.slice A3 n3 c3, .bool b3] 24)) wr.heap.size) fun b hb => hb.keep hal)
          have hgn : wr.heap.size ≤ w3.heap.size := HB3.size
          have X0' := X0.call HBW
          have X1' := X1.call HBW
          have hownN := hown.keep HBW
          clear hs3 hown3 q4 hb3 HB3 y0 y1 hup KC PW RU hS
          generalize (w3.alloc (Obj.cells #[.slice A3 n3 c3, .bool b3] 24)) = W3 at *
          generalize w3.heap.size = gn at *
          have n0' := N.c0
          have n1' := N.c1
          have x0' := X0'.c0
          have x1' := X0'.c1
          have e0 := X0'.f 0
          have e1 := X0'.f 1
          have hzW := HBW.size
          have hown4 := (hownN.setLow (b := w.heap.size) (by omega) (by omega) 0 (.slice A3 n3 c3)).setLow (b := w.heap.size) (by omega) (by omega) 1 (.bool b3)
          have q4 := (qN.setLow (b := w.heap.size) (by omega) 0 (.slice A3 n3 c3)).setLow (b := w.heap.size) (by omega) 1 (.bool b3)
          have hs4 := (hsN.setLow (b := w.heap.size) (by omega) 0 (.slice A3 n3 c3)).setLow (b := w.heap.size) (by omega) 1 (.bool b3)
          have V4 := X0'.set (.slice A3 n3 c3) (.bool b3)
          have Y4 := (X1'.setOther (b := w.heap.size) (by omega) 0 (.slice A3 n3 c3)).setOther (b := w.heap.size) (by omega) 1 (.bool b3)
          have hB4 : Below w.heap.size w ((W3.setCell ⟨w.heap.size, 0, none⟩ (.slice A3 n3 c3)).setCell ⟨w.heap.size, 1, none⟩ (.bool b3)) := ((hbel.trans (HBW.mono hbel.size)).setCell (by simp) _).setCell (by simp) _
          have hsz4 : ((W3.setCell ⟨w.heap.size, 0, none⟩ (.slice A3 n3 c3)).setCell ⟨w.heap.size, 1, none⟩ (.bool b3)).heap.size = W3.heap.size := by simp
          have hEl := hid (fun (b : Nat) (hb : From ((W3.setCell ⟨w.heap.size, 0, none⟩ (.slice A3 n3 c3)).setCell ⟨w.heap.size, 1, none⟩ (.bool b3)) wr.heap.size b) => (show Els ((W3.setCell ⟨w.heap.size, 0, none⟩ (.slice A3 n3 c3)).setCell ⟨w.heap.size, 1, none⟩ (.bool b3)) (some (w.heap.size + 2)) u9 b from ⟨⟨by have := hb.1; omega, hb.2.2⟩, hb.2.1, fun he => by have h9 := hown.lt he.symm; have h8 := hb.1; omega⟩))
          have hn4 : n4 ≤ n' := by
            have h1 := q4.len
            have h2 := feedS_texts (ys.take n') rj
            have h3 := List.length_take_le n' ys
            rw [HG.out] at h2
            simp only at h2
            omega
          have hlt4 : (lj.length + n4) * 24 ≤ 140737488355328 := by omega
          have hlt5 : lj.length + n4 ≤ maxLen := by unfold maxLen; omega
          have HS := hid (And.intro hs4 (And.intro V4 (And.intro Y4 (And.intro hB4 hsz4))))
          have HQ := hid q4
          have HO4 := hid hown4
          have hz4 : w.heap.size + 2 ≤ ((W3.setCell ⟨w.heap.size, 0, none⟩ (.slice A3 n3 c3)).setCell ⟨w.heap.size, 1, none⟩ (.bool b3)).heap.size := by rw [hsz4]; omega
          have HZ4 := hid hz4
          clear hs4 V4 Y4 hB4 hsz4 q4 hown4 hz4 qN hsN hownN
          go_wp2_with (at_builtin; go_must (refine wpList_catL (L := lay_Txt) rfl (.tmp 46) (.tmp 47) 29 rfl (w.heap.size + 2) (some (w.heap.size + 2)) 22 _ 24 Try.underlying29 Try.infoTxt rfl (by decide) u9 lj l3 _ A4 n4 c4 rfl rfl HO4.out HQ.out hEl.out HZ4.out hlt4 hlt5 ?_; intro v5 w5 hown5 hext5))
          obtain ⟨hs4, V4, Y4, hB4, hsz4⟩ := HS.out
          have hE5 := HO4.out.below hext5 HZ4.out
          have hz4 := HZ4.out
          have hR5 := (hR.cut (i := n') hkn).below (((HBW.mono hbel.size).setCell (p := ⟨w.heap.size, 0, none⟩) (by simp) (.slice A3 n3 c3)).setCell (p := ⟨w.heap.size, 1, none⟩) (by simp) (.bool b3))
          generalize ((W3.setCell ⟨w.heap.size, 0, none⟩ (.slice A3 n3 c3)).setCell ⟨w.heap.size, 1, none⟩ (.bool b3)) = W4 at *
          have hne5 : ∀ k, From W4 wr.heap.size k → some k ≠ u9.ownBlock := fun k hk he => by have h9 := hown.lt he.symm; have h8 := hk.1; omega
          have hs5 : Sl (Lay.int .u8) w5 (Off w.heap.size w5) A3 n3 c3 B3 := (hs4.keep (w' := w5) fun p hp => World.cell?_of_block (hext5.1.block p.block hp.2.1 (hne5 _ hp))).wide fun b hb => ⟨Nat.lt_of_lt_of_le hb.2.1 hext5.size, by have := hb.1; omega, by have := hb.1; omega⟩
          have hB5 := hB4.trans (hE5.mono (by omega))
          have hR6 := hR5.below (hE5.mono (by omega))
          have HFN := hid (show feedS r xs = ((feedS ⟨B3, b3⟩ (ys.drop n')).1, (lj ++ l3) ++ (feedS ⟨B3, b3⟩ (ys.drop n')).2) from by
            rw [HF.out]
            conv => lhs; rw [← List.take_append_drop n' ys, feedS_app, HG.out]
            simp)
          go_wp2
          go_roundw
          case rel =>
            refine ⟨cutA A' c' n', n' - n', c' - n', j + 1, ys.drop n', ⟨B3, b3⟩, lj ++ l3, A3, n3, c3, by first | rfl | simp, by go_num, hR6, by omega, by omega, fun h => by omega, HFN.out, HFK.out.1, HFK.out.2.1, fun x hx => HOY.out x (List.mem_of_mem_drop hx), ?_, V4.keep hE5 (by omega), Y4.keep hE5 (by omega), hs5, hown5, hB5⟩
            have h1 := HQ.out.len
            rw [List.length_append]
            omega
          case measure => simp [intOf, slen]; omega
        · have N := T.set (.slice A3 n3 c3) (.bool b3)
          have HBW := (HB3.setCell (p := ⟨wr.heap.size, 0, none⟩) (Nat.le_refl _) (.slice A3 n3 c3)).setCell (p := ⟨wr.heap.size, 1, none⟩) (Nat.le_refl _) (.bool b3)
          have hsN := ((hs3.setLow (b := wr.heap.size) (by simp) 0 (.slice A3 n3 c3)).setLow (b := wr.heap.size) (by simp) 1 (.bool b3)).low (l' := wr.heap.size) (by simp)
          have qN := ((q4.setLow (b := wr.heap.size) (by simp) 0 (.slice A3 n3 c3)).setLow (b := wr.heap.size) (by simp) 1 (.bool b3)).low (l' := wr.heap.size) (by simp)
          have hgn : wr.heap.size ≤ wr.heap.size := Nat.le_refl _
          clear t0 t1 t2 t3 T
          have X0' := X0.call HBW
          have X1' := X1.call HBW
          have hownN := hown.keep HBW
          clear hs3 hown3 q4 hb3 HB3 y0 y1 hup KC PW RU hS
          generalize ((w3.setCell ⟨wr.heap.size, 0, none⟩ (.slice A3 n3 c3)).setCell ⟨wr.heap.size, 1, none⟩ (.bool b3)) = W3 at *
          have n0' := N.c0
          have n1' := N.c1
          have x0' := X0'.c0
          have x1' := X0'.c1
          have e0 := X0'.f 0
          have e1 := X0'.f 1
          have hzW := HBW.size
          have hown4 := (hownN.setLow (b := w.heap.size) (by omega) (by omega) 0 (.slice A3 n3 c3)).setLow (b := w.heap.size) (by omega) (by omega) 1 (.bool b3)
          have q4 := (qN.setLow (b := w.heap.size) (by omega) 0 (.slice A3 n3 c3)).setLow (b := w.heap.size) (by omega) 1 (.bool b3)
          have hs4 := (hsN.setLow (b := w.heap.size) (by omega) 0 (.slice A3 n3 c3)).setLow (b := w.heap.size) (by omega) 1 (.bool b3)
          have V4 := X0'.set (.slice A3 n3 c3) (.bool b3)
          have Y4 := (X1'.setOther (b := w.heap.size) (by omega) 0 (.slice A3 n3 c3)).setOther (b := w.heap.size) (by omega) 1 (.bool b3)
          have hB4 : Below w.heap.size w ((W3.setCell ⟨w.heap.size, 0, none⟩ (.slice A3 n3 c3)).setCell ⟨w.heap.size, 1, none⟩ (.bool b3)) := ((hbel.trans (HBW.mono hbel.size)).setCell (by simp) _).setCell (by simp) _
          have hsz4 : ((W3.setCell ⟨w.heap.size, 0, none⟩ (.slice A3 n3 c3)).setCell ⟨w.heap.size, 1, none⟩ (.bool b3)).heap.size = W3.heap.size := by simp
          have hEl := hid (fun (b : Nat) (hb : From ((W3.setCell ⟨w.heap.size, 0, none⟩ (.slice A3 n3 c3)).setCell ⟨w.heap.size, 1, none⟩ (.bool b3)) wr.heap.size b) => (show Els ((W3.setCell ⟨w.heap.size, 0, none⟩ (.slice A3 n3 c3)).setCell ⟨w.heap.size, 1, none⟩ (.bool b3)) (some (w.heap.size + 2)) u9 b from ⟨⟨by have := hb.1; omega, hb.2.2⟩, hb.2.1, fun he => by have h9 := hown.lt he.symm; have h8 := hb.1; omega⟩))
          have hn4 : n4 ≤ n' := by
            have h1 := q4.len
            have h2 := feedS_texts (ys.take n') rj
            have h3 := List.length_take_le n' ys
            rw [HG.out] at h2
            simp only at h2
            omega
          have hlt4 : (lj.length + n4) * 24 ≤ 140737488355328 := by omega
          have hlt5 : lj.length + n4 ≤ maxLen := by unfold maxLen; omega
          have HS := hid (And.intro hs4 (And.intro V4 (And.intro Y4 (And.intro hB4 hsz4))))
          have HQ := hid q4
          have HO4 := hid hown4
          have hz4 : w.heap.size + 2 ≤ ((W3.setCell ⟨w.heap.size, 0, none⟩ (.slice A3 n3 c3)).setCell ⟨w.heap.size, 1, none⟩ (.bool b3)).heap.size := by rw [hsz4]; omega
          have HZ4 := hid hz4
          clear hs4 V4 Y4 hB4 hsz4 q4 hown4 hz4 qN hsN hownN
          go_wp2_with (at_builtin; go_must (refine wpList_catL (L := lay_Txt) rfl (.tmp 46) (.tmp 47) 29 rfl (w.heap.size + 2) (some (w.heap.size + 2)) 22 _ 24 Try.underlying29 Try.infoTxt rfl (by decide) u9 lj l3 _ A4 n4 c4 rfl rfl HO4.out HQ.out hEl.out HZ4.out hlt4 hlt5 ?_; intro v5 w5 hown5 hext5))
          obtain ⟨hs4, V4, Y4, hB4, hsz4⟩ := HS.out
          have hE5 := HO4.out.below hext5 HZ4.out
          have hz4 := HZ4.out
          have hR5 := (hR.cut (i := n') hkn).below (((HBW.mono hbel.size).setCell (p := ⟨w.heap.size, 0, none⟩) (by simp) (.slice A3 n3 c3)).setCell (p := ⟨w.heap.size, 1, none⟩) (by simp) (.bool b3))
          generalize ((W3.setCell ⟨w.heap.size, 0, none⟩ (.slice A3 n3 c3)).setCell ⟨w.heap.size, 1, none⟩ (.bool b3)) = W4 at *
          have hne5 : ∀ k, From W4 wr.heap.size k → some k ≠ u9.ownBlock := fun k hk he => by have h9 := hown.lt he.symm; have h8 := hk.1; omega
          have hs5 : Sl (Lay.int .u8) w5 (Off w.heap.size w5) A3 n3 c3 B3 := (hs4.keep (w' := w5) fun p hp => World.cell?_of_block (hext5.1.block p.block hp.2.1 (hne5 _ hp))).wide fun b hb => ⟨Nat.lt_of_lt_of_le hb.2.1 hext5.size, by have := hb.1; omega, by have := hb.1; omega⟩
          have hB5 := hB4.trans (hE5.mono (by omega))
          have hR6 := hR5.below (hE5.mono (by omega))
          have HFN := hid (show feedS r xs = ((feedS ⟨B3, b3⟩ (ys.drop n')).1, (lj ++ l3) ++ (feedS ⟨B3, b3⟩ (ys.drop n')).2) from by
            rw [HF.out]
            conv => lhs; rw [← List.take_append_drop n' ys, feedS_app, HG.out]
            simp)
          go_wp2
          go_roundw
          case rel =>
            refine ⟨cutA A' c' n', n' - n', c' - n', j + 1, ys.drop n', ⟨B3, b3⟩, lj ++ l3, A3, n3, c3, by first | rfl | simp, by go_num, hR6, by omega, by omega, fun h => by omega, HFN.out, HFK.out.1, HFK.out.2.1, fun x hx => HOY.out x (List.mem_of_mem_drop hx), ?_, V4.keep hE5 (by omega), Y4.keep hE5 (by omega), hs5, hown5, hB5⟩
            have h1 := HQ.out.len
            rw [List.length_append]
            omega
          case measure => simp [intOf, slen]; omega
    · have hd : decide ((j : Int) < (n2 : Int)) = false := by simp; omega
      go_wp2_with fail
      have hkn : n' ≤ n' := by omega
      have hup := run_uptoL (P := Try.prog) 22 5 .i64 Try.underlying22 Try.elemU8 Try.infoU8 A' n' c' n' (by omega)
      have hfr := run_fromK (P := Try.prog) 22 5 .i64 Try.underlying22 Try.elemU8 Try.infoU8 A' n' c' n' hkn
      have HFD := hid (fd_ok (r := rj) (xs := ys.take n') HOK.out (Nat.le_trans (List.length_take_le _ _) (by omega)))
      have RU := hid (fun (W : World) (h : Below wr.heap.size wr W) => ((hR.upto (i := n') hkn).below (h.mono hbel.size)).more (Nat.le_trans hbel.size h.size))
      have PW := hid (fun (W : World) (h : Below wr.heap.size wr W) => rep_at (show lay_Reader.rep wr (· < wr.heap.size) rj (#[.slice Ar nr cr, .bool rj.Bad] : Array Value).toList from rep_Reader.2 ⟨Ar, nr, cr, rfl, hS.wide fun _ hb => hb.1⟩) h)
      have KC := hid (fun (W : World) (h : Below wr.heap.size wr W) => And.intro (X0.call h).c0 (X0.call h).c1)
      have hg0 : w.heap.size < wr.heap.size := by omega
      have HBr := Below.refl wr.heap.size wr
      have hFk := (feedS_ok (ys.take n') rj HOK.out HOB.out (oct_take HOY.out n'))
      generalize hG : feedS rj (ys.take n') = p at *
      obtain ⟨⟨B3, b3⟩, l3⟩ := p
      have HG := hid hG
      have HFK := hid hFk
      clear hG hFk
      simp only at *
      go_region_held3 (fun w' => w'.cell? ⟨w.heap.size, 0, none⟩ = some (.slice Ar nr cr) ∧ w'.cell? ⟨w.heap.size, 1, none⟩ = some (.bool rj.Bad))
        (first | exact ⟨y0, y1⟩ | exact KC.out _ HB3 | exact ⟨(World.cell?_alloc_past _ _ _ hg0).trans y0, (World.cell?_alloc_past _ _ _ hg0).trans y1⟩ | exact KC.out _ (bel_alloc HB3 _) | exact KC.out _ ((HB3.setCell (p := ⟨wr.heap.size, 0, none⟩) (Nat.le_refl _) _).setCell (p := ⟨wr.heap.size, 1, none⟩) (Nat.le_refl _) _) | go_keep)
        (first
          | (go_at_call 10; (refine (frameFeed_any _ rj _ _ _ (ys.take n') _ (PW.out _ HBr.drew) (RU.out _ HBr.drew)).mono ?_; rintro e w3 ⟨A3, n3, c3, v3, rfl, hs3, hown3, hb3⟩; rw [HFD.out.1, HFD.out.2.1, HFD.out.2.2] at *; obtain ⟨A4, n4, c4, rfl, q4⟩ := hown3.sl (Nat.le_refl _) (Nat.le_refl _); have HB3 := bel_call HBr.drew hb3))
          | (go_at_call 10; (refine (frameFeed_any _ rj _ _ _ (ys.take n') _ (PW.out _ (bel_alloc HBr.drew _)) (RU.out _ (bel_alloc HBr.drew _))).mono ?_; rintro e w3 ⟨A3, n3, c3, v3, rfl, hs3, hown3, hb3⟩; rw [HFD.out.1, HFD.out.2.1, HFD.out.2.2] at *; obtain ⟨A4, n4, c4, rfl, q4⟩ := hown3.sl (Nat.le_refl _) (Nat.le_refl _); have HB3 := bel_call (bel_alloc HBr.drew _) hb3; have T : Var2 w3 wr.heap.size 24 (.slice none 0 0) (.bool false) := (Var2.new wr.drew 24 (.slice none 0 0) (.bool false)).call hb3; have t0 := T.c0; have t1 := T.c1; have t2 := T.f 0; have t3 := T.f 1)))
      · have hal := bel_alloc (Below.refl w3.heap.size w3) (Obj.cells #[.slice A3 n3 c3, .bool b3] 24)
        have N := Var2.new w3 24 (.slice A3 n3 c3) (.bool b3)
        have HBW := bel_call HB3 hal
        have hsN := ((hs3.keep fun p hp => hal.cell hp.2.1).wide (S' := From (w3.alloc (Obj.cells #[.slice A3 n3 c3, .bool b3] 24)) wr.heap.size) fun b hb => hb.keep hal)
        have qN := ((q4.keep fun p hp => hal.cell hp.2.1).wide (S' := From (w3.alloc (Obj.cells #[.slice A3 n3 c3, .bool b3] 24)) wr.heap.size) fun b hb => hb.keep hal)
        have hgn : wr.heap.size ≤ w3.heap.size := HB3.size
        have X0' := X0.call HBW
        have X1' := X1.call HBW
        have hownN := hown.keep HBW
        clear hs3 hown3 q4 hb3 HB3 y0 y1 hup KC PW RU hS
        generalize (w3.alloc (Obj.cells #[.slice A3 n3 c3, .bool b3] 24)) = W3 at *
        generalize w3.heap.size = gn at *
        have n0' := N.c0
        have n1' := N.c1
        have x0' := X0'.c0
        have x1' := X0'.c1
        have e0 := X0'.f 0
        have e1 := X0'.f 1
        have hzW := HBW.size
        have hown4 := (hownN.setLow (b := w.heap.size) (by omega) (by omega) 0 (.slice A3 n3 c3)).setLow (b := w.heap.size) (by omega) (by omega) 1 (.bool b3)
        have q4 := (qN.setLow (b := w.heap.size) (by omega) 0 (.slice A3 n3 c3)).setLow (b := w.heap.size) (by omega) 1 (.bool b3)
        have hs4 := (hsN.setLow (b := w.heap.size) (by omega) 0 (.slice A3 n3 c3)).setLow (b := w.heap.size) (by omega) 1 (.bool b3)
        have V4 := X0'.set (.slice A3 n3 c3) (.bool b3)
        have Y4 := (X1'.setOther (b := w.heap.size) (by omega) 0 (.slice A3 n3 c3)).setOther (b := w.heap.size) (by omega) 1 (.bool b3)
        have hB4 : Below w.heap.size w ((W3.setCell ⟨w.heap.size, 0, none⟩ (.slice A3 n3 c3)).setCell ⟨w.heap.size, 1, none⟩ (.bool b3)) := ((hbel.trans (HBW.mono hbel.size)).setCell (by simp) _).setCell (by simp) _
        have hsz4 : ((W3.setCell ⟨w.heap.size, 0, none⟩ (.slice A3 n3 c3)).setCell ⟨w.heap.size, 1, none⟩ (.bool b3)).heap.size = W3.heap.size := by simp
        have hEl := hid (fun (b : Nat) (hb : From ((W3.setCell ⟨w.heap.size, 0, none⟩ (.slice A3 n3 c3)).setCell ⟨w.heap.size, 1, none⟩ (.bool b3)) wr.heap.size b) => (show Els ((W3.setCell ⟨w.heap.size, 0, none⟩ (.slice A3 n3 c3)).setCell ⟨w.heap.size, 1, none⟩ (.bool b3)) (some (w.heap.size + 2)) u9 b from ⟨⟨by have := hb.1; omega, hb.2.2⟩, hb.2.1, fun he => by have h9 := hown.lt he.symm; have h8 := hb.1; omega⟩))
        have hn4 : n4 ≤ n' := by
          have h1 := q4.len
          have h2 := feedS_texts (ys.take n') rj
          have h3 := List.length_take_le n' ys
          rw [HG.out] at h2
          simp only at h2
          omega
        have hlt4 : (lj.length + n4) * 24 ≤ 140737488355328 := by omega
        have hlt5 : lj.length + n4 ≤ maxLen := by unfold maxLen; omega
        have HS := hid (And.intro hs4 (And.intro V4 (And.intro Y4 (And.intro hB4 hsz4))))
        have HQ := hid q4
        have HO4 := hid hown4
        have hz4 : w.heap.size + 2 ≤ ((W3.setCell ⟨w.heap.size, 0, none⟩ (.slice A3 n3 c3)).setCell ⟨w.heap.size, 1, none⟩ (.bool b3)).heap.size := by rw [hsz4]; omega
        have HZ4 := hid hz4
        clear hs4 V4 Y4 hB4 hsz4 q4 hown4 hz4 qN hsN hownN
        go_wp2_with (at_builtin; go_must (refine wpList_catL (L := lay_Txt) rfl (.tmp 46) (.tmp 47) 29 rfl (w.heap.size + 2) (some (w.heap.size + 2)) 22 _ 24 Try.underlying29 Try.infoTxt rfl (by decide) u9 lj l3 _ A4 n4 c4 rfl rfl HO4.out HQ.out hEl.out HZ4.out hlt4 hlt5 ?_; intro v5 w5 hown5 hext5))
        obtain ⟨hs4, V4, Y4, hB4, hsz4⟩ := HS.out
        have hE5 := HO4.out.below hext5 HZ4.out
        have hz4 := HZ4.out
        have hR5 := (hR.cut (i := n') hkn).below (((HBW.mono hbel.size).setCell (p := ⟨w.heap.size, 0, none⟩) (by simp) (.slice A3 n3 c3)).setCell (p := ⟨w.heap.size, 1, none⟩) (by simp) (.bool b3))
        generalize ((W3.setCell ⟨w.heap.size, 0, none⟩ (.slice A3 n3 c3)).setCell ⟨w.heap.size, 1, none⟩ (.bool b3)) = W4 at *
        have hne5 : ∀ k, From W4 wr.heap.size k → some k ≠ u9.ownBlock := fun k hk he => by have h9 := hown.lt he.symm; have h8 := hk.1; omega
        have hs5 : Sl (Lay.int .u8) w5 (Off w.heap.size w5) A3 n3 c3 B3 := (hs4.keep (w' := w5) fun p hp => World.cell?_of_block (hext5.1.block p.block hp.2.1 (hne5 _ hp))).wide fun b hb => ⟨Nat.lt_of_lt_of_le hb.2.1 hext5.size, by have := hb.1; omega, by have := hb.1; omega⟩
        have hB5 := hB4.trans (hE5.mono (by omega))
        have hR6 := hR5.below (hE5.mono (by omega))
        have HFN := hid (show feedS r xs = ((feedS ⟨B3, b3⟩ (ys.drop n')).1, (lj ++ l3) ++ (feedS ⟨B3, b3⟩ (ys.drop n')).2) from by
          rw [HF.out]
          conv => lhs; rw [← List.take_append_drop n' ys, feedS_app, HG.out]
          simp)
        go_wp2
        go_roundw
        case rel =>
          refine ⟨cutA A' c' n', n' - n', c' - n', j + 1, ys.drop n', ⟨B3, b3⟩, lj ++ l3, A3, n3, c3, by first | rfl | simp, by go_num, hR6, by omega, by omega, fun h => by omega, HFN.out, HFK.out.1, HFK.out.2.1, fun x hx => HOY.out x (List.mem_of_mem_drop hx), ?_, V4.keep hE5 (by omega), Y4.keep hE5 (by omega), hs5, hown5, hB5⟩
          have h1 := HQ.out.len
          rw [List.length_append]
          omega
        case measure => simp [intOf, slen]; omega
      · have N := T.set (.slice A3 n3 c3) (.bool b3)
        have HBW := (HB3.setCell (p := ⟨wr.heap.size, 0, none⟩) (Nat.le_refl _) (.slice A3 n3 c3)).setCell (p := ⟨wr.heap.size, 1, none⟩) (Nat.le_refl _) (.bool b3)
        have hsN := ((hs3.setLow (b := wr.heap.size) (by simp) 0 (.slice A3 n3 c3)).setLow (b := wr.heap.size) (by simp) 1 (.bool b3)).low (l' := wr.heap.size) (by simp)
        have qN := ((q4.setLow (b := wr.heap.size) (by simp) 0 (.slice A3 n3 c3)).setLow (b := wr.heap.size) (by simp) 1 (.bool b3)).low (l' := wr.heap.size) (by simp)
        have hgn : wr.heap.size ≤ wr.heap.size := Nat.le_refl _
        clear t0 t1 t2 t3 T
        have X0' := X0.call HBW
        have X1' := X1.call HBW
        have hownN := hown.keep HBW
        clear hs3 hown3 q4 hb3 HB3 y0 y1 hup KC PW RU hS
        generalize ((w3.setCell ⟨wr.heap.size, 0, none⟩ (.slice A3 n3 c3)).setCell ⟨wr.heap.size, 1, none⟩ (.bool b3)) = W3 at *
        have n0' := N.c0
        have n1' := N.c1
        have x0' := X0'.c0
        have x1' := X0'.c1
        have e0 := X0'.f 0
        have e1 := X0'.f 1
        have hzW := HBW.size
        have hown4 := (hownN.setLow (b := w.heap.size) (by omega) (by omega) 0 (.slice A3 n3 c3)).setLow (b := w.heap.size) (by omega) (by omega) 1 (.bool b3)
        have q4 := (qN.setLow (b := w.heap.size) (by omega) 0 (.slice A3 n3 c3)).setLow (b := w.heap.size) (by omega) 1 (.bool b3)
        have hs4 := (hsN.setLow (b := w.heap.size) (by omega) 0 (.slice A3 n3 c3)).setLow (b := w.heap.size) (by omega) 1 (.bool b3)
        have V4 := X0'.set (.slice A3 n3 c3) (.bool b3)
        have Y4 := (X1'.setOther (b := w.heap.size) (by omega) 0 (.slice A3 n3 c3)).setOther (b := w.heap.size) (by omega) 1 (.bool b3)
        have hB4 : Below w.heap.size w ((W3.setCell ⟨w.heap.size, 0, none⟩ (.slice A3 n3 c3)).setCell ⟨w.heap.size, 1, none⟩ (.bool b3)) := ((hbel.trans (HBW.mono hbel.size)).setCell (by simp) _).setCell (by simp) _
        have hsz4 : ((W3.setCell ⟨w.heap.size, 0, none⟩ (.slice A3 n3 c3)).setCell ⟨w.heap.size, 1, none⟩ (.bool b3)).heap.size = W3.heap.size := by simp
        have hEl := hid (fun (b : Nat) (hb : From ((W3.setCell ⟨w.heap.size, 0, none⟩ (.slice A3 n3 c3)).setCell ⟨w.heap.size, 1, none⟩ (.bool b3)) wr.heap.size b) => (show Els ((W3.setCell ⟨w.heap.size, 0, none⟩ (.slice A3 n3 c3)).setCell ⟨w.heap.size, 1, none⟩ (.bool b3)) (some (w.heap.size + 2)) u9 b from ⟨⟨by have := hb.1; omega, hb.2.2⟩, hb.2.1, fun he => by have h9 := hown.lt he.symm; have h8 := hb.1; omega⟩))
        have hn4 : n4 ≤ n' := by
          have h1 := q4.len
          have h2 := feedS_texts (ys.take n') rj
          have h3 := List.length_take_le n' ys
          rw [HG.out] at h2
          simp only at h2
          omega
        have hlt4 : (lj.length + n4) * 24 ≤ 140737488355328 := by omega
        have hlt5 : lj.length + n4 ≤ maxLen := by unfold maxLen; omega
        have HS := hid (And.intro hs4 (And.intro V4 (And.intro Y4 (And.intro hB4 hsz4))))
        have HQ := hid q4
        have HO4 := hid hown4
        have hz4 : w.heap.size + 2 ≤ ((W3.setCell ⟨w.heap.size, 0, none⟩ (.slice A3 n3 c3)).setCell ⟨w.heap.size, 1, none⟩ (.bool b3)).heap.size := by rw [hsz4]; omega
        have HZ4 := hid hz4
        clear hs4 V4 Y4 hB4 hsz4 q4 hown4 hz4 qN hsN hownN
        go_wp2_with (at_builtin; go_must (refine wpList_catL (L := lay_Txt) rfl (.tmp 46) (.tmp 47) 29 rfl (w.heap.size + 2) (some (w.heap.size + 2)) 22 _ 24 Try.underlying29 Try.infoTxt rfl (by decide) u9 lj l3 _ A4 n4 c4 rfl rfl HO4.out HQ.out hEl.out HZ4.out hlt4 hlt5 ?_; intro v5 w5 hown5 hext5))
        obtain ⟨hs4, V4, Y4, hB4, hsz4⟩ := HS.out
        have hE5 := HO4.out.below hext5 HZ4.out
        have hz4 := HZ4.out
        have hR5 := (hR.cut (i := n') hkn).below (((HBW.mono hbel.size).setCell (p := ⟨w.heap.size, 0, none⟩) (by simp) (.slice A3 n3 c3)).setCell (p := ⟨w.heap.size, 1, none⟩) (by simp) (.bool b3))
        generalize ((W3.setCell ⟨w.heap.size, 0, none⟩ (.slice A3 n3 c3)).setCell ⟨w.heap.size, 1, none⟩ (.bool b3)) = W4 at *
        have hne5 : ∀ k, From W4 wr.heap.size k → some k ≠ u9.ownBlock := fun k hk he => by have h9 := hown.lt he.symm; have h8 := hk.1; omega
        have hs5 : Sl (Lay.int .u8) w5 (Off w.heap.size w5) A3 n3 c3 B3 := (hs4.keep (w' := w5) fun p hp => World.cell?_of_block (hext5.1.block p.block hp.2.1 (hne5 _ hp))).wide fun b hb => ⟨Nat.lt_of_lt_of_le hb.2.1 hext5.size, by have := hb.1; omega, by have := hb.1; omega⟩
        have hB5 := hB4.trans (hE5.mono (by omega))
        have hR6 := hR5.below (hE5.mono (by omega))
        have HFN := hid (show feedS r xs = ((feedS ⟨B3, b3⟩ (ys.drop n')).1, (lj ++ l3) ++ (feedS ⟨B3, b3⟩ (ys.drop n')).2) from by
          rw [HF.out]
          conv => lhs; rw [← List.take_append_drop n' ys, feedS_app, HG.out]
          simp)
        go_wp2
        go_roundw
        case rel =>
          refine ⟨cutA A' c' n', n' - n', c' - n', j + 1, ys.drop n', ⟨B3, b3⟩, lj ++ l3, A3, n3, c3, by first | rfl | simp, by go_num, hR6, by omega, by omega, fun h => by omega, HFN.out, HFK.out.1, HFK.out.2.1, fun x hx => HOY.out x (List.mem_of_mem_drop hx), ?_, V4.keep hE5 (by omega), Y4.keep hE5 (by omega), hs5, hown5, hB5⟩
          have h1 := HQ.out.len
          rw [List.length_append]
          omega
        case measure => simp [intOf, slen]; omega
end Go.Proofs.Ytbcahbgdjoahaaa
