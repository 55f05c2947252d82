/-
  The contract of the document's own Feed of layer 3.
-/
import Derived.Test.YtbcahbgdjoahaaaFrameRef3
namespace Go.Proofs.Ytbcahbgdjoahaaa
open Go.RowKit Go.WalkArith

/-- A text, laid. -/
abbrev lay_Txt : Lay (List Int) := Lay.slice (Lay.int .u8)
theorem Try.infoTxt : (Try.prog.info? 22).map (fun i => (i.zero, i.size, i.bytes)) = some (some (.slice none 0 0), lay_Txt.size, 24) := by kernel_rfl

theorem OwnL.setLow {α : Type} {L : Lay α} {w : World} {base lo b : Nat} {e : TypeId} {v : Value} {xs : List α} (h : OwnL L w base (some lo) e v xs) (hb : b < base) (hl : b < lo) (i : Nat) (u : Value) : OwnL L (w.setCell ⟨b, i, none⟩ u) base (some lo) e v xs := by
  obtain ⟨cs, h1, h2⟩ := h
  have hne : ∀ k, Els w (some lo) v k → k ≠ b := fun k hk e => by have := hk.1.1; omega
  exact ⟨cs, ownsRow_setCell_below h1 hb u, (h2.keep fun p hp => World.cell?_of_block (Below.heap_setCell _ _ _ _ (hne _ hp))).wide fun k hk => ⟨hk.1.of_block (Below.heap_setCell _ _ _ _ (hne k hk)), by simpa using hk.2.1, hk.2.2⟩⟩
theorem OwnL.lows {α : Type} {L : Lay α} {w : World} {base lo base' lo' : Nat} {e : TypeId} {v : Value} {xs : List α} (h : OwnL L w base (some lo) e v xs) (hb : base' ≤ base) (hl : lo' ≤ lo) : OwnL L w base' (some lo') e v xs := by
  obtain ⟨cs, h1, h2⟩ := h.low hb
  exact ⟨cs, h1, h2.wide fun b hb' => ⟨⟨Nat.le_trans hl hb'.1.1, hb'.1.2⟩, hb'.2⟩⟩
/-- A struct's variable of two cells. -/
def Var2 (w : World) (g : Nat) (t : TypeId) (x y : Value) : Prop := w.heap[g]? = some (.cells #[x, y] t (0, 0))
theorem Var2.c0 {w : World} {g : Nat} {t : TypeId} {x y : Value} (h : Var2 w g t x y) : w.cell? ⟨g, 0, none⟩ = some x := by unfold Var2 at h; simp [World.cell?, h]
theorem Var2.c1 {w : World} {g : Nat} {t : TypeId} {x y : Value} (h : Var2 w g t x y) : w.cell? ⟨g, 1, none⟩ = some y := by unfold Var2 at h; simp [World.cell?, h]
theorem Var2.f {w : World} {g : Nat} {t : TypeId} {x y : Value} (h : Var2 w g t x y) (i : Nat) : w.frozen? ⟨g, i, none⟩ = false := by unfold Var2 at h; simp [World.frozen?, h]
theorem Var2.lt {w : World} {g : Nat} {t : TypeId} {x y : Value} (h : Var2 w g t x y) : g < w.heap.size := (Array.getElem?_eq_some_iff.1 h).1
theorem Var2.keep {w w' : World} {g B : Nat} {t : TypeId} {x y : Value} (h : Var2 w g t x y) (hb : Below B w w') (hg : g < B) : Var2 w' g t x y := (hb.block g hg).trans h
theorem Var2.call {w w' : World} {g : Nat} {t : TypeId} {x y : Value} (h : Var2 w g t x y) (hb : Below w.heap.size w w') : Var2 w' g t x y := h.keep hb h.lt
theorem Var2.set {w : World} {g : Nat} {t : TypeId} {x y : Value} (h : Var2 w g t x y) (u v : Value) : Var2 ((w.setCell ⟨g, 0, none⟩ u).setCell ⟨g, 1, none⟩ v) g t u v := by
  unfold Var2 at *
  have h1 : (w.setCell ⟨g, 0, none⟩ u).heap[g]? = some (.cells #[u, y] t (0, 0)) := heap_setCell_same w g 0 _ t u h
  exact heap_setCell_same _ g 1 _ t v h1
theorem Var2.setOther {w : World} {g b : Nat} {t : TypeId} {x y : Value} (h : Var2 w g t x y) (hne : g ≠ b) (i : Nat) (u : Value) : Var2 (w.setCell ⟨b, i, none⟩ u) g t x y := (Below.heap_setCell _ _ _ _ hne).trans h

def FeedPost (w : World) (r : Rdr) (xs : List Int) (e : Ending) (w' : World) : Prop :=
  ∃ A1 n1 c1 v, e = .returned (.tuple #[.agg #[.slice A1 n1 c1, .bool (fdR r xs).Bad], v, .int .i64 (fdE r xs)]) ∧ Sl (Lay.int .u8) w' (From w' w.heap.size) A1 n1 c1 (fdR r xs).B ∧
    OwnL lay_Txt w' w.heap.size (some w.heap.size) 22 v (fdL r xs) ∧ Below w.heap.size w w'

/-- What holds at a round's head. -/
def FeedInv (w : World) (r : Rdr) (xs : List Int) (u : Value) (j : Nat) (wr : World) : Prop :=
  ∃ A' n' c', Var2 wr w.heap.size 24 (.slice A' n' c') (.bool (feedS r (xs.take j)).1.Bad) ∧ Var2 wr (w.heap.size + 1) 24 (.slice none 0 0) (.bool false) ∧ Sl (Lay.int .u8) wr (· < wr.heap.size) A' n' c' (feedS r (xs.take j)).1.B ∧
    OwnL lay_Txt wr (w.heap.size + 2) (some (w.heap.size + 2)) 22 u (feedS r (xs.take j)).2 ∧ Below w.heap.size w wr

theorem octS_texts (B : List Int) (c : Int) : (octS B c).2.length ≤ 1 := by
  unfold octS
  split
  · simp
  · split <;> simp
theorem feedS_texts (xs : List Int) : ∀ r : Rdr, (feedS r xs).2.length ≤ xs.length := by
  induction xs with
  | nil => intro r; simp [feedS_nil]
  | cons c xs ih =>
    intro r
    cases hb : r.Bad with
    | true => simp [feedS_bad hb]
    | false =>
      rw [feedS_cons hb]
      have h1 := octS_texts r.B c
      have h2 := ih (octS r.B c).1
      simp only [List.length_append, List.length_cons]
      omega
theorem feedS_take {r : Rdr} {xs : List Int} {j : Nat} (hj : j < xs.length) (hb : (feedS r (xs.take j)).1.Bad = false) : feedS r (xs.take (j + 1)) = ((octS (feedS r (xs.take j)).1.B (nth xs j)).1, (feedS r (xs.take j)).2 ++ (octS (feedS r (xs.take j)).1.B (nth xs j)).2) := by
  rw [List.take_succ_eq_append_getElem hj, feedS_snoc _ _ hb, nth_get hj]
theorem feedS_stop {r : Rdr} {xs : List Int} {j : Nat} (hb : (feedS r (xs.take j)).1.Bad = true) : feedS r xs = feedS r (xs.take j) := by
  conv => lhs; rw [← List.take_append_drop j xs, feedS_app, feedS_bad hb]
  simp
theorem oct_take {xs : List Int} (h : Oct xs) (j : Nat) : Oct (xs.take j) := fun x hx => h x (List.mem_of_mem_take hx)

set_option maxRecDepth 100000 in
set_option maxHeartbeats 2000000 in
theorem refFeed_any (s : Array Value) (r : Rdr) (A : Option Addr) (n c : Nat) (xs : List Int) (w : World) (h : lay_Reader.rep w (· < w.heap.size) r s.toList) (hr : Rd w w.heap.size .u8 A n c xs) :
    Calls Try.prog 11 #[.agg s, .slice A n c] w (FeedPost w r xs) := by
  obtain ⟨A0, n0, c0, hc, hV⟩ := rep_Reader.1 h
  obtain rfl : s = #[.slice A0 n0 c0, .bool r.Bad] := Array.ext' hc
  have hcap := hr.cap
  unfold maxLen at hcap
  have HL := hid hr.len
  have hb0 : Below w.heap.size w ((w.alloc (Obj.cells #[.slice A0 n0 c0, .bool r.Bad] 24)).alloc (Obj.cells #[.slice none 0 0, .bool false] 24)) := bel_alloc (bel_alloc (Below.refl _ _) _) _
  have hz : ((w.alloc (Obj.cells #[.slice A0 n0 c0, .bool r.Bad] 24)).alloc (Obj.cells #[.slice none 0 0, .bool false] 24)).heap.size = w.heap.size + 2 := by simp
  have v0 : Var2 ((w.alloc (Obj.cells #[.slice A0 n0 c0, .bool r.Bad] 24)).alloc (Obj.cells #[.slice none 0 0, .bool false] 24)) w.heap.size 24 (.slice A0 n0 c0) (.bool r.Bad) := (Below.heap_alloc _ _ _ (by simp)).trans (heap_alloc_new _ _)
  have v1 : Var2 ((w.alloc (Obj.cells #[.slice A0 n0 c0, .bool r.Bad] 24)).alloc (Obj.cells #[.slice none 0 0, .bool false] 24)) (w.heap.size + 1) 24 (.slice none 0 0) (.bool false) := alloc2_new _ _ _
  have RP := hid (lay_Reader.wide (S' := (· < w.heap.size + 2)) (lay_Reader.keep h fun _ hp => hb0.cell hp) fun _ hb => by omega)
  have HOC := hid (oct_of hr)
  have HR := hid hr
  have HV := hid hV
  have HRB := hid (oct_of (hV.rd (B := w.heap.size) fun _ h => h))
  clear h hc hV hr
  go_enter Try.func11, Try.ntmps11
  go_wp2_with fail
  generalize (w.alloc (Obj.cells #[.slice A0 n0 c0, .bool r.Bad] 24)).alloc (Obj.cells #[.slice none 0 0, .bool false] 24) = W0 at *
  rw [← hz] at RP
  with_reducible refine (refCheckF_any _ r _ RP.out).mono ?_
  rintro e w1 ⟨rfl, hb1⟩
  have V0 := v0.call hb1
  have V1 := v1.call hb1
  have z0 := V1.c0
  have z1 := V1.c1
  have f0 := V1.f 0
  have f1 := V1.f 1
  have HB1 := hb0.trans (hb1.mono hb0.size)
  by_cases hk : RdrOk r
  case neg =>
    have HE := hid (show fdE r xs = 1 from if_pos hk)
    have HRr := hid (show fdR r xs = ⟨[], false⟩ from if_neg (by rw [HE.out]; decide))
    have HLl := hid (show fdL r xs = [] from if_neg (by rw [HE.out]; decide))
    rw [chkF_no hk]
    clear hk
    go_wp2
    refine bodyPost_ret_by (results_ctt rfl _ _ (w.heap.size + 1) 0 rfl [.slice none 0 0, .bool false] _ (range2 (set2' z0 z1).1 (set2' z0 z1).2) Try.underlying24 rfl (by kernel_rfl)) rfl ?_
    exact ⟨none, 0, 0, _, by rw [HRr.out, HE.out]; rfl, by rw [HRr.out]; exact Sl.nil _ _ _, by rw [HLl.out]; exact OwnL.nil _ _ _ _ _, (HB1.setCell (by simp) _).setCell (by simp) _⟩
  rw [chkF_ok hk]
  by_cases hbig : 65535 < n
  · have HE := hid (show fdE r xs = 4 from by unfold fdE; rw [if_neg (by simpa using hk), if_pos (by rw [HL.out]; exact hbig)])
    have HRr := hid (show fdR r xs = ⟨[], false⟩ from if_neg (by rw [HE.out]; decide))
    have HLl := hid (show fdL r xs = [] from if_neg (by rw [HE.out]; decide))
    have hbig' : (65535 : Int) < (n : Int) := by omega
    clear hk
    go_wp2
    refine bodyPost_ret_by (results_ctt rfl _ _ (w.heap.size + 1) 0 rfl [.slice none 0 0, .bool false] _ (range2 (set2' z0 z1).1 (set2' z0 z1).2) Try.underlying24 rfl (by kernel_rfl)) rfl ?_
    exact ⟨none, 0, 0, _, by rw [HRr.out, HE.out]; rfl, by rw [HRr.out]; exact Sl.nil _ _ _, by rw [HLl.out]; exact OwnL.nil _ _ _ _ _, (HB1.setCell (by simp) _).setCell (by simp) _⟩
  have HE := hid (show fdE r xs = 0 from by unfold fdE; rw [if_neg (by simpa using hk), if_neg (by rw [HL.out]; exact hbig)])
  have HRr := hid (show fdR r xs = (feedS r xs).1 from if_pos HE.out)
  have HLl := hid (show fdL r xs = (feedS r xs).2 from if_pos HE.out)
  have hbig' : decide ((65535 : Int) < (n : Int)) = false := by simp; omega
  have HK := hid hk
  have hn : n ≤ 65535 := by omega
  clear hk hbig z0 z1 f0 f1
  go_wp2
  go_loopw [7, 23] (fun u i wr => ∃ j : Nat, j ≤ n ∧ i = .int .i64 j ∧ FeedInv w r xs u j wr) (fun _ i _ => n - (intOf i).toNat)
  case atStart => exact ⟨0, Nat.zero_le _, rfl, A0, n0, c0, by simpa [feedS_nil] using V0, V1, by simpa [feedS_nil] using (HV.out.keep fun _ hp => HB1.cell hp).wide fun _ hb => Nat.lt_of_lt_of_le hb HB1.size, by simpa [feedS_nil] using OwnL.nil _ _ _ _ _, HB1⟩
  case round =>
    obtain ⟨j, hj, rfl, A', n', c', X0, X1, hs', hown, hbel⟩ := hrel
    have hfok := feedS_ok (xs.take j) r HK.out HRB.out (oct_take HOC.out j)
    have hn' : n' ≤ 4097 := by rw [← hs'.len]; exact ok_len hfok.1
    have y0 := X0.c0
    have y1 := X0.c1
    have hsz := X1.lt
    have HF := hid hfok
    clear hfok
    have hlj := feedS_texts (xs.take j) r
    have hlj' : (xs.take j).length ≤ 65535 := Nat.le_trans (List.length_take_le _ _) (by omega)
    generalize hG : feedS r (xs.take j) = p at *
    obtain ⟨⟨Bj, bj⟩, lj⟩ := p
    simp only at *
    by_cases hlt : j < n
    · obtain ⟨b, off, rfl, hb, hcell⟩ := HR.out.at_ (by omega)
      have hc := (hbel.cell (p := ⟨b, off + j, none⟩) hb).trans (hcell j hlt)
      have hx := HOC.out _ (nth_mem (xs := xs) (j := j) (by rw [HL.out]; exact hlt))
      by_cases hbad : bj = true
      · subst hbad
        clear hcell
        have HX := hid (show feedS r xs = (⟨Bj, true⟩, lj) from by rw [← hG]; exact feedS_stop (by rw [hG]))
        have z0 := X1.c0
        have z1 := X1.c1
        have f0 := X1.f 0
        have f1 := X1.f 1
        have RJ := hid ((hs'.rd (B := wr.heap.size) fun _ h => h).drew)
        have hg0 : w.heap.size < wr.heap.size := by omega
        have hq1 : ([] : List Int).length + n' < 140737488355328 := by simp; omega
        have hq2 : (([] : List Int).length + n') * 1 ≤ 140737488355328 := by simp; omega
        go_wp2_with fail
        go_region_held3 (fun w' => w'.cell? ⟨w.heap.size, 0, none⟩ = some (.slice A' n' c') ∧ w'.cell? ⟨w.heap.size, 1, none⟩ = some (.bool true) ∧ (w'.cell? ⟨w.heap.size + 1, 0, none⟩).isSome = true ∧ (w'.cell? ⟨w.heap.size + 1, 1, none⟩).isSome = true ∧ w'.frozen? ⟨w.heap.size + 1, 0, none⟩ = false ∧ w'.frozen? ⟨w.heap.size + 1, 1, none⟩ = false)
          (first | exact ⟨y0, y1, by rw [z0]; rfl, by rw [z1]; rfl, f0, f1⟩ | exact ⟨a0, a1, by rw [b0]; rfl, by rw [b1]; rfl, g0, g1⟩ | exact ⟨by rw [World.cell?_setCell_far _ _ _ _ (by simp), World.cell?_setCell_far _ _ _ _ (by simp)]; exact a0, by rw [World.cell?_setCell_far _ _ _ _ (by simp), World.cell?_setCell_far _ _ _ _ (by simp)]; exact a1, by rw [(set2' b0 b1).1]; rfl, by rw [(set2' b0 b1).2]; rfl, by simp [g0], by simp [g1]⟩ | go_keep)
          (first
            | (refine step_cat (by rfl) (.const (.slice none 0 0)) (.tmp 44) 22 (by rfl) wr.heap.size 5 .u8 1 Try.underlying22 Try.infoU8 (.slice none 0 0) [] wr.heap.size A' n' c' Bj (by rfl) (by rfl) (Own.nil _ _ _ _) RJ.out (Nat.le_refl _) hq2 hq1 ?_; intro v5 w5 hown5 hext5; obtain ⟨A5, n5, c5, rfl, hs5⟩ := hown5.slI; have hb5 : Below wr.heap.size wr w5 := (Below.refl wr.heap.size wr).drew.trans hext5.of_nil; have U0 := X0.keep hb5 hg0; have U1 := X1.keep hb5 hsz; have a0 := U0.c0; have a1 := U0.c1; have b0 := U1.c0; have b1 := U1.c1; have g0 := U1.f 0; have g1 := U1.f 1))
        have HSF := hid (((hs5.setLow (b := w.heap.size + 1) hsz 0 (.slice A5 n5 c5)).setLow (b := w.heap.size + 1) hsz 1 (.bool true)).low (l' := w.heap.size) (by omega))
        have HOF := hid ((((hown.keep hb5).setLow (b := w.heap.size + 1) (by omega) (by omega) 0 (.slice A5 n5 c5)).setLow (b := w.heap.size + 1) (by omega) (by omega) 1 (.bool true)).lows (base' := w.heap.size) (lo' := w.heap.size) (by omega) (by omega))
        have HBF := hid (((hbel.trans (hb5.mono (by omega))).setCell (p := ⟨w.heap.size + 1, 0, none⟩) (by simp) (.slice A5 n5 c5)).setCell (p := ⟨w.heap.size + 1, 1, none⟩) (by simp) (.bool true))
        go_wp2
        refine bodyPost_ret_by (results_ctt rfl _ _ (w.heap.size + 1) 0 rfl [.slice A5 n5 c5, .bool true] _ (range2 (set2' b0 b1).1 (set2' b0 b1).2) Try.underlying24 rfl (by kernel_rfl)) rfl ?_
        exact ⟨A5, n5, c5, _, by rw [HRr.out, HX.out, HE.out]; rfl, by rw [HRr.out, HX.out]; simpa using HSF.out, by rw [HLl.out, HX.out]; exact HOF.out, HBF.out⟩
      · have hbad' : bj = false := by simpa using hbad
        subst hbad'
        have HT := hid (feedS_take (r := r) (xs := xs) (j := j) (by rw [HL.out]; exact hlt) (by rw [hG]))
        rw [hG] at HT
        simp only at HT
        clear hcell hbad
        generalize nth xs j = x at *
        have HOCT := hid (octet_any A' n' c' Bj false x wr hs' (by omega) hx)
        generalize octS Bj x = o at *
        obtain ⟨⟨B2, b2⟩, l2⟩ := o
        simp only at *
        go_wp2_with fail
        with_reducible refine HOCT.out.mono ?_
        rintro e w2 ⟨A1, n1, c1, A2, n2, c2, rfl, hsB, hT, hb2⟩
        simp only at *
        have U0 := X0.call hb2
        have U1 := X1.call hb2
        have u0 := U0.c0
        have u1 := U0.c1
        have e0 := U0.f 0
        have e1 := U0.f 1
        have hz2 := hb2.size
        have hgw2 : w.heap.size < w2.heap.size := by omega
        have hown3 := ((hown.keep hb2).setLow (b := w.heap.size) (by omega) (by omega) 0 (.slice A1 n1 c1)).setLow (b := w.heap.size) (by omega) (by omega) 1 (.bool b2)
        have T0 := U0.set (.slice A1 n1 c1) (.bool b2)
        have T1 := (U1.setOther (b := w.heap.size) (by omega) 0 (.slice A1 n1 c1)).setOther (b := w.heap.size) (by omega) 1 (.bool b2)
        have hsB3 := (hsB.setLow (b := w.heap.size) (by omega) 0 (.slice A1 n1 c1)).setLow (b := w.heap.size) (by omega) 1 (.bool b2)
        have hBel3 : Below w.heap.size w ((w2.setCell ⟨w.heap.size, 0, none⟩ (.slice A1 n1 c1)).setCell ⟨w.heap.size, 1, none⟩ (.bool b2)) := ((hbel.trans (hb2.mono (by omega))).setCell (by simp) _).setCell (by simp) _
        have hW3 : ((w2.setCell ⟨w.heap.size, 0, none⟩ (.slice A1 n1 c1)).setCell ⟨w.heap.size, 1, none⟩ (.bool b2)).heap.size = w2.heap.size := by simp
        have HW3 := hid hW3
        have HS := hid (And.intro hown3 (And.intro T0 (And.intro T1 (And.intro hsB3 hBel3))))
        clear hown3 T0 T1 hsB3 hBel3 hW3
        rcases hT with rfl | ⟨t, rfl, hsT⟩
        · have dn : decide (([] : List (List Int)) ≠ []) = false := by simp
          rw [dn]
          clear dn
          go_wp2
          go_roundw
          case rel =>
            obtain ⟨hown3, T0, T1, hsB3, hBel3⟩ := HS.out
            generalize ((w2.setCell ⟨w.heap.size, 0, none⟩ (.slice A1 n1 c1)).setCell ⟨w.heap.size, 1, none⟩ (.bool b2)) = W3 at *
            have hAl := bel_alloc (Below.refl W3.heap.size W3) (Obj.cells #[.slice A1 n1 c1, .bool b2] 24)
            refine ⟨j + 1, by omega, by go_num, A1, n1, c1, ?_, T1.call hAl, ?_, ?_, hBel3.trans (hAl.mono hBel3.size)⟩
            · rw [HT.out]; exact T0.call hAl
            · rw [HT.out]; exact (hsB3.keep fun p hp => hAl.cell hp.2.1).wide fun b hb => Nat.lt_of_lt_of_le hb.2.1 hAl.size
            · rw [HT.out]; simpa using hown3.keep hAl
          case measure => simp [intOf]; omega
        · have dn : decide ([t] ≠ []) = true := by simp
          rw [dn]
          have hsT3 := (hsT.setLow (b := w.heap.size) (by omega) 0 (.slice A1 n1 c1)).setLow (b := w.heap.size) (by omega) 1 (.bool b2)
          have HST := hid hsT3
          have hown3 := HS.out.1
          have hlj2 : lj.length ≤ 65535 := by omega
          have HWW := hid (fun (o o' : Obj) => bel_alloc (bel_alloc (Below.refl ((w2.setCell ⟨w.heap.size, 0, none⟩ (.slice A1 n1 c1)).setCell ⟨w.heap.size, 1, none⟩ (.bool b2)).heap.size ((w2.setCell ⟨w.heap.size, 0, none⟩ (.slice A1 n1 c1)).setCell ⟨w.heap.size, 1, none⟩ (.bool b2))) o) o')
          have HNEW := hid (fun (o o' : Obj) => (show ((((w2.setCell ⟨w.heap.size, 0, none⟩ (.slice A1 n1 c1)).setCell ⟨w.heap.size, 1, none⟩ (.bool b2)).alloc o).alloc o').heap[w2.heap.size + 1]? = some o' from by
            have h9 := alloc2_new ((w2.setCell ⟨w.heap.size, 0, none⟩ (.slice A1 n1 c1)).setCell ⟨w.heap.size, 1, none⟩ (.bool b2)) o o'
            rwa [HW3.out] at h9))
          have HREP := hid (show lay_Txt.rep ((w2.setCell ⟨w.heap.size, 0, none⟩ (.slice A1 n1 c1)).setCell ⟨w.heap.size, 1, none⟩ (.bool b2)) (From ((w2.setCell ⟨w.heap.size, 0, none⟩ (.slice A1 n1 c1)).setCell ⟨w.heap.size, 1, none⟩ (.bool b2)) wr.heap.size) t (#[.slice A2 n2 c2] : Array Value).toList from ⟨A2, n2, c2, rfl, HST.out⟩)
          have HEL := hid (fun (b : Nat) (hb : From ((w2.setCell ⟨w.heap.size, 0, none⟩ (.slice A1 n1 c1)).setCell ⟨w.heap.size, 1, none⟩ (.bool b2)) wr.heap.size b) => (show Els ((w2.setCell ⟨w.heap.size, 0, none⟩ (.slice A1 n1 c1)).setCell ⟨w.heap.size, 1, none⟩ (.bool b2)) (some (w.heap.size + 2)) u7 b from ⟨⟨by have := hb.1; omega, hb.2.2⟩, hb.2.1, fun he => by have h9 := hown.lt he.symm; have h8 := hb.1; omega⟩))
          have hzz : w.heap.size + 2 ≤ ((w2.setCell ⟨w.heap.size, 0, none⟩ (.slice A1 n1 c1)).setCell ⟨w.heap.size, 1, none⟩ (.bool b2)).heap.size := by rw [HW3.out]; omega
          have HZZ := hid hzz
          have HOWN3 := hid hown3
          have hq3 : (lj.length + 1) * 24 ≤ 140737488355328 := by omega
          have hq4 : lj.length + 1 ≤ maxLen := by unfold maxLen; omega
          clear dn hsT3 hzz hown3
          go_wp2_with (at_builtin; go_must (refine wpList_pushG (L := lay_Txt) (w := (w2.setCell ⟨w.heap.size, 0, none⟩ (.slice A1 n1 c1)).setCell ⟨w.heap.size, 1, none⟩ (.bool b2)) rfl (.tmp 38) (.tmp 40) 29 rfl (w.heap.size + 2) (some (w.heap.size + 2)) 22 _ 24 Try.underlying29 Try.infoTxt rfl (by decide) u7 lj t #[.slice A2 n2 c2] (From ((w2.setCell ⟨w.heap.size, 0, none⟩ (.slice A1 n1 c1)).setCell ⟨w.heap.size, 1, none⟩ (.bool b2)) wr.heap.size) (w2.heap.size + 1) rfl rfl (HWW.out _ _) (HNEW.out _ _) HOWN3.out HREP.out HEL.out HZZ.out hq3 hq4 ?_; intro v6 w6 hown6 hext6))
          go_roundw
          case rel =>
            obtain ⟨hown3, T0, T1, hsB3, hBel3⟩ := HS.out
            have hZ := HZZ.out
            have hWW := HWW.out (Obj.cells #[.slice A1 n1 c1, .bool b2] 24) (Obj.cells #[.slice A2 n2 c2] 22)
            generalize ((w2.setCell ⟨w.heap.size, 0, none⟩ (.slice A1 n1 c1)).setCell ⟨w.heap.size, 1, none⟩ (.bool b2)) = W3 at *
            have hE := (hown3.keep hWW).below hext6 (Nat.le_trans hZ hWW.size)
            have hT6 := (hWW.mono hZ).trans hE
            have hne : ∀ k, From W3 wr.heap.size k → some k ≠ u7.ownBlock := fun k hk he => by have h9 := hown.lt he.symm; have h8 := hk.1; omega
            refine ⟨j + 1, by omega, by go_num, A1, n1, c1, ?_, T1.keep hT6 (by omega), ?_, ?_, hBel3.trans (hT6.mono (by omega))⟩
            · rw [HT.out]; exact T0.keep hT6 (by omega)
            · rw [HT.out]
              exact ((hsB3.keep fun p hp => (hWW.cell hp.2.1)).keep (w' := w6) fun p hp => World.cell?_of_block (hext6.1.block p.block (Nat.lt_of_lt_of_le hp.2.1 hWW.size) (hne _ hp))).wide fun b hb => Nat.lt_of_lt_of_le hb.2.1 (Nat.le_trans hWW.size hext6.size)
            · rw [HT.out]; exact hown6
          case measure => simp [intOf]; omega
    · have HX := hid (show feedS r xs = (⟨Bj, bj⟩, lj) from by rw [← hG, List.take_of_length_le (by rw [HL.out]; omega)])
      have z0 := X1.c0
      have z1 := X1.c1
      have f0 := X1.f 0
      have f1 := X1.f 1
      have RJ := hid ((hs'.rd (B := wr.heap.size) fun _ h => h).drew)
      have hg0 : w.heap.size < wr.heap.size := by omega
      have hq1 : ([] : List Int).length + n' < 140737488355328 := by simp; omega
      have hq2 : (([] : List Int).length + n') * 1 ≤ 140737488355328 := by simp; omega
      go_wp2_with fail
      go_region_held3 (fun w' => w'.cell? ⟨w.heap.size, 0, none⟩ = some (.slice A' n' c') ∧ w'.cell? ⟨w.heap.size, 1, none⟩ = some (.bool bj) ∧ (w'.cell? ⟨w.heap.size + 1, 0, none⟩).isSome = true ∧ (w'.cell? ⟨w.heap.size + 1, 1, none⟩).isSome = true ∧ w'.frozen? ⟨w.heap.size + 1, 0, none⟩ = false ∧ w'.frozen? ⟨w.heap.size + 1, 1, none⟩ = false)
        (first | exact ⟨y0, y1, by rw [z0]; rfl, by rw [z1]; rfl, f0, f1⟩ | exact ⟨a0, a1, by rw [b0]; rfl, by rw [b1]; rfl, g0, g1⟩ | exact ⟨by rw [World.cell?_setCell_far _ _ _ _ (by simp), World.cell?_setCell_far _ _ _ _ (by simp)]; exact a0, by rw [World.cell?_setCell_far _ _ _ _ (by simp), World.cell?_setCell_far _ _ _ _ (by simp)]; exact a1, by rw [(set2' b0 b1).1]; rfl, by rw [(set2' b0 b1).2]; rfl, by simp [g0], by simp [g1]⟩ | go_keep)
        (first
          | (refine step_cat (by rfl) (.const (.slice none 0 0)) (.tmp 44) 22 (by rfl) wr.heap.size 5 .u8 1 Try.underlying22 Try.infoU8 (.slice none 0 0) [] wr.heap.size A' n' c' Bj (by rfl) (by rfl) (Own.nil _ _ _ _) RJ.out (Nat.le_refl _) hq2 hq1 ?_; intro v5 w5 hown5 hext5; obtain ⟨A5, n5, c5, rfl, hs5⟩ := hown5.slI; have hb5 : Below wr.heap.size wr w5 := (Below.refl wr.heap.size wr).drew.trans hext5.of_nil; have U0 := X0.keep hb5 hg0; have U1 := X1.keep hb5 hsz; have a0 := U0.c0; have a1 := U0.c1; have b0 := U1.c0; have b1 := U1.c1; have g0 := U1.f 0; have g1 := U1.f 1))
      have HSF := hid (((hs5.setLow (b := w.heap.size + 1) hsz 0 (.slice A5 n5 c5)).setLow (b := w.heap.size + 1) hsz 1 (.bool bj)).low (l' := w.heap.size) (by omega))
      have HOF := hid ((((hown.keep hb5).setLow (b := w.heap.size + 1) (by omega) (by omega) 0 (.slice A5 n5 c5)).setLow (b := w.heap.size + 1) (by omega) (by omega) 1 (.bool bj)).lows (base' := w.heap.size) (lo' := w.heap.size) (by omega) (by omega))
      have HBF := hid (((hbel.trans (hb5.mono (by omega))).setCell (p := ⟨w.heap.size + 1, 0, none⟩) (by simp) (.slice A5 n5 c5)).setCell (p := ⟨w.heap.size + 1, 1, none⟩) (by simp) (.bool bj))
      go_wp2
      refine bodyPost_ret_by (results_ctt rfl _ _ (w.heap.size + 1) 0 rfl [.slice A5 n5 c5, .bool bj] _ (range2 (set2' b0 b1).1 (set2' b0 b1).2) Try.underlying24 rfl (by kernel_rfl)) rfl ?_
      exact ⟨A5, n5, c5, _, by rw [HRr.out, HX.out, HE.out]; rfl, by rw [HRr.out, HX.out]; simpa using HSF.out, by rw [HLl.out, HX.out]; exact HOF.out, HBF.out⟩
end Go.Proofs.Ytbcahbgdjoahaaa
