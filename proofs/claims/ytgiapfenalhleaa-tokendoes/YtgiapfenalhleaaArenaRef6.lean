/-
  The contract of the document's Find.
-/
import Derived.Test.YtgiapfenalhleaaArenaRef5
namespace Go.Proofs.Ytgiapfenalhleaa
open Go.RowKit Go.WalkArith

/-- A literal of one element, just laid; the element reaches what it may. -/
theorem OwnL.lit1 {α : Type} {L : Lay α} {w : World} {S : Nat → Prop} {x : α} {u : Value} (e : TypeId) (lo : Option Nat) (h1 : L.size = 1) (hr : L.rep w S x [u]) (hS : ∀ b, S b → New w lo b ∧ b < w.heap.size) :
    OwnL L (w.alloc (.cells #[u] e)) w.heap.size lo e (.slice (some ⟨w.heap.size, 0, none⟩) 1 1) [x] := by
  have hb : Below w.heap.size w (w.alloc (.cells #[u] e)) := bel_alloc (Below.refl _ _) _
  refine ⟨[u], ⟨by rw [h1]; rfl, .inr ⟨w.heap.size, 1, #[u], rfl, Nat.le_refl _, heap_alloc_new w _, Nat.le_refl _, by simp [maxLen], by rw [h1]; rfl, by rw [h1]; rfl⟩⟩, RepRow.single ?_⟩
  refine L.wide (L.keep hr fun p hp => hb.cell (hS _ hp).2) fun b hb' => ?_
  have h2 := hS b hb'
  exact ⟨h2.1.of_block (hb.block b h2.2), Nat.lt_of_lt_of_le h2.2 hb.size, fun he => by simp [Value.ownBlock] at he; omega⟩

theorem goTo_take {l : List Trm} {ts : List (List Int)} {a : Int} {j : Nat} (hj : j < ts.length) : goTo l a (ts.take (j + 1)) = if 0 ≤ goTo l a (ts.take j) then seat l (nextT (goTo l a (ts.take j)) ts[j]) else goTo l a (ts.take j) := by
  rw [List.take_succ_eq_append_getElem hj, goTo_append]
  rfl
theorem short_take {ts : List (List Int)} {j : Nat} (hj : j < ts.length) (h : ∀ t ∈ ts.take j, t.length ≤ 4096) (e : ts[j].length ≤ 4096) : ∀ t ∈ ts.take (j + 1), t.length ≤ 4096 := fun t ht => by
  rw [List.take_succ_eq_append_getElem hj] at ht
  rcases List.mem_append.1 ht with ht | ht
  · exact h t ht
  · simp at ht; rw [ht]; exact e

set_option maxRecDepth 100000 in
set_option maxHeartbeats 2000000 in
theorem refFindA_any (s1 : Array Value) (l : List Trm) (k : Int) (A : Option Addr) (n c : Nat) (t : List Int) (A2 : Option Addr) (n2 c2 : Nat) (ts : List (List Int)) (w : World) (g1 : lay_Arena.rep w (· < w.heap.size) l s1.toList) (hk : (Lit.int .u64 k).wf = true) (hr : Sl (Lay.int .u8) w (· < w.heap.size) A n c t) (hts : Sl lay_Txt w (· < w.heap.size) A2 n2 c2 ts) (hn2 : n2 ≤ 1000) :
    Calls Try.prog 46 #[.agg s1, .int .u64 k, .slice A n c, .slice A2 n2 c2] w fun e w' => e = .returned (.tuple #[.int .i64 (findI l k t ts), .int .i64 (findE l k t ts)]) ∧ Below w.heap.size w w' := by
  obtain ⟨A1, n1, c1, rfl, hA⟩ := agg_Arena g1
  clear g1
  have HL2 := hid hts.len
  have hc1 := hA.cap
  unfold maxLen at hc1
  have hb0 : Below w.heap.size w (w.alloc (Obj.cells #[.slice A1 n1 c1] 24)) := bel_alloc (Below.refl _ _) _
  have hx0 := heap_alloc_new w (Obj.cells #[.slice A1 n1 c1] 24)
  have PA := hid (fun (W : World) (h : Below w.heap.size w W) => (hA.keep fun _ hp => h.cell hp).wide (S' := (· < W.heap.size)) fun b hb => Nat.lt_of_lt_of_le hb h.size)
  have PT := hid (fun (W : World) (h : Below w.heap.size w W) => (hr.keep fun _ hp => h.cell hp).wide (S' := (· < W.heap.size)) fun b hb => Nat.lt_of_lt_of_le hb h.size)
  have PS := hid (fun (W : World) (h : Below w.heap.size w W) => (hts.keep fun _ hp => h.cell hp).wide (S' := (· < W.heap.size)) fun b hb => Nat.lt_of_lt_of_le hb h.size)
  clear hA hr hts
  by_cases hok : ArOk l
  rotate_left
  · have hE : findE l k t ts = 1 := if_neg hok
    have HI := hid (show findI l k t ts = 0 from if_neg (by rw [hE]; decide))
    have HE := hid hE
    have HAR := hid (show arE l = 1 from if_neg hok)
    clear hE
    go_enter Try.func46, Try.ntmps46
    go_wp2_with (go_at_call 42; go_must (refine (refCheckA_any _ l _ (rep_Arena.2 ⟨_, _, _, rfl, PA.out _ hb0⟩)).mono ?_; rw [HAR.out]; rintro e w1 ⟨rfl, hb1⟩))
    go_ret2
    exact ⟨by rw [HE.out, HI.out]; rfl, bel_call hb0 hb1⟩
  have HAR := hid (show arE l = 0 from if_pos hok)
  go_enter Try.func46, Try.ntmps46
  have hel : ∀ w1 : World, ∀ b, b < w1.heap.size → Els (w1.alloc (Obj.cells #[.slice A n c] 46)) none (.slice (some ⟨w1.heap.size, 0, none⟩) 1 1) b := fun w1 b hb => ⟨trivial, by simp; omega, fun he => by simp [Value.ownBlock] at he; omega⟩
  go_wp2_with (first | (go_at_call 42; go_must (refine (refCheckA_any _ l _ (rep_Arena.2 ⟨_, _, _, rfl, PA.out _ hb0⟩)).mono ?_; rw [HAR.out]; rintro e w1 ⟨rfl, hb1⟩; have HB1 := bel_call hb0 hb1)) | (at_builtin; refine wpList_catL rfl (.tmp 19) (.tmp 20) 56 rfl w1.heap.size none 46 _ 24 Try.underlying56 Try.infoTxt rfl (by decide) (.slice (some ⟨w1.heap.size, 0, none⟩) 1 1) [t] ts (· < w1.heap.size) A2 n2 c2 rfl rfl (OwnL.lit1 46 none rfl ⟨A, n, c, rfl, PT.out w1 HB1⟩ (fun b hb => ⟨trivial, hb⟩)) ((PS.out w1 HB1).keep fun p hp => (bel_alloc (Below.refl w1.heap.size w1) _).cell hp) (hel w1) (by simp) (by simp; omega) (by unfold maxLen; simp; omega) ?_; intro v3 w3 ho3 hx3; obtain ⟨A3, n3, c3, rfl, hs3⟩ := ho3.read))
  have hl3 : n3 = n2 + 1 := by have := hs3.len; simp at this; rw [HL2.out] at this; omega
  subst hl3
  have hb3 : Below w1.heap.size w1 w3 := (bel_alloc (Below.refl _ _) _).trans ((OwnL.lit1 46 none rfl (L := lay_Txt) ⟨A, n, c, rfl, PT.out w1 HB1⟩ (fun b hb => ⟨trivial, hb⟩)).below hx3 (by simp))
  have HB3 : Below w.heap.size w w3 := bel_call HB1 hb3
  have Q1 := (hb1.block _ (lt_of_block hx0)).trans hx0
  have Q3 := (hb3.block _ (lt_of_block Q1)).trans Q1
  have HQ := hid Q3
  have hc3 := hs3.cap
  unfold maxLen at hc3
  clear hb1 hb3 hx3 ho3 HB1 hb0 hx0 Q1
  go_loop [23] (fun i => ∃ j : Nat, j ≤ n2 + 1 ∧ i = .int .i64 j ∧ ∀ u ∈ (t :: ts).take j, u.length ≤ 4096) (fun i => n2 + 1 - (intOf i).toNat)
  case atStart => exact ⟨0, Nat.zero_le _, rfl, by simp⟩
  case round =>
    obtain ⟨j, hj, rfl, hpre⟩ := hrel
    have HP := hid hpre
    clear hpre Q3
    by_cases hlt : j < n2 + 1
    · obtain ⟨b1, o1, A', n', c', hx1, rfl, hb1, t1, hV1⟩ := txt_atA hs3 hlt
      have HX := hid hV1.len
      have hcv := hV1.cap
      unfold maxLen at hcv
      clear hV1
      by_cases g : 4096 < n'
      · have d : (4096 : Int) < (n' : Int) := by omega
        have hE : findE l k t ts = 4 := by
          rw [findE, if_pos hok, if_neg]
          intro hsh
          have := hsh _ (List.getElem_mem hx1)
          rw [HX.out] at this
          omega
        have HI := hid (show findI l k t ts = 0 from if_neg (by rw [hE]; decide))
        have HE := hid hE
        clear hE
        go_wp2
        go_ret2
        exact ⟨by rw [HE.out, HI.out]; rfl, HB3⟩
      · have d : decide ((4096 : Int) < (n' : Int)) = false := by simp; omega
        have HN := hid (short_take (ts := t :: ts) hx1 HP.out (by show ([t] ++ ts)[j].length ≤ 4096; rw [HX.out]; omega))
        go_wp2
        go_round
        case rel => exact ⟨j + 1, by omega, by go_num, HN.out⟩
        case measure => simp [intOf]; omega
    · have hsh : shortT (t :: ts) := by
        have := HP.out
        rw [List.take_of_length_le (by simp; rw [HL2.out]; omega)] at this
        exact this
      have hFE : findE l k t ts = if 0 ≤ goTo l (seat l (rootT k t)) ts then 0 else 5 := by rw [findE, if_pos hok, if_pos hsh]
      have HFE := hid hFE
      clear HP hsh hFE
      have z3 := cell_of_one HQ.out
      have hdz : decide ((j : Int) < ((n2 + 1 : Nat) : Int)) = false := by simp; omega
      have hdz2 : decide ((j : Int) < (n2 : Int) + 1) = false := by simp; omega
      go_wp2_with (go_at_call 75; go_must (refine (refPlace_any _ _ _ _ l (rootT k t) w3 (PA.out w3 HB3) (rep_Term.2 ⟨A, n, c, rfl, hk, (show (Lit.int .i64 (-1)).wf = true from by decide), PT.out w3 HB3⟩)).mono ?_; rintro e w4 ⟨rfl, hb4⟩))
      have HB4 := bel_call HB3 hb4
      have Q4 := (hb4.block _ (lt_of_block HQ.out)).trans HQ.out
      have hbd0 := seat_bd (l := l) (rootT k t)
      clear z3 hb4 hdz hdz2
      go_loopw [12, 39] (fun a i wr => ∃ j : Nat, j ≤ n2 ∧ i = .int .i64 j ∧ a = .int .i64 (goTo l (seat l (rootT k t)) (ts.take j)) ∧ wr.heap[w.heap.size]? = some (Obj.cells #[.slice A1 n1 c1] 24 (0, 0)) ∧ Below w.heap.size w wr) (fun _ i _ => n2 - (intOf i).toNat)
      case atStart => exact ⟨0, Nat.zero_le _, rfl, rfl, Q4, HB4⟩
      case round =>
        obtain ⟨i, hi, rfl, rfl, hv, hbel⟩ := hrel
        clear Q4 HB4
        have z := cell_of_one hv
        have hgb := goTo_bd (l := l) (ts.take i) hbd0.1 hbd0.2
        have hn1 : l.length = n1 := (PA.out wr hbel).len
        rw [hn1] at hgb
        by_cases hlt2 : i < n2
        · obtain ⟨b1, o1, A', n', c', hx1, rfl, hb1, t1, hV1⟩ := txt_atA (PS.out wr hbel) hlt2
          have HG := hid (goTo_take (l := l) (a := seat l (rootT k t)) hx1)
          have PV := hid hV1
          clear hV1
          generalize goTo l (seat l (rootT k t)) (ts.take i) = a at *
          by_cases ha : 0 ≤ a
          · have HG2 := hid (HG.out.trans (if_pos ha))
            have hwa : (Lit.int .i64 a).wf = true := wf_i64 (by omega)
            clear HG
            go_wp2_with (go_at_call 75; go_must (refine (refPlace_any _ _ _ _ l (nextT a ts[i]) wr (PA.out wr hbel) (rep_Term.2 ⟨A', n', c', rfl, (show (Lit.int .u64 0).wf = true from by decide), hwa, PV.out⟩)).mono ?_; rintro e w5 ⟨rfl, hb5⟩))
            go_roundw
            case rel => exact ⟨i + 1, by omega, by go_num, by rw [HG2.out], (hb5.block _ (lt_of_block hv)).trans hv, bel_call hbel hb5⟩
            case measure => simp [intOf]; omega
          · have HG2 := hid (HG.out.trans (if_neg ha))
            have hda : decide (0 ≤ a) = false := by simpa using ha
            clear HG ha
            go_wp2
            go_roundw
            case rel => exact ⟨i + 1, by omega, by go_num, by rw [HG2.out], hv, hbel⟩
            case measure => simp [intOf]; omega
        · have hti : ts.take i = ts := List.take_of_length_le (by rw [HL2.out]; omega)
          rw [hti] at hgb ⊢
          clear hti
          by_cases ha : 0 ≤ goTo l (seat l (rootT k t)) ts
          · have hE := HFE.out.trans (if_pos ha)
            have HI := hid (show findI l k t ts = goTo l (seat l (rootT k t)) ts from if_pos hE)
            have HE := hid hE
            have hda : decide (goTo l (seat l (rootT k t)) ts < 0) = false := by simp; omega
            clear hE HFE ha
            generalize goTo l (seat l (rootT k t)) ts = a at *
            go_wp2
            go_ret2
            exact ⟨by rw [HE.out, HI.out]; rfl, hbel⟩
          · have hE := HFE.out.trans (if_neg ha)
            have HI := hid (show findI l k t ts = 0 from if_neg (by rw [hE]; decide))
            have HE := hid hE
            have hda : goTo l (seat l (rootT k t)) ts < 0 := by omega
            clear hE HFE ha
            generalize goTo l (seat l (rootT k t)) ts = a at *
            go_wp2
            go_ret2
            exact ⟨by rw [HE.out, HI.out]; rfl, hbel⟩
end Go.Proofs.Ytgiapfenalhleaa
