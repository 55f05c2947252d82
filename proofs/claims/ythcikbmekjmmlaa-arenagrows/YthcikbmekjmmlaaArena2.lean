/-
  The contracts of package arena's places, and Check.
-/
import Derived.Test.YthcikbmekjmmlaaArena1
namespace Go.Proofs.Ythcikbmekjmmlaa
open Go.RowKit Go.WalkArith

theorem run_makeMapN (n : Nat) (w : World) : (Instr.makeMap 54 (some (.int .i64 (n : Int)))).run Try.prog w = .ok (.map (some w.heap.size)) (w.alloc (.map #[] 0)) := by
  simp [Instr.makeMap, asInt, asIntOf]

theorem nodup_plc {l : List Trm} : l.Nodup ↔ ∀ i (hi : i < l.length), plc l[i] l = i := by
  constructor
  · intro h i hi
    refine plc_of hi rfl fun k hk e => ?_
    have := (List.getElem_inj (h₀ := by omega) (h₁ := hi) h).1 e
    omega
  · intro h
    rw [List.nodup_iff_pairwise_ne, List.pairwise_iff_getElem]
    intro i j hi hj hij e
    have h1 := h i hi
    rw [e, h j hj] at h1
    omega
theorem arE_no {l : List Trm} {j : Nat} (hj : j < l.length) (h : ¬ Fit j l[j]) : arE l = 1 := if_neg fun k => h (k.2 j hj hj).1
theorem arE_dup {l : List Trm} (h : ¬ l.Nodup) : arE l = 1 := if_neg fun k => h (nodup_plc.2 fun i hi => (k.2 i hi hi).2)
theorem arE_yes {l : List Trm} (h1 : l.length ≤ 1048576) (h2 : ∀ i (hi : i < l.length), Fit i l[i]) (h3 : l.Nodup) : arE l = 0 := if_pos ⟨h1, fun i hi _ => ⟨h2 i hi, nodup_plc.1 h3 i hi⟩⟩
theorem arOk_of {l : List Trm} (h : arE l = 0) : ArOk l := by
  by_cases k : ArOk l
  · exact k
  · rw [arE, if_neg k] at h
    cases h
theorem ArOk.nodup {l : List Trm} (h : ArOk l) : l.Nodup := nodup_plc.2 fun i hi => (h.2 i hi hi).2
theorem Sl.wfI {k : IntKind} {w : World} {S : Nat → Prop} {A : Option Addr} {n c : Nat} {xs : List Int} (h : Sl (Lay.int k) w S A n c xs) : ∀ x ∈ xs, (Lit.int k x).wf = true := by
  rcases Nat.eq_zero_or_pos n with h0 | h0
  · have : xs = [] := List.eq_nil_of_length_eq_zero (by rw [h.len, h0])
    subst this; simp
  · obtain ⟨_, _, _, _, _, hr, _⟩ := h.row h0
    exact (repRow_ints.1 hr).2
theorem okTrm_of {w : World} {S : Nat → Prop} {x : Trm} {cs : List Value} (h : lay_Term.rep w S x cs) (hl : x.Text.length ≤ 4096) : OkTrm x := by
  obtain ⟨A, n, c, -, h1, h2, h3⟩ := rep_Term.1 h
  exact ⟨h1, h2, h3.wfI, hl⟩
theorem grown_below {B b : Nat} {w w' : World} (h : w.grownBy w' (some b)) (hb : B ≤ b) (hB : B ≤ w.heap.size) : Below B w w' := ⟨h.os, h.tape, h.output, h.size, fun i hi => h.block i (by omega) (fun e => by injection e with e; omega)⟩

set_option maxRecDepth 100000 in
set_option maxHeartbeats 2000000 in
theorem places_any (s : Array Value) (l : List Trm) (w : World) (g : lay_Arena.rep w (· < w.heap.size) l s.toList) :
    Calls Try.prog 30 #[.agg s] w fun e w' => (∃ v, e = .returned (.tuple #[v, .int .i64 (arE l)]) ∧ (arE l = 0 → ∃ b, v = .map (some b) ∧ MapTo w' b l ∧ w.heap.size ≤ b)) ∧ Below w.heap.size w w' := by
  obtain ⟨A, n, c, rfl, h⟩ := agg_Arena g
  clear g
  have HL := hid h.len
  have hcap := h.cap
  unfold maxLen at hcap
  have hb0 : Below w.heap.size w (w.alloc (Obj.cells #[.slice A n c] 24)) := bel_alloc (Below.refl _ _) _
  have hx0 := heap_alloc_new w (Obj.cells #[.slice A n c] 24)
  by_cases hbig : 1048576 < n
  · have HE := hid (show arE l = 1 from if_neg fun k => by have := k.1; rw [HL.out] at this; omega)
    have hd : (1048576 : Int) < (n : Int) := by omega
    go_enter Try.func30, Try.ntmps30
    go_wp2
    go_ret2
    exact ⟨⟨_, by rw [HE.out]; rfl, fun k => by rw [HE.out] at k; cases k⟩, hb0⟩
  have hd : decide ((1048576 : Int) < (n : Int)) = false := by simp; omega
  have hn : n ≤ 1048576 := by omega
  clear hbig
  have hmm := run_makeMapN n
  have HM := hid (mapTo_made (w.alloc (Obj.cells #[.slice A n c] 24)))
  have hsz : (w.alloc (Obj.cells #[.slice A n c] 24)).heap.size = w.heap.size + 1 := by simp
  rw [hsz] at HM
  have hb1 : Below w.heap.size w ((w.alloc (Obj.cells #[.slice A n c] 24)).alloc (Obj.map #[] 0)) := bel_alloc hb0 _
  have hx1 : ((w.alloc (Obj.cells #[.slice A n c] 24)).alloc (Obj.map #[] 0)).heap[w.heap.size]? = some (Obj.cells #[.slice A n c] 24 (0, 0)) := heap_alloc2_old _ _ _
  go_enter Try.func30, Try.ntmps30
  go_wp2
  go_loopw [18] (fun i wr => ∃ j : Nat, j ≤ n ∧ i = .int .i64 j ∧ (∀ i (hi : i < l.length), i < j → Fit i l[i]) ∧ MapTo wr (w.heap.size + 1) (l.take j) ∧ wr.heap[w.heap.size]? = some (Obj.cells #[.slice A n c] 24 (0, 0)) ∧ Below w.heap.size w wr) (fun i _ => n - (intOf i).toNat)
  case atStart => exact ⟨0, Nat.zero_le _, rfl, fun _ _ h => absurd h (by omega), by rw [List.take_zero]; exact HM.out, hx1, hb1⟩
  case round =>
    obtain ⟨j, hj, rfl, hpre, hmap, hv, hbel⟩ := hrel
    have HP := hid hpre
    have HM2 := hid hmap
    clear hpre hx0 hb0 hx1 hb1 hmap HM hmm
    have z := cell_of_one hv
    by_cases hlt : j < n
    · obtain ⟨b1, o1, A', n', c', hx1, rfl, hb1, t1, u1, v1, e1, e2, hV1⟩ := trm_at h hlt
      have q1 := (hbel.cell (p := ⟨b1, o1 + j * 3, none⟩) hb1).trans t1
      have q2 := (hbel.cell (p := ⟨b1, o1 + j * 3 + 1, none⟩) hb1).trans u1
      have q3 := (hbel.cell (p := ⟨b1, o1 + j * 3 + 2, none⟩) hb1).trans v1
      have hlb := lt_of_block hv
      have hba := hbel.alloc hbel.size (Obj.cells #[.int .u64 l[j].Key, .int .i64 l[j].Up, .slice A' n' c'] 39)
      have hxa := heap_alloc_new wr (Obj.cells #[.int .u64 l[j].Key, .int .i64 l[j].Up, .slice A' n' c'] 39)
      have P1 := hid (fun (W : World) (h : Below w.heap.size w W) => (show lay_Term.rep W (· < W.heap.size) l[j] #[.int .u64 l[j].Key, .int .i64 l[j].Up, .slice A' n' c'].toList from rep_Term.2 ⟨A', n', c', rfl, e1, e2, Sl.call hV1 h⟩))
      have HX := hid hV1.len
      clear t1 u1 v1 e1 e2 hV1
      have hsa : (wr.alloc (Obj.cells #[.int .u64 l[j].Key, .int .i64 l[j].Up, .slice A' n' c'] 39)).heap.size = wr.heap.size + 1 := by simp
      have HMS := hid (mayStand_any _ l[j] j _ (P1.out _ hba) (by omega))
      have hbw : Below wr.heap.size wr (wr.alloc (Obj.cells #[.int .u64 l[j].Key, .int .i64 l[j].Up, .slice A' n' c'] 39)) := bel_alloc (Below.refl _ _) _
      by_cases g1 : Fit j l[j]
      · rw [fitB_iff.2 g1] at HMS
        have hok : OkTrm l[j] := okTrm_of (P1.out _ hba) g1.2.2.2
        have HPN := hid (fun (i : Nat) (hi : i < l.length) (hij : i < j + 1) => (show Fit i l[i] from by
          rcases Nat.lt_or_ge i j with h1 | h1
          · exact HP.out i hi h1
          · obtain rfl : i = j := by omega
            exact g1))
        have HT := hid (List.take_succ_eq_append_getElem hx1)
        have HLT := hid (show (l.take j).length = j from by rw [List.length_take]; omega)
        clear g1
        go_wp2_with fail
        refine HMS.out.mono ?_
        rintro e w2 ⟨rfl, hb2⟩
        have V2 : Var3 w2 wr.heap.size 39 _ _ _ := (hb2.block wr.heap.size (by simp)).trans hxa
        have r0 := V2.c0
        have r1 := V2.c1
        have r2 := V2.c2
        have HB2 : Below w.heap.size w w2 := hba.trans (hb2.mono hba.size)
        have HF := hid (formOf_any _ l[j] w2 (P1.out _ HB2))
        go_wp2_with fail
        refine HF.out.mono ?_
        rintro e w3 ⟨rfl, hb3⟩
        have HB3 : Below w.heap.size w w3 := bel_call HB2 hb3
        have hw3 : Below wr.heap.size wr w3 := bel_call (bel_call hbw hb2) hb3
        obtain ⟨w4, hrun, hm4, hg4⟩ := (HM2.out.below hw3).put hok (by rw [HLT.out]; omega)
        rw [HLT.out] at hrun
        rw [← HT.out] at hm4
        have HM4 := hid hm4
        have HB4 := hid (HB3.trans (grown_below hg4 (by omega) HB3.size))
        have Hv4 := hid ((hg4.block w.heap.size (Nat.lt_of_lt_of_le hlb hw3.size) (by simp)).trans ((hw3.block w.heap.size hlb).trans hv))
        clear hm4 hg4 hb3 hb2 r0 r1 r2 V2 HF HM2
        go_wp2
        go_roundw
        case rel => exact ⟨j + 1, by omega, by go_num, HPN.out, HM4.out, Hv4.out, HB4.out⟩
        case measure => simp [intOf]; omega
      · rw [Bool.eq_false_iff.2 fun k => g1 (fitB_iff.1 k)] at HMS
        have HE := hid (arE_no hx1 g1)
        clear g1
        go_wp2_with (go_at_call 41; go_must (refine HMS.out.mono ?_; rintro e w2 ⟨rfl, hb2⟩))
        go_ret2
        exact ⟨⟨_, by rw [HE.out]; rfl, fun k => by rw [HE.out] at k; cases k⟩, hba.trans (hb2.mono hba.size)⟩
    · obtain ⟨m, hlen, hm1, hm2⟩ := HM2.out.len
      have hjn : j = n := by omega
      subst hjn
      rw [List.take_of_length_le (by rw [HL.out]; omega), HL.out] at hm1
      rw [List.take_of_length_le (by rw [HL.out]; omega), HL.out] at hm2
      have hlen' := hlen 3
      by_cases g1 : m = j
      · subst g1
        have HE := hid (arE_yes (by rw [HL.out]; exact hn) (fun i hi => HP.out i hi (by rw [HL.out] at hi; omega)) (hm2.1 rfl))
        have HM4 := hid (show MapTo wr (w.heap.size + 1) l from by have := HM2.out; rwa [List.take_of_length_le (by rw [HL.out]; omega)] at this)
        clear hm1 hm2 hlen
        go_wp2
        go_ret2
        exact ⟨⟨_, by rw [HE.out]; rfl, fun k => ⟨w.heap.size + 1, rfl, HM4.out, by omega⟩⟩, hbel⟩
      · have HE := hid (arE_dup (l := l) fun k => g1 (hm2.2 k))
        have hd2 : (m : Int) < (j : Int) := by omega
        clear hm1 hm2 hlen
        go_wp2
        go_ret2
        exact ⟨⟨_, by rw [HE.out]; rfl, fun k => by rw [HE.out] at k; cases k⟩, hbel⟩

set_option maxHeartbeats 1000000 in
theorem aCheck_any (s : Array Value) (l : List Trm) (w : World) (g : lay_Arena.rep w (· < w.heap.size) l s.toList) :
    Calls Try.prog 17 #[.agg s] w fun e w' => e = .returned (.int .i64 (arE l)) ∧ Below w.heap.size w w' := by
  obtain ⟨A, n, c, rfl, h⟩ := agg_Arena g
  clear g
  have hb0 : Below w.heap.size w (w.alloc (Obj.cells #[.slice A n c] 24)) := bel_alloc (Below.refl _ _) _
  have P := hid (Sl.call h hb0)
  go_enter Try.func17, Try.ntmps17
  go_wp2_with (go_at_call 30; go_must (refine (places_any _ l _ (rep_Arena.2 ⟨_, _, _, rfl, P.out⟩)).mono ?_; rintro e w1 ⟨⟨v, rfl, -⟩, hb1⟩))
  go_ret
  exact ⟨rfl, bel_call hb0 hb1⟩
end Go.Proofs.Ythcikbmekjmmlaa
