/-
  The contracts of package arena's places, and Check.
  The contracts of package arena's with, Root, and Next.
-/
import Derived.Laws.OwnMore
import Derived.Test.YtgiapfenalhleaaPack1
import Derived.Test.YtgiapfenalhleaaPack2
import Derived.Test.YtgiapfenalhleaaPack3
import Derived.Test.YtgiapfenalhleaaPack4
import Derived.Test.YtgiapfenalhleaaPack5
import Derived.Test.YtgiapfenalhleaaPack6
import Derived.Test.YtgiapfenalhleaaPack7
import Derived.Test.YtgiapfenalhleaaPack8
import Derived.Test.YtgiapfenalhleaaPack9
import Derived.Test.YtgiapfenalhleaaPack10
import Derived.Test.YtgiapfenalhleaaPack11
import Derived.Test.YtgiapfenalhleaaPack12
import Derived.Test.YtgiapfenalhleaaPack13
import Derived.Test.YtgiapfenalhleaaPack14
import Derived.Test.YtgiapfenalhleaaPack15
import Derived.Test.YtgiapfenalhleaaPack16
import Derived.Test.YtgiapfenalhleaaPack17
namespace Go.Proofs.Ytgiapfenalhleaa
open Go.RowKit Go.WalkArith

theorem run_makeMapN (n : Nat) (w : World) : (Instr.makeMap 109 (some (.int .i64 (n : Int)))).run Try.prog w = .ok (.map (some w.heap.size)) (w.alloc (.map #[] 0)) := by
  simp [Instr.makeMap, asInt, asIntOf]

theorem nodup_plc {l : List Trm} : l.Nodup ↔ ∀ i (hi : i < l.length), plc l[i] l = i := by
  constructor
  · intro h i hi
    refine plc_of hi rfl fun k hk e => ?_
    have := (List.getElem_inj (h₀ := by omega) (h₁ := hi) h).1 e
    omega
  · intro h
    rw [List.nodup_iff_pairwise_ne, List.pairwise_iff_getElem]
    intro i j hi hj hij e
    have h1 := h i hi
    rw [e, h j hj] at h1
    omega
theorem arE_no {l : List Trm} {j : Nat} (hj : j < l.length) (h : ¬ Fit j l[j]) : arE l = 1 := if_neg fun k => h (k.2 j hj hj).1
theorem arE_dup {l : List Trm} (h : ¬ l.Nodup) : arE l = 1 := if_neg fun k => h (nodup_plc.2 fun i hi => (k.2 i hi hi).2)
theorem arE_yes {l : List Trm} (h1 : l.length ≤ 1048576) (h2 : ∀ i (hi : i < l.length), Fit i l[i]) (h3 : l.Nodup) : arE l = 0 := if_pos ⟨h1, fun i hi _ => ⟨h2 i hi, nodup_plc.1 h3 i hi⟩⟩
theorem arOk_of {l : List Trm} (h : arE l = 0) : ArOk l := by
  by_cases k : ArOk l
  · exact k
  · rw [arE, if_neg k] at h
    cases h
theorem ArOk.nodup {l : List Trm} (h : ArOk l) : l.Nodup := nodup_plc.2 fun i hi => (h.2 i hi hi).2
theorem Sl.wfI {k : IntKind} {w : World} {S : Nat → Prop} {A : Option Addr} {n c : Nat} {xs : List Int} (h : Sl (Lay.int k) w S A n c xs) : ∀ x ∈ xs, (Lit.int k x).wf = true := by
  rcases Nat.eq_zero_or_pos n with h0 | h0
  · have : xs = [] := List.eq_nil_of_length_eq_zero (by rw [h.len, h0])
    subst this; simp
  · obtain ⟨_, _, _, _, _, hr, _⟩ := h.row h0
    exact (repRow_ints.1 hr).2
theorem okTrm_of {w : World} {S : Nat → Prop} {x : Trm} {cs : List Value} (h : lay_Term.rep w S x cs) (hl : x.Text.length ≤ 4096) : OkTrm x := by
  obtain ⟨A, n, c, -, h1, h2, h3⟩ := rep_Term.1 h
  exact ⟨h1, h2, h3.wfI, hl⟩

set_option maxRecDepth 100000 in
set_option maxHeartbeats 2000000 in
theorem places_any (s : Array Value) (l : List Trm) (w : World) (g : lay_Arena.rep w (· < w.heap.size) l s.toList) :
    Calls Try.prog 73 #[.agg s] w fun e w' => (∃ v, e = .returned (.tuple #[v, .int .i64 (arE l)]) ∧ (arE l = 0 → ∃ b, v = .map (some b) ∧ MapTo w' b l ∧ w.heap.size ≤ b)) ∧ Below w.heap.size w w' := by
  obtain ⟨A, n, c, rfl, h⟩ := agg_Arena g
  clear g
  have HL := hid h.len
  have hcap := h.cap
  unfold maxLen at hcap
  have hb0 : Below w.heap.size w (w.alloc (Obj.cells #[.slice A n c] 24)) := bel_alloc (Below.refl _ _) _
  have hx0 := heap_alloc_new w (Obj.cells #[.slice A n c] 24)
  by_cases hbig : 1048576 < n
  · have HE := hid (show arE l = 1 from if_neg fun k => by have := k.1; rw [HL.out] at this; omega)
    have hd : (1048576 : Int) < (n : Int) := by omega
    go_enter Try.func73, Try.ntmps73
    go_wp2
    go_ret2
    exact ⟨⟨_, by rw [HE.out]; rfl, fun k => by rw [HE.out] at k; cases k⟩, hb0⟩
  have hd : decide ((1048576 : Int) < (n : Int)) = false := by simp; omega
  have hn : n ≤ 1048576 := by omega
  clear hbig
  have hmm := run_makeMapN n
  have HM := hid (mapTo_made (w.alloc (Obj.cells #[.slice A n c] 24)))
  have hsz : (w.alloc (Obj.cells #[.slice A n c] 24)).heap.size = w.heap.size + 1 := by simp
  rw [hsz] at HM
  have hb1 : Below w.heap.size w ((w.alloc (Obj.cells #[.slice A n c] 24)).alloc (Obj.map #[] 0)) := bel_alloc hb0 _
  have hx1 : ((w.alloc (Obj.cells #[.slice A n c] 24)).alloc (Obj.map #[] 0)).heap[w.heap.size]? = some (Obj.cells #[.slice A n c] 24 (0, 0)) := heap_alloc2_old _ _ _
  go_enter Try.func73, Try.ntmps73
  go_wp2
  go_loopw [18] (fun i wr => ∃ j : Nat, j ≤ n ∧ i = .int .i64 j ∧ (∀ i (hi : i < l.length), i < j → Fit i l[i]) ∧ MapTo wr (w.heap.size + 1) (l.take j) ∧ wr.heap[w.heap.size]? = some (Obj.cells #[.slice A n c] 24 (0, 0)) ∧ Below w.heap.size w wr) (fun i _ => n - (intOf i).toNat)
  case atStart => exact ⟨0, Nat.zero_le _, rfl, fun _ _ h => absurd h (by omega), by rw [List.take_zero]; exact HM.out, hx1, hb1⟩
  case round =>
    obtain ⟨j, hj, rfl, hpre, hmap, hv, hbel⟩ := hrel
    have HP := hid hpre
    have HM2 := hid hmap
    clear hpre hx0 hb0 hx1 hb1 hmap HM hmm
    have z := cell_of_one hv
    by_cases hlt : j < n
    · obtain ⟨b1, o1, A', n', c', hx1, rfl, hb1, t1, u1, v1, e1, e2, hV1⟩ := trm_at h hlt
      have q1 := (hbel.cell (p := ⟨b1, o1 + j * 3, none⟩) hb1).trans t1
      have q2 := (hbel.cell (p := ⟨b1, o1 + j * 3 + 1, none⟩) hb1).trans u1
      have q3 := (hbel.cell (p := ⟨b1, o1 + j * 3 + 2, none⟩) hb1).trans v1
      have hlb := lt_of_block hv
      have hba := hbel.alloc hbel.size (Obj.cells #[.int .u64 l[j].Key, .int .i64 l[j].Up, .slice A' n' c'] 62)
      have hxa := heap_alloc_new wr (Obj.cells #[.int .u64 l[j].Key, .int .i64 l[j].Up, .slice A' n' c'] 62)
      have P1 := hid (fun (W : World) (h : Below w.heap.size w W) => (show lay_Term.rep W (· < W.heap.size) l[j] #[.int .u64 l[j].Key, .int .i64 l[j].Up, .slice A' n' c'].toList from rep_Term.2 ⟨A', n', c', rfl, e1, e2, Sl.call hV1 h⟩))
      have HX := hid hV1.len
      clear t1 u1 v1 e1 e2 hV1
      have hsa : (wr.alloc (Obj.cells #[.int .u64 l[j].Key, .int .i64 l[j].Up, .slice A' n' c'] 62)).heap.size = wr.heap.size + 1 := by simp
      have HMS := hid (mayStand_any _ l[j] j _ (P1.out _ hba) (by omega))
      have hbw : Below wr.heap.size wr (wr.alloc (Obj.cells #[.int .u64 l[j].Key, .int .i64 l[j].Up, .slice A' n' c'] 62)) := bel_alloc (Below.refl _ _) _
      by_cases g1 : Fit j l[j]
      · rw [fitB_iff.2 g1] at HMS
        have hok : OkTrm l[j] := okTrm_of (P1.out _ hba) g1.2.2.2
        have HPN := hid (fun (i : Nat) (hi : i < l.length) (hij : i < j + 1) => (show Fit i l[i] from by
          rcases Nat.lt_or_ge i j with h1 | h1
          · exact HP.out i hi h1
          · obtain rfl : i = j := by omega
            exact g1))
        have HT := hid (List.take_succ_eq_append_getElem hx1)
        have HLT := hid (show (l.take j).length = j from by rw [List.length_take]; omega)
        clear g1
        go_wp2_with fail
        refine HMS.out.mono ?_
        rintro e w2 ⟨rfl, hb2⟩
        have V2 : Var3 w2 wr.heap.size 62 _ _ _ := (hb2.block wr.heap.size (by simp)).trans hxa
        have r0 := V2.c0
        have r1 := V2.c1
        have r2 := V2.c2
        have HB2 : Below w.heap.size w w2 := hba.trans (hb2.mono hba.size)
        have HF := hid (formOf_any _ l[j] w2 (P1.out _ HB2))
        go_wp2_with fail
        refine HF.out.mono ?_
        rintro e w3 ⟨rfl, hb3⟩
        have HB3 : Below w.heap.size w w3 := bel_call HB2 hb3
        have hw3 : Below wr.heap.size wr w3 := bel_call (bel_call hbw hb2) hb3
        obtain ⟨w4, hrun, hm4, hg4⟩ := (HM2.out.below hw3).put hok (by rw [HLT.out]; omega)
        rw [HLT.out] at hrun
        rw [← HT.out] at hm4
        have HM4 := hid hm4
        have HB4 := hid (HB3.trans (grown_below hg4 (by omega) HB3.size))
        have Hv4 := hid ((hg4.block w.heap.size (Nat.lt_of_lt_of_le hlb hw3.size) (by simp)).trans ((hw3.block w.heap.size hlb).trans hv))
        clear hm4 hg4 hb3 hb2 r0 r1 r2 V2 HF HM2
        go_wp2
        go_roundw
        case rel => exact ⟨j + 1, by omega, by go_num, HPN.out, HM4.out, Hv4.out, HB4.out⟩
        case measure => simp [intOf]; omega
      · rw [Bool.eq_false_iff.2 fun k => g1 (fitB_iff.1 k)] at HMS
        have HE := hid (arE_no hx1 g1)
        clear g1
        go_wp2_with (go_at_call 91; go_must (refine HMS.out.mono ?_; rintro e w2 ⟨rfl, hb2⟩))
        go_ret2
        exact ⟨⟨_, by rw [HE.out]; rfl, fun k => by rw [HE.out] at k; cases k⟩, hba.trans (hb2.mono hba.size)⟩
    · obtain ⟨m, hlen, hm1, hm2⟩ := HM2.out.len
      have hjn : j = n := by omega
      subst hjn
      rw [List.take_of_length_le (by rw [HL.out]; omega), HL.out] at hm1
      rw [List.take_of_length_le (by rw [HL.out]; omega), HL.out] at hm2
      have hlen' := hlen 3
      by_cases g1 : m = j
      · subst g1
        have HE := hid (arE_yes (by rw [HL.out]; exact hn) (fun i hi => HP.out i hi (by rw [HL.out] at hi; omega)) (hm2.1 rfl))
        have HM4 := hid (show MapTo wr (w.heap.size + 1) l from by have := HM2.out; rwa [List.take_of_length_le (by rw [HL.out]; omega)] at this)
        clear hm1 hm2 hlen
        go_wp2
        go_ret2
        exact ⟨⟨_, by rw [HE.out]; rfl, fun k => ⟨w.heap.size + 1, rfl, HM4.out, by omega⟩⟩, hbel⟩
      · have HE := hid (arE_dup (l := l) fun k => g1 (hm2.2 k))
        have hd2 : (m : Int) < (j : Int) := by omega
        clear hm1 hm2 hlen
        go_wp2
        go_ret2
        exact ⟨⟨_, by rw [HE.out]; rfl, fun k => by rw [HE.out] at k; cases k⟩, hbel⟩

set_option maxHeartbeats 1000000 in
theorem aCheck_any (s : Array Value) (l : List Trm) (w : World) (g : lay_Arena.rep w (· < w.heap.size) l s.toList) :
    Calls Try.prog 38 #[.agg s] w fun e w' => e = .returned (.int .i64 (arE l)) ∧ Below w.heap.size w w' := by
  obtain ⟨A, n, c, rfl, h⟩ := agg_Arena g
  clear g
  have hb0 : Below w.heap.size w (w.alloc (Obj.cells #[.slice A n c] 24)) := bel_alloc (Below.refl _ _) _
  have P := hid (Sl.call h hb0)
  go_enter Try.func38, Try.ntmps38
  go_wp2_with (go_at_call 73; go_must (refine (places_any _ l _ (rep_Arena.2 ⟨_, _, _, rfl, P.out⟩)).mono ?_; rintro e w1 ⟨⟨v, rfl, -⟩, hb1⟩))
  go_ret
  exact ⟨rfl, bel_call hb0 hb1⟩
end Go.Proofs.Ytgiapfenalhleaa
namespace Go.Proofs.Ytgiapfenalhleaa
open Go.RowKit Go.WalkArith

theorem OwnL.lit0 {α : Type} (L : Lay α) (w : World) (e : TypeId) (lo : Option Nat) : OwnL L (w.alloc (.cells #[] e)) w.heap.size lo e (.slice (some ⟨w.heap.size, 0, none⟩) 0 0) [] :=
  ⟨[], World.ownsRow_lit w #[] 0 (Nat.le_refl _) (Nat.zero_le _) (by simp), rfl⟩

set_option maxHeartbeats 1000000 in
/-- slices.Clone, of terms. -/
theorem cloneT_any (A : Option Addr) (n c : Nat) (l : List Trm) (w : World) (h : Sl lay_Term w (· < w.heap.size) A n c l) (hn : n ≤ 1048576) :
    Calls Try.prog 86 #[.slice A n c] w fun e w' => ∃ v', e = .returned v' ∧ OwnL lay_Term w' w.heap.size none 62 v' l ∧ Below w.heap.size w w' := by
  have hnil := fun W => run_is_nil (P := Try.prog) W 22 62 A n c Try.underlying22
  cases A with
  | none =>
    have hc := h.no rfl
    have hn0 : n = 0 := by have := h.cap; omega
    subst hc hn0
    have hx : l = [] := List.eq_nil_of_length_eq_zero h.len
    subst hx
    go_enter Try.func86, Try.ntmps86
    go_wp2
    go_ret
    exact ⟨_, rfl, OwnL.nil _ _ _ _ _, Below.refl _ _⟩
  | some a =>
    have hb0 : Below w.heap.size w (w.alloc (Obj.cells #[] 62)) := bel_alloc (Below.refl _ _) _
    have HS := hid (h.keep fun _ hp => hb0.cell hp)
    go_enter Try.func86, Try.ntmps86
    go_wp2_with (at_builtin; go_must (refine wpList_catL rfl _ _ 22 rfl w.heap.size none 62 _ 40 Try.underlying22 Try.infoTerm rfl (by decide) (.slice (some ⟨w.heap.size, 0, none⟩) 0 0) [] l (· < w.heap.size) (some a) n c rfl rfl (OwnL.lit0 lay_Term _ _ none) HS.out (fun b hb => ⟨trivial, Nat.lt_of_lt_of_le hb hb0.size, fun he => by simp [Value.ownBlock] at he; omega⟩) (by simp) (by simp; omega) (by unfold maxLen; simp; omega) ?_; intro v3 w3 hown3 hext3))
    go_ret
    simp only [List.nil_append] at hown3
    exact ⟨_, rfl, hown3, hb0.trans ((OwnL.lit0 lay_Term w _ none).below hext3 (by simp))⟩

/-- An owned slice whose elements up to a place reach new blocks alone. -/
def Mix {α : Type} (L : Lay α) (w : World) (base lo : Nat) (e : TypeId) (g n cap : Nat) (xs : List α) (j : Nat) : Prop :=
  ∃ cs ds, w.ownsRow base e L.size (.slice (some ⟨g, 0, none⟩) n cap) n (cs ++ ds) ∧ xs.length = n ∧ RepRow L w (Els w (some lo) (.slice (some ⟨g, 0, none⟩) n cap)) (xs.take j) cs ∧ RepRow L w (Els w none (.slice (some ⟨g, 0, none⟩) n cap)) (xs.drop j) ds

section
variable {α : Type} {L : Lay α} {w w' : World} {base lo : Nat} {e : TypeId} {g n cap : Nat} {xs : List α} {j : Nat}
theorem OwnL.mix (h : OwnL L w base none e (.slice (some ⟨g, 0, none⟩) n cap) xs) (lo : Nat) : Mix L w base lo e g n cap xs 0 := by
  obtain ⟨cs, h1, h2⟩ := h
  have hl : xs.length = n := by
    rcases h1.2 with ⟨h', _⟩ | ⟨g', cap', cur, h', _⟩
    · simp at h'
    · simp only [Value.slice.injEq] at h'; exact h'.2.1.symm
  subst hl
  exact ⟨[], cs, h1, rfl, rfl, h2⟩
theorem Mix.own (h : Mix L w base lo e g n cap xs n) : OwnL L w base (some lo) e (.slice (some ⟨g, 0, none⟩) n cap) xs := by
  obtain ⟨cs, ds, h1, h2, h3, h4⟩ := h
  subst h2
  rw [List.take_of_length_le (Nat.le_refl _)] at h3
  rw [List.drop_of_length_le (Nat.le_refl _)] at h4
  simp [RepRow] at h4
  subst h4
  exact ⟨cs, by simpa using h1, h3⟩
theorem Mix.lt (h : Mix L w base lo e g n cap xs j) : base ≤ g ∧ g < w.heap.size := by
  obtain ⟨cs, ds, h1, _⟩ := h
  exact h1.lt g rfl
theorem Els.keepB {lo : Option Nat} {v : Value} {b : Nat} (h : Els w lo v b) (hb : Below w.heap.size w w') : Els w' lo v b := ⟨h.1.of_block (hb.block b h.2.1), Nat.lt_of_lt_of_le h.2.1 hb.size, h.2.2⟩
theorem Mix.keep (h : Mix L w base lo e g n cap xs j) (hb : Below w.heap.size w w') : Mix L w' base lo e g n cap xs j := by
  obtain ⟨cs, ds, h1, h2, h3, h4⟩ := h
  refine ⟨cs, ds, ?_, h2, (h3.keep fun p hp => hb.cell hp.2.1).wide fun b hb' => hb'.keepB hb, (h4.keep fun p hp => hb.cell hp.2.1).wide fun b hb' => hb'.keepB hb⟩
  refine ⟨h1.1, ?_⟩
  rcases h1.2 with h0 | ⟨g, cap, cur, h5, hbg, hg, r⟩
  · exact .inl h0
  · exact .inr ⟨g, cap, cur, h5, hbg, by rw [hb.block g (Array.getElem?_eq_some_iff.1 hg).1]; exact hg, r⟩
theorem Els.keepC {lo : Option Nat} {v : Value} {b g i : Nat} {u : Value} (h : Els w lo v b) (hg : v.ownBlock = some g) : Els (w.setCell ⟨g, i, none⟩ u) lo v b := by
  have hne : b ≠ g := fun e => h.2.2 (by rw [hg, e])
  exact ⟨h.1.of_block (Below.heap_setCell _ _ _ _ hne), by simpa using h.2.1, h.2.2⟩
theorem RepRow.keepC {lo : Option Nat} {v : Value} {g i : Nat} {u : Value} {ys : List α} {cs : List Value} (h : RepRow L w (Els w lo v) ys cs) (hg : v.ownBlock = some g) : RepRow L (w.setCell ⟨g, i, none⟩ u) (Els (w.setCell ⟨g, i, none⟩ u) lo v) ys cs :=
  (h.keep fun p hp => World.cell?_of_block (Below.heap_setCell _ _ _ _ fun e => hp.2.2 (by rw [hg]; exact congrArg some e))).wide fun b hb => hb.keepC hg
end
section
variable {w : World} {base lo : Nat} {e : TypeId} {g n cap : Nat} {xs : List Trm} {j : Nat}
theorem Mix.term (h : Mix lay_Term w base lo e g n cap xs j) (hj : j < n) : ∃ A' n' c', ∃ hx : j < xs.length, w.cell? ⟨g, j * 3, none⟩ = some (.int .u64 xs[j].Key) ∧ w.cell? ⟨g, j * 3 + 1, none⟩ = some (.int .i64 xs[j].Up) ∧ w.cell? ⟨g, j * 3 + 2, none⟩ = some (.slice A' n' c') ∧ (Lit.int .u64 xs[j].Key).wf = true ∧ (Lit.int .i64 xs[j].Up).wf = true ∧ Sl (Lay.int .u8) w (· < w.heap.size) A' n' c' xs[j].Text ∧ w.frozen? ⟨g, j * 3 + 2, none⟩ = false := by
  obtain ⟨cs, ds, h1, h2, h3, h4⟩ := h
  have hx : j < xs.length := by omega
  rw [List.drop_eq_getElem_cons hx] at h4
  obtain ⟨c1, c2, rfl, h5, h6⟩ := h4
  obtain ⟨A', n', c', rfl, k1, k2, k3⟩ := rep_Term.1 h5
  have hcl := h3.len
  rw [List.length_take, Nat.min_eq_left (by omega), size_Term] at hcl
  have hat : ∀ i, i < 3 → w.cell? ⟨g, j * 3 + i, none⟩ = [Value.int .u64 xs[j].Key, .int .i64 xs[j].Up, .slice A' n' c'][i]? := fun i hi => by
    rw [h1.cellAt (j * 3 + i) (by rw [size_Term]; omega), List.getElem?_append_right (by omega), hcl, Nat.add_sub_cancel_left, List.getElem?_append_left (by simpa using hi)]
  exact ⟨A', n', c', hx, hat 0 (by omega), hat 1 (by omega), hat 2 (by omega), k1, k2, k3.wide fun b hb => hb.2.1, h1.frozenAt _⟩
theorem Mix.step (h : Mix lay_Term w base lo e g n cap xs j) (hj : j < n) (hx : j < xs.length) {A' : Option Addr} {n' c' : Nat} {lo' : Nat} (hs : Sl (Lay.int .u8) w (From w lo') A' n' c' xs[j].Text) (hl : lo ≤ lo') (hg : g < lo') : Mix lay_Term (w.setCell ⟨g, j * 3 + 2, none⟩ (.slice A' n' c')) base lo e g n cap xs (j + 1) := by
  obtain ⟨cs, ds, h1, h2, h3, h4⟩ := h
  rw [List.drop_eq_getElem_cons hx] at h4
  obtain ⟨c1, c2, rfl, h5, h6⟩ := h4
  obtain ⟨A0, n0, c0, rfl, k1, k2, k3⟩ := rep_Term.1 h5
  have hcl := h3.len
  rw [List.length_take, Nat.min_eq_left (by omega), size_Term] at hcl
  refine ⟨cs ++ [.int .u64 xs[j].Key, .int .i64 xs[j].Up, .slice A' n' c'], c2, ?_, h2, ?_, h6.keepC rfl⟩
  · have := (h1.stored (j * 3 + 2) (.slice A' n' c')).1
    rw [List.set_append_right _ _ (by omega), hcl, Nat.add_sub_cancel_left] at this
    simpa using this
  · rw [List.take_succ_eq_append_getElem hx]
    refine (h3.keepC rfl).append (RepRow.single (rep_Term.2 ⟨A', n', c', rfl, k1, k2, ?_⟩))
    refine (hs.keep fun p hp => World.cell?_of_block (Below.heap_setCell _ _ _ _ fun e => ?_)).wide fun b hb => ?_
    · have := hp.1
      simp at e
      omega
    · have hne : b ≠ g := fun e => by have := hb.1; omega
      exact ⟨⟨Nat.le_trans hl hb.1, hb.2.2.of_block (Below.heap_setCell _ _ _ _ hne)⟩, by simpa using hb.2.1, fun e => hne (by simpa [Value.ownBlock] using e)⟩
/-- The like, nil let in. -/
def MixV {α : Type} (L : Lay α) (w : World) (base lo : Nat) (e : TypeId) (A : Option Addr) (n c : Nat) (xs : List α) (j : Nat) : Prop :=
  (A = none ∧ n = 0 ∧ c = 0 ∧ xs = []) ∨ ∃ g, A = some ⟨g, 0, none⟩ ∧ Mix L w base lo e g n c xs j
theorem OwnL.mixV {α : Type} {L : Lay α} {A : Option Addr} {n c : Nat} {xs : List α} (h : OwnL L w base none e (.slice A n c) xs) (lo : Nat) : MixV L w base lo e A n c xs 0 := by
  have h0 := h
  obtain ⟨cs, h1, h2⟩ := h
  rcases h1.2 with ⟨h', hx⟩ | ⟨g, cap, cur, h', _⟩
  · simp only [Value.slice.injEq] at h'
    exact .inl ⟨h'.1, h'.2.1, h'.2.2, List.eq_nil_of_length_eq_zero hx⟩
  · simp only [Value.slice.injEq] at h'
    obtain ⟨rfl, rfl, rfl⟩ := h'
    exact .inr ⟨g, rfl, h0.mix lo⟩
theorem MixV.own {α : Type} {L : Lay α} {A : Option Addr} {n c : Nat} {xs : List α} (h : MixV L w base lo e A n c xs n) : OwnL L w base (some lo) e (.slice A n c) xs := by
  rcases h with ⟨rfl, rfl, rfl, rfl⟩ | ⟨g, rfl, h⟩
  · exact OwnL.nil _ _ _ _ _
  · exact h.own
end
end Go.Proofs.Ytgiapfenalhleaa
