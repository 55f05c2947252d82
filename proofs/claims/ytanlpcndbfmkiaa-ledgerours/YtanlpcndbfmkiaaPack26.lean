/-
  Package ledger: which channel has which hold (a map by the holds' numbers), whether channels may be, and where a hold is.
-/
import Derived.Maps.OwnSet
import Derived.Test.YtanlpcndbfmkiaaPack1
import Derived.Test.YtanlpcndbfmkiaaPack2
import Derived.Test.YtanlpcndbfmkiaaPack3
import Derived.Test.YtanlpcndbfmkiaaPack4
import Derived.Test.YtanlpcndbfmkiaaPack5
import Derived.Test.YtanlpcndbfmkiaaPack6
import Derived.Test.YtanlpcndbfmkiaaPack7
import Derived.Test.YtanlpcndbfmkiaaPack8
import Derived.Test.YtanlpcndbfmkiaaPack9
import Derived.Test.YtanlpcndbfmkiaaPack10
import Derived.Test.YtanlpcndbfmkiaaPack11
import Derived.Test.YtanlpcndbfmkiaaPack12
import Derived.Test.YtanlpcndbfmkiaaPack13
import Derived.Test.YtanlpcndbfmkiaaPack14
import Derived.Test.YtanlpcndbfmkiaaPack15
import Derived.Test.YtanlpcndbfmkiaaPack16
import Derived.Test.YtanlpcndbfmkiaaPack17
import Derived.Test.YtanlpcndbfmkiaaPack18
import Derived.Test.YtanlpcndbfmkiaaPack19
import Derived.Test.YtanlpcndbfmkiaaPack20
import Derived.Test.YtanlpcndbfmkiaaPack21
import Derived.Test.YtanlpcndbfmkiaaPack22
import Derived.Test.YtanlpcndbfmkiaaPack23
import Derived.Test.YtanlpcndbfmkiaaPack24
import Derived.Test.YtanlpcndbfmkiaaPack25
namespace Go.Proofs.Ytanlpcndbfmkiaa
open Go.RowKit Go.WalkArith Go.Maps

/-! ### Which channel has which hold, as a row of pairs -/
def prsH (c : Chn) (hs : List Hld) : List (Int × Int) := hs.map fun h => (h.Id, c.Id)
def prsC (l : List Chn) : List (Int × Int) := l.flatMap fun c => prsH c c.Holds
def lookP (ps : List (Int × Int)) (k : Int) : Option Int := (ps.find? fun p => p.1 == k).map (·.2)
theorem lookP_none {ps : List (Int × Int)} {k : Int} : lookP ps k = none ↔ ∀ p ∈ ps, p.1 ≠ k := by
  unfold lookP
  rw [Option.map_eq_none_iff, List.find?_eq_none]
  simp
theorem lookP_snoc {ps : List (Int × Int)} {a b : Int} (h : lookP ps a = none) (k : Int) : lookP (ps ++ [(a, b)]) k = if k = a then some b else lookP ps k := by
  by_cases e : k = a
  · subst e
    have h1 := lookP_none.1 h
    unfold lookP
    rw [if_pos rfl, List.find?_append, List.find?_eq_none.2 fun p hp => by have := h1 p hp; simpa using this]
    simp
  · unfold lookP
    rw [if_neg e, List.find?_append]
    cases hf : ps.find? fun p => p.1 == k with
    | some p => simp
    | none => simp; intro h; exact absurd h.symm e
theorem lookP_hold (c : Chn) (hs : List Hld) (k : Int) : lookP (prsH c hs) k = (holdF hs k).map fun _ => c.Id := by
  unfold lookP prsH holdF
  rw [List.find?_map]
  cases hf : hs.find? ((fun p : Int × Int => p.1 == k) ∘ fun h => (h.Id, c.Id)) with
  | none =>
    have : (hs.find? fun r => r.Id == k) = none := hf
    rw [this]; rfl
  | some x =>
    have : (hs.find? fun r => r.Id == k) = some x := hf
    rw [this]; rfl
theorem lookP_where : ∀ (l : List Chn) (k : Int), lookP (prsC l) k = (whereF l k).map (·.Id)
  | [], k => rfl
  | c :: l, k => by
    have ih := lookP_where l k
    have e : prsC (c :: l) = prsH c c.Holds ++ prsC l := rfl
    have h1 := lookP_hold c c.Holds k
    rw [e]
    unfold lookP at h1 ih ⊢
    unfold whereF at ih ⊢
    rw [List.find?_append, List.find?_cons]
    cases hh : holdF c.Holds k with
    | none =>
      rw [hh] at h1
      have : (prsH c c.Holds).find? (fun p => p.1 == k) = none := by simpa using h1
      rw [this]
      simpa using ih
    | some x =>
      rw [hh] at h1
      cases hf : (prsH c c.Holds).find? (fun p => p.1 == k) with
      | none => rw [hf] at h1; cases h1
      | some p => rw [hf] at h1; simpa using h1
theorem prs_keys (l : List Chn) : (prsC l).map (·.1) = l.flatMap fun c => c.Holds.map (·.Id) := by
  unfold prsC prsH
  rw [List.map_flatMap]
  simp [Function.comp_def]
theorem prs_apart {l : List Chn} (h : ((prsC l).map (·.1)).Nodup) : HApart l := by
  rw [prs_keys] at h
  have := (List.pairwise_flatMap.1 h).2
  unfold HApart
  refine this.imp ?_
  intro a b hab x hx y hy
  exact hab _ (List.mem_map_of_mem hx) _ (List.mem_map_of_mem hy)
theorem prs_nodup {l : List Chn} (g : LgOk l) : ((prsC l).map (·.1)).Nodup := by
  rw [prs_keys]
  refine List.pairwise_flatMap.2 ⟨fun c hc => ?_, g.2.2.2.1.imp fun {a b} hab x hx y hy => ?_⟩
  · have hu : HUp c.Holds := (g.2.1 c hc).2.2.2.2.2.1
    exact List.pairwise_map.2 (hu.imp fun {a b} hab => by
      have : a.Id < b.Id := hab
      omega)
  · obtain ⟨x', hx', rfl⟩ := List.mem_map.1 hx
    obtain ⟨y', hy', rfl⟩ := List.mem_map.1 hy
    exact hab x' hx' y' hy'
theorem prs_len : ∀ (l : List Chn), (∀ c ∈ l, c.Holds.length ≤ 64) → (prsC l).length ≤ l.length * 64
  | [], _ => Nat.zero_le _
  | c :: l, h => by
    have ih := prs_len l fun x hx => h x (by simp [hx])
    have h1 := h c (by simp)
    show (prsH c c.Holds ++ prsC l).length ≤ _
    rw [List.length_append, List.length_cons]
    have : (prsH c c.Holds).length = c.Holds.length := by simp [prsH]
    omega
/-- The pairs of the channels ahead of place j, and of so many holds of that one. -/
def prsU (l : List Chn) (j : Nat) (c : Chn) (i : Nat) : List (Int × Int) := prsC (l.take j) ++ prsH c (c.Holds.take i)
theorem prsU_zero (l : List Chn) (j : Nat) (c : Chn) : prsU l j c 0 = prsC (l.take j) := by simp [prsU, prsH]
theorem prsU_next {l : List Chn} {j i : Nat} {c : Chn} (hi : i < c.Holds.length) : prsU l j c (i + 1) = prsU l j c i ++ [(c.Holds[i].Id, c.Id)] := by
  unfold prsU prsH
  rw [List.take_succ_eq_append_getElem hi, List.map_append, List.append_assoc]
  rfl
theorem prsU_all {l : List Chn} {j : Nat} (hj : j < l.length) : prsU l j l[j] l[j].Holds.length = prsC (l.take (j + 1)) := by
  unfold prsU prsC
  rw [List.take_of_length_le (Nat.le_refl _), List.take_succ_eq_append_getElem hj, List.flatMap_append, List.flatMap_cons, List.flatMap_nil, List.append_nil]
theorem prsU_len {l : List Chn} {j i : Nat} (hj : j < l.length) (hl : l.length ≤ 32) (h : ∀ c ∈ l, c.Holds.length ≤ 64) : (prsU l j l[j] i).length ≤ 4096 := by
  have h1 := prs_len (l.take j) fun c hc => h c (List.mem_of_mem_take hc)
  have h2 := h l[j] (List.getElem_mem hj)
  have h3 : (l.take j).length ≤ 32 := by rw [List.length_take]; omega
  unfold prsU prsH
  rw [List.length_append, List.length_map, List.length_take]
  omega
/-- A number met for the second time: channels that may not be. -/
theorem prsU_dup {l : List Chn} {j i : Nat} (hj : j < l.length) (hi : i < l[j].Holds.length) (h : lookP (prsU l j l[j] i) l[j].Holds[i].Id ≠ none) : ¬ LgOk l := fun g => by
  have hn := prs_nodup g
  have e1 : prsC l = prsC (l.take j) ++ (prsH l[j] l[j].Holds ++ prsC (l.drop (j + 1))) := by
    conv => lhs; rw [← List.take_append_drop j l, List.drop_eq_getElem_cons hj]
    unfold prsC
    rw [List.flatMap_append, List.flatMap_cons]
  have e2 : prsH l[j] l[j].Holds = prsH l[j] (l[j].Holds.take i) ++ ((l[j].Holds[i].Id, l[j].Id) :: prsH l[j] (l[j].Holds.drop (i + 1))) := by
    conv => lhs; rw [← List.take_append_drop i l[j].Holds, List.drop_eq_getElem_cons hi]
    unfold prsH
    rw [List.map_append, List.map_cons]
  have e3 : prsC l = prsU l j l[j] i ++ ((l[j].Holds[i].Id, l[j].Id) :: (prsH l[j] (l[j].Holds.drop (i + 1)) ++ prsC (l.drop (j + 1)))) := by
    rw [e1, e2]
    unfold prsU
    simp
  rw [e3, List.map_append, List.map_cons] at hn
  have hp := (List.nodup_append.1 hn).2.2
  refine h (lookP_none.2 fun p hm e => ?_)
  exact hp p.1 (List.mem_map_of_mem hm) l[j].Holds[i].Id (by simp) e
theorem lup_zero (l : List Chn) : LUp (l.take 0) := by simp [LUp]
theorem lup_one (l : List Chn) : LUp (l.take 1) := by cases l <;> simp [LUp]
theorem lup_next {l : List Chn} {q : Nat} (hx : q + 1 < l.length) (h : LUp (l.take (q + 1))) (hlt : l[q].Id < l[q + 1].Id) : LUp (l.take (q + 1 + 1)) := by
  unfold LUp at h ⊢
  rw [List.take_succ_eq_append_getElem hx, List.pairwise_append]
  refine ⟨h, by simp, fun a ha b hb => ?_⟩
  simp at hb
  subst hb
  rw [List.take_succ_eq_append_getElem (show q < l.length by omega)] at h ha
  rcases List.mem_append.1 ha with ha | ha
  · have := (List.pairwise_append.1 h).2.2 a ha l[q] (by simp)
    omega
  · simp at ha
    subst ha
    exact hlt

/-! ### The map -/
theorem hmLaw : Maps.Keyed Try.prog 23 := Maps.int_keyed Try.underlying23
theorem hmZero (w : World) : (zeroValue 23).run Try.prog w = .ok (.int .u64 0) w := by kernel_rfl
/-- The map in block b holds these pairs; no first one of them is there twice. -/
def HomeTo (w : World) (b : Nat) (ps : List (Int × Int)) : Prop := (ps.map (·.1)).Nodup ∧ ∃ (D : DataW Unit), w.ownsMap Try.prog 23 (plainElem Try.prog 23) b ps.length D ∧
  (∀ k, (Lit.int .u64 k).wf = true → Maps.has D (.int .u64 k) = (lookP ps k).isSome) ∧ (∀ k m, (Lit.int .u64 k).wf = true → lookP ps k = some m → ∀ z, D.atKey (.int .u64 k) z = .lit (.int .u64 m))
set_option maxRecDepth 100000 in
theorem homeTo_made (w : World) : HomeTo (w.alloc (.map #[] 0)) w.heap.size [] :=
  ⟨List.nodup_nil, .map [], World.ownsMap_made _ _ _ _, fun k _ => by simp [Maps.has, lookP], fun k m _ h => by simp [lookP] at h⟩
theorem HomeTo.lt {w : World} {b : Nat} {l : List (Int × Int)} (h : HomeTo w b l) : b < w.heap.size := let ⟨_, _, h1, _⟩ := h; h1.lt
theorem HomeTo.of_block {w w' : World} {b : Nat} {l : List (Int × Int)} (h : HomeTo w b l) (hb : w'.heap[b]? = w.heap[b]?) : HomeTo w' b l := by
  obtain ⟨h0, D, ⟨es, clock, h1, h2⟩, h3⟩ := h
  exact ⟨h0, D, ⟨es, clock, hb.trans h1, h2⟩, h3⟩
theorem HomeTo.below {w w' : World} {b : Nat} {l : List (Int × Int)} (h : HomeTo w b l) (hb : Below w.heap.size w w') : HomeTo w' b l := h.of_block (hb.block b h.lt)
set_option maxRecDepth 100000 in
theorem HomeTo.put {w : World} {b : Nat} {ps : List (Int × Int)} (h : HomeTo w b ps) {x y : Int} (hx : (Lit.int .u64 x).wf = true) (hy : (Lit.int .u64 y).wf = true) (hl : ps.length < 1048576) (hc : lookP ps x = none) :
    ∃ w', (Instr.mapUpdate 78 (.map (some b)) (.int .u64 x) (.int .u64 y)).run Try.prog w = .ok () w' ∧ HomeTo w' b (ps ++ [(x, y)]) ∧ w.grownBy w' (some b) := by
  obtain ⟨h0, D, hown, hhas, hat⟩ := h
  obtain ⟨w', hrun, hown', hg⟩ := hown.update hmLaw Try.underlying78 (by unfold maxLen; omega) (Maps.keyOf_int_mk Try.underlying23 hx) (plainElem_int (a := y) Try.underlying23 hy)
  have hk : WideAt.IsKeyLit (.int .u64 x) := trivial
  refine ⟨w', hrun, ⟨?_, _, by rw [List.length_append]; exact hown', fun k hkw => ?_, fun k m hkw hm z => ?_⟩, hg⟩
  · rw [List.map_append, List.nodup_append]
    refine ⟨h0, by simp, fun a ha c hc2 => ?_⟩
    obtain ⟨p, hp, rfl⟩ := List.mem_map.1 ha
    simp at hc2
    subst hc2
    exact lookP_none.1 hc p hp
  · rw [lookP_snoc hc]
    by_cases e : k = x
    · subst e
      rw [Maps.has_put_same hown.isMap hk, if_pos rfl]
      rfl
    · rw [Maps.has_put_other (fun e2 => e (by injection e2)), hhas k hkw, if_neg e]
  · rw [lookP_snoc hc] at hm
    by_cases e : k = x
    · subst e
      rw [if_pos rfl] at hm
      injection hm with hm
      subst hm
      rw [Maps.atKey_put_same hown.isMap hk]
    · rw [if_neg e] at hm
      rw [Maps.atKey_put_other (fun e2 => e (by injection e2))]
      exact hat k m hkw hm z
set_option maxRecDepth 100000 in
theorem HomeTo.look {w : World} {b : Nat} {ps : List (Int × Int)} (h : HomeTo w b ps) {k : Int} (hk : (Lit.int .u64 k).wf = true) :
    (Instr.lookup 78 (.map (some b)) (.int .u64 k) true).run Try.prog w = .ok (.tuple #[.int .u64 ((lookP ps k).getD 0), .bool (lookP ps k).isSome]) w := by
  obtain ⟨-, D, hown, hhas, hat⟩ := h
  obtain ⟨v, qs, hrun, hv⟩ := hown.look_ok hmLaw Try.underlying78 (hmZero w) (plainElem_int (a := 0) Try.underlying23 (by decide)) (Maps.keyOf_int_mk Try.underlying23 hk)
  obtain ⟨c, rfl, hc, hwc⟩ := plainElem_int_inv Try.underlying23 hv
  have hc' := congrArg Prod.fst hc
  simp only at hc'
  rw [hrun, hhas k hk]
  have : c = (lookP ps k).getD 0 := by
    cases hm : lookP ps k with
    | some m =>
      rw [hat k m hk hm] at hc'
      injection hc' with e
      injection e with e1 e2
      simpa using e2.symm
    | none =>
      have e := Maps.atKey_of_not_has (z := .lit (.int .u64 0)) (by rw [hhas k hk, hm]; rfl : Maps.has D (.int .u64 k) = false)
      rw [hc'] at e
      injection e with e
      injection e with e1 e2
  rw [this]

/-! ### All channels together -/
theorem enter_any {f : FuncId} {fn : Func} {c : Code} (hf : Try.prog.funcs[f]? = some fn) (hname : (fn.name == "runtime.NumGoroutine") = false) (hb : fn.body = some c) (args : Array Value) (w : World) : (callFunc f args).run Try.prog w = .ok (.enter f args) w := by
  have h1 : fn.name ≠ "runtime.NumGoroutine" := by simpa using hname
  simp [callFunc, hf, h1, hb]
theorem aa_wf {c : Chn} (hw : ChnWf c) (hh : HldsWf c.Holds) : (Lit.int .u64 (aaV c)).wf = true := by
  have a := (bounds_u64 hw.loc).1
  have b := (bounds_u64 hw.rem).1
  have d := held_nonneg hh
  unfold aaV
  split
  · rename_i h
    have : c.Local + c.Remote + heldN c ≤ mMax := h.2.2.2.2.2.2.2.2.2.2
    have : mMax = 4611686018427387904 := rfl
    exact wf_u64 (by omega)
  · decide
theorem aa_pos {c : Chn} (hw : ChnWf c) (hh : HldsWf c.Holds) : 0 ≤ aaV c := (bounds_u64 (aa_wf hw hh)).1
/-- All of all, added. -/
theorem all_add {l : List Chn} : addE (l.map aaV) = if sumC l ≤ mMax then 0 else 8 := by
  have h1 : allLe mMax (l.map aaV) = true := allLe_iff.2 fun x hx => by
    obtain ⟨c, hc, rfl⟩ := List.mem_map.1 hx
    unfold aaV
    split
    · rename_i h
      exact h.2.2.2.2.2.2.2.2.2.2
    · decide
  unfold addE
  rw [if_pos h1]
  rfl
set_option maxHeartbeats 1000000 in
theorem lAll_any (A : Option Addr) (n k : Nat) (l : List Chn) (w : World) (h : Sl lay_Channel w (· < w.heap.size) A n k l) (hn : n ≤ 1048576) :
    Calls Try.prog 41 #[.slice A n k, .func (.func 42) #[] #[]] w fun e w' => ∃ v x, e = .returned (.tuple #[.int .u64 v, .int .i64 x]) ∧ ((∀ c ∈ l, ChOk c) → x = if sumC l ≤ mMax then 0 else 8) ∧ (x = 0 → (∀ c ∈ l, ChOk c) ∧ sumC l ≤ mMax) ∧ Below w.heap.size w w' := by
  have hw := sl_chns h
  refine (lTogether_any 42 aaV chE (fun s c w r => cAll_any s c w r) (fun args w => enter_any Try.func42 (by kernel_rfl) (by rfl) args w) A n k l (fun c hc => aa_wf (hw c hc).1 (hw c hc).2) w h hn).mono ?_
  rintro e w1 ⟨v, x, rfl, h1, h2, hb⟩
  have hch : ∀ c : Chn, chE c = 0 ↔ ChOk c := fun c => by
    rcases ch_is (c := c) with ⟨q, e⟩ | ⟨q, e⟩
    · exact ⟨fun _ => q, fun _ => e⟩
    · exact ⟨fun r => (by rw [e] at r; cases r), fun r => absurd r q⟩
  refine ⟨v, x, rfl, fun hok => ?_, fun hx => ?_, hb⟩
  · rw [(h1 fun c hc => (hch c).2 (hok c hc)).2, all_add]
  · have hok : ∀ c ∈ l, ChOk c := fun c hc => by
      by_cases q : chE c = 0
      · exact (hch c).1 q
      · exact absurd hx (h2 ⟨c, hc, q⟩)
    refine ⟨hok, ?_⟩
    have e := (h1 fun c hc => (hch c).2 (hok c hc)).2
    rw [hx, all_add] at e
    by_cases q : sumC l ≤ mMax
    · exact q
    · rw [if_neg q] at e; cases e

set_option maxRecDepth 100000 in
set_option maxHeartbeats 8000000 in
/-- Which channel has which hold, if channels may be. -/
theorem homes_any (A : Option Addr) (n k : Nat) (l : List Chn) (w : World) (h : Sl lay_Channel w (· < w.heap.size) A n k l) :
    Calls Try.prog 63 #[.slice A n k] w fun e w' => ∃ v, e = .returned (.tuple #[v, .int .i64 (lgE l)]) ∧ (LgOk l → ∃ b, v = .map (some b) ∧ w.heap.size ≤ b ∧ HomeTo w' b (prsC l)) ∧ Below w.heap.size w w' := by
  have HL := hid h.len
  have hcap := h.cap
  unfold maxLen at hcap
  have HNO : Hid (¬ LgOk l → lgE l = 1) := hid fun q => if_neg q
  by_cases h32 : 32 < n
  · have d1 : decide ((32 : Int) < (n : Int)) = true := by simp; omega
    have HQ := hid (show ¬ LgOk l from fun q => by have := q.1; rw [HL.out] at this; omega)
    go_enter Try.func63, Try.ntmps63
    go_wp2
    go_ret2
    exact ⟨_, by rw [HNO.out HQ.out]; rfl, fun q => absurd q HQ.out, Below.refl _ _⟩
  have d1 : decide ((32 : Int) < (n : Int)) = false := by simp; omega
  have HSL := hid (fun (W : World) (hb : Below w.heap.size w W) => Sl.call h hb)
  have HWF := hid (sl_chns h)
  go_enter Try.func63, Try.ntmps63
  go_wp2_with fail
  with_reducible refine (lAll_any A n k l w h (by omega)).mono ?_
  rintro e w1 ⟨v1, x1, rfl, h1, h2, hb1⟩
  by_cases hx : x1 = 0
  rotate_left
  · have HQ := hid (show ¬ LgOk l from fun q => hx (by rw [h1 q.2.1, if_pos q.2.2.2.2]))
    have d2 : (x1 == 0) = false := by simpa using hx
    have d3 : (x1 != 0) = true := by simpa using hx
    have HX := hid hx
    clear h1 h2 hx
    go_wp2
    go_ret2
    exact ⟨_, by rw [HNO.out HQ.out]; rfl, fun q => absurd q HQ.out, hb1⟩
  obtain ⟨hok, hsum⟩ := h2 hx
  have HOK := hid hok
  have HSUM := hid hsum
  have HX := hid hx
  subst hx
  clear h1 h2 hok hsum
  have hmm : (Instr.makeMap 78 none).run Try.prog w1 = .ok (.map (some w1.heap.size)) (w1.alloc (.map #[] 0)) := rfl
  have M0 := homeTo_made w1
  have hgm : w.heap.size ≤ w1.heap.size := hb1.size
  have HB2 : Below w.heap.size w (w1.alloc (.map #[] 0)) := bel_alloc hb1 _
  go_wp2
  generalize w1.alloc (Obj.map #[] 0) = W1 at *
  generalize w1.heap.size = gm at *
  clear hmm hb1
  go_loopw [26] (fun i wr => ∃ j : Nat, j ≤ n ∧ i = .int .i64 j ∧ HomeTo wr gm (prsC (l.take j)) ∧ Hid (LUp (l.take j)) ∧ Below w.heap.size w wr) (fun i _ => n - (intOf i).toNat)
  case atStart => exact ⟨0, Nat.zero_le _, rfl, by rw [List.take_zero]; exact M0, hid (lup_zero l), HB2⟩
  case round =>
  obtain ⟨j, hj, rfl, hm, HP, hbel⟩ := hrel
  clear M0 HB2
  by_cases hlt : j < n
  · obtain ⟨b1, o1, A', n', c', hx1, rfl, hb1, t0, t1, t2, t3, t4, t5, t6, hwc, hsc⟩ := chn_at h hlt
    have q0 := (hbel.cell (p := ⟨b1, o1 + j * 7, none⟩) hb1).trans t0
    have q1 := (hbel.cell (p := ⟨b1, o1 + j * 7 + 1, none⟩) hb1).trans t1
    have q2 := (hbel.cell (p := ⟨b1, o1 + j * 7 + 2, none⟩) hb1).trans t2
    have q3 := (hbel.cell (p := ⟨b1, o1 + j * 7 + 3, none⟩) hb1).trans t3
    have q4 := (hbel.cell (p := ⟨b1, o1 + j * 7 + 4, none⟩) hb1).trans t4
    have q5 := (hbel.cell (p := ⟨b1, o1 + j * 7 + 5, none⟩) hb1).trans t5
    have q6 := (hbel.cell (p := ⟨b1, o1 + j * 7 + 6, none⟩) hb1).trans t6
    have hba := bel_alloc (Below.refl wr.heap.size wr) (Obj.cells #[.int .u64 l[j].Id, .int .u64 l[j].Local, .int .u64 l[j].Remote, .int .u64 l[j].Reserve, .int .u64 l[j].Most, .slice A' n' c', .bool l[j].Open] 26)
    have BC := BoxC.new wr l[j] A' n' c'
    have HMA := hid (hm.below hba)
    have HB5 := bel_call hbel hba
    have HSA := HSL.out _ HB5
    have HLH := hid hsc.len
    have hcph := hsc.cap
    unfold maxLen at hcph
    have HSC := hid (fun (W : World) (hb : Below w.heap.size w W) => Sl.call hsc hb)
    have hgl := hm.lt
    clear t0 t1 t2 t3 t4 t5 t6
    have HWC := hid hwc
    have HWH := hid (sl_hlds hsc)
    have HH64 := hid (show l[j].Holds.length ≤ 64 from (HOK.out _ (List.getElem_mem hx1)).2.2.1)
    clear hsc hwc hm
    go_upto_region 10 with (fail)
    have hgw : wr.heap.size < (wr.alloc (Obj.cells #[.int .u64 l[j].Id, .int .u64 l[j].Local, .int .u64 l[j].Remote, .int .u64 l[j].Reserve, .int .u64 l[j].Most, .slice A' n' c', .bool l[j].Open] 26)).heap.size := by simp
    generalize wr.alloc (Obj.cells #[.int .u64 l[j].Id, .int .u64 l[j].Local, .int .u64 l[j].Remote, .int .u64 l[j].Reserve, .int .u64 l[j].Most, .slice A' n' c', .bool l[j].Open] 26) = W5 at *
    generalize hg8 : wr.heap.size = g8 at *
    clear q0 q1 q2 q3 q4 q5 q6
    obtain ⟨y0, y1, y2, y3, y4, y5, y6⟩ := BC.all
    by_cases g2 : j = 0
    · have d2 : decide ((0 : Int) < (j : Int)) = false := by simp; omega
      have d2' : decide (0 < j) = false := decide_eq_false (by omega)
      have HUP := hid (show LUp (l.take (j + 1)) from by rw [g2]; exact lup_one l)
      have HG2 := hid g2
      clear g2
      go_quiet (fail)
      go_upto_region 12 with (fail)
      obtain ⟨wo, hwo⟩ : ∃ z, z = wr := ⟨_, rfl⟩
      subst hwo
      have HB6 := bel_drewN HB5 nq
      have BC6 : BoxC (W5.drewN nq) g8 l[j] A' n' c' := BC
      have HM6 : HomeTo (W5.drewN nq) gm (prsC (l.take j)) := HMA.out.of_block rfl
      generalize W5.drewN nq = W6 at *
      obtain ⟨x0, x1, x2, x3, x4, x5, x6⟩ := BC6.all
      clear y0 y1 y2 y3 y4 y5 y6
      go_wp2
      go_loopw [47] (fun i wq => ∃ p : Nat, p ≤ n' ∧ i = .int .i64 p ∧ HomeTo wq gm (prsU l j l[j] p) ∧ BoxC wq g8 l[j] A' n' c' ∧ Below w.heap.size w wq) (fun i _ => n' - (intOf i).toNat)
      case atStart => exact ⟨0, Nat.zero_le _, rfl, by rw [prsU_zero]; exact HM6, BC6, HB6⟩
      case round =>
      obtain ⟨p, hp, rfl, hmp, bcp, hbp⟩ := hrel
      clear HM6 BC6 HB6 x0 x1 x2 x3 x4 x5 x6
      by_cases hlp : p < n'
      · obtain ⟨b3, o3, hx3, rfl, hb3, s0, s1, hwh3⟩ := hld_at (HSC.out _ hbp) hlp
        have hbaq := bel_alloc (Below.refl wr.heap.size wr) (Obj.cells #[.int .u64 l[j].Holds[p].Id, .int .u64 l[j].Holds[p].N] 41)
        have HMq := hmp.below hbaq
        have BCq := bcp.call hbaq
        have HBq := bel_call hbp hbaq
        have z0 : (wr.alloc (Obj.cells #[.int .u64 l[j].Holds[p].Id, .int .u64 l[j].Holds[p].N] 41)).cell? ⟨wr.heap.size, 0, none⟩ = some (.int .u64 l[j].Holds[p].Id) := by rw [World.cell?_alloc_at _ _ _ _ rfl]; rfl
        have HLN := hid (prsU_len (i := p) hx1 (by rw [HL.out]; omega) fun c hc => (HOK.out c hc).2.2.1)
        have HNX := hid (prsU_next (l := l) (j := j) hx3)
        have HDP := hid (prsU_dup hx1 hx3)
        clear hmp bcp hbp
        go_upto_region 15 with (fail)
        generalize wr.alloc (Obj.cells #[.int .u64 l[j].Holds[p].Id, .int .u64 l[j].Holds[p].N] 41) = W7 at *
        obtain ⟨x0, x1, x2, x3, x4, x5, x6⟩ := BCq.all
        have hlk := HMq.look hwh3.id
        clear s0 s1 x1 x2 x3 x4 x5 x6 hbaq
        cases hc : lookP (prsU l j l[j] p) l[j].Holds[p].Id with
        | some m =>
          rw [hc] at hlk
          simp only [Option.getD_some, Option.isSome_some] at hlk
          have HQN := hid (HDP.out (by rw [hc]; simp))
          clear hc HMq BCq
          go_wp2
          go_ret2
          exact ⟨_, by rw [HNO.out HQN.out]; rfl, fun q => absurd q HQN.out, HBq⟩
        | none =>
          rw [hc] at hlk
          simp only [Option.getD_none, Option.isSome_none] at hlk
          obtain ⟨w8, hrun, hm8, hg9⟩ := HMq.put hwh3.id HWC.out.id (Nat.lt_of_le_of_lt HLN.out (by decide)) hc
          rw [← HNX.out] at hm8
          have HM8 := hid hm8
          have HB8 := hid (HBq.trans (grown_below hg9 hgm HBq.size))
          have BC8 := hid (show BoxC w8 g8 l[j] _ n' c' from (hg9.block g8 BCq.lt (fun e => by injection e with e; omega)).trans BCq)
          clear hm8 hg9 HMq BCq hc
          go_wp2
          go_roundw
          case rel => exact ⟨p + 1, by omega, by go_num, HM8.out, BC8.out, HB8.out⟩
          case measure => simp [intOf]; omega
      · have hpn : p = n' := by omega
        have HM9 := hid (show HomeTo wr gm (prsC (l.take (j + 1))) from by
          rw [← prsU_all hx1, HLH.out, ← hpn]
          exact hmp)
        clear hmp bcp hpn
        go_wp2
        go_roundw
        case rel => exact ⟨j + 1, by omega, by go_num, HM9.out, HUP, hbp⟩
        case measure => simp [intOf]; omega
    have d2 : decide ((0 : Int) < (j : Int)) = true := by simp; omega
    have d2' : decide (0 < j) = true := decide_eq_true (by omega)
    obtain ⟨q, hq⟩ : ∃ q : Nat, q + 1 = j := ⟨j - 1, by omega⟩
    have hkn : (j : Int) - 1 = (q : Int) := by omega
    have hwk : IntKind.i64.wrap (q : Int) = (q : Int) := IntWalk.i64_in _ (by omega)
    obtain ⟨b2, o2, A2, n2, c2, hx2, hA2, -, u0, -, -, -, -, -, -, -, -⟩ := chn_at HSA (show q < n by omega)
    injection hA2 with hA2
    injection hA2 with e1 e2
    subst e1 e2
    have ik : (0 : Int) ≤ (q : Int) ∧ (q : Int) < (n : Int) := by omega
    have ik2 : q < n := by omega
    by_cases g3 : l[q].Id < l[j].Id
    · have d3 : decide (l[j].Id ≤ l[q].Id) = false := by simp; omega
      have HUP := hid (show LUp (l.take (j + 1)) from by
        have hpp := HP.out
        subst hq
        exact lup_next hx1 hpp g3)
      have HQ := hid hq
      clear g2 g3 hq
      generalize l[q].Id = qi at *
      go_quiet (fail)
      go_upto_region 12 with (fail)
      obtain ⟨wo, hwo⟩ : ∃ z, z = wr := ⟨_, rfl⟩
      subst hwo
      have HB6 := bel_drewN HB5 nq
      have BC6 : BoxC (W5.drewN nq) g8 l[j] A' n' c' := BC
      have HM6 : HomeTo (W5.drewN nq) gm (prsC (l.take j)) := HMA.out.of_block rfl
      generalize W5.drewN nq = W6 at *
      obtain ⟨x0, x1, x2, x3, x4, x5, x6⟩ := BC6.all
      clear y0 y1 y2 y3 y4 y5 y6
      go_wp2
      go_loopw [47] (fun i wq => ∃ p : Nat, p ≤ n' ∧ i = .int .i64 p ∧ HomeTo wq gm (prsU l j l[j] p) ∧ BoxC wq g8 l[j] A' n' c' ∧ Below w.heap.size w wq) (fun i _ => n' - (intOf i).toNat)
      case atStart => exact ⟨0, Nat.zero_le _, rfl, by rw [prsU_zero]; exact HM6, BC6, HB6⟩
      case round =>
      obtain ⟨p, hp, rfl, hmp, bcp, hbp⟩ := hrel
      clear HM6 BC6 HB6 x0 x1 x2 x3 x4 x5 x6
      by_cases hlp : p < n'
      · obtain ⟨b3, o3, hx3, rfl, hb3, s0, s1, hwh3⟩ := hld_at (HSC.out _ hbp) hlp
        have hbaq := bel_alloc (Below.refl wr.heap.size wr) (Obj.cells #[.int .u64 l[j].Holds[p].Id, .int .u64 l[j].Holds[p].N] 41)
        have HMq := hmp.below hbaq
        have BCq := bcp.call hbaq
        have HBq := bel_call hbp hbaq
        have z0 : (wr.alloc (Obj.cells #[.int .u64 l[j].Holds[p].Id, .int .u64 l[j].Holds[p].N] 41)).cell? ⟨wr.heap.size, 0, none⟩ = some (.int .u64 l[j].Holds[p].Id) := by rw [World.cell?_alloc_at _ _ _ _ rfl]; rfl
        have HLN := hid (prsU_len (i := p) hx1 (by rw [HL.out]; omega) fun c hc => (HOK.out c hc).2.2.1)
        have HNX := hid (prsU_next (l := l) (j := j) hx3)
        have HDP := hid (prsU_dup hx1 hx3)
        clear hmp bcp hbp
        go_upto_region 15 with (fail)
        generalize wr.alloc (Obj.cells #[.int .u64 l[j].Holds[p].Id, .int .u64 l[j].Holds[p].N] 41) = W7 at *
        obtain ⟨x0, x1, x2, x3, x4, x5, x6⟩ := BCq.all
        have hlk := HMq.look hwh3.id
        clear s0 s1 x1 x2 x3 x4 x5 x6 hbaq
        cases hc : lookP (prsU l j l[j] p) l[j].Holds[p].Id with
        | some m =>
          rw [hc] at hlk
          simp only [Option.getD_some, Option.isSome_some] at hlk
          have HQN := hid (HDP.out (by rw [hc]; simp))
          clear hc HMq BCq
          go_wp2
          go_ret2
          exact ⟨_, by rw [HNO.out HQN.out]; rfl, fun q => absurd q HQN.out, HBq⟩
        | none =>
          rw [hc] at hlk
          simp only [Option.getD_none, Option.isSome_none] at hlk
          obtain ⟨w8, hrun, hm8, hg9⟩ := HMq.put hwh3.id HWC.out.id (Nat.lt_of_le_of_lt HLN.out (by decide)) hc
          rw [← HNX.out] at hm8
          have HM8 := hid hm8
          have HB8 := hid (HBq.trans (grown_below hg9 hgm HBq.size))
          have BC8 := hid (show BoxC w8 g8 l[j] _ n' c' from (hg9.block g8 BCq.lt (fun e => by injection e with e; omega)).trans BCq)
          clear hm8 hg9 HMq BCq hc
          go_wp2
          go_roundw
          case rel => exact ⟨p + 1, by omega, by go_num, HM8.out, BC8.out, HB8.out⟩
          case measure => simp [intOf]; omega
      · have hpn : p = n' := by omega
        have HM9 := hid (show HomeTo wr gm (prsC (l.take (j + 1))) from by
          rw [← prsU_all hx1, HLH.out, ← hpn]
          exact hmp)
        clear hmp bcp hpn
        go_wp2
        go_roundw
        case rel => exact ⟨j + 1, by omega, by go_num, HM9.out, HUP, hbp⟩
        case measure => simp [intOf]; omega
    · have d3 : decide (l[j].Id ≤ l[q].Id) = true := by simp; omega
      have HQN := hid (show ¬ LgOk l from fun h => g3 (List.pairwise_iff_getElem.1 h.2.2.1 q j hx2 hx1 (by omega)))
      have HQ := hid hq
      clear g2 g3 hq
      generalize l[q].Id = qi at *
      go_quiet (fail)
      go_wp2
      go_ret2
      exact ⟨_, by rw [HNO.out HQN.out]; rfl, fun q => absurd q HQN.out, bel_drewN HB5 _⟩
  · have HTK := hid (show l.take j = l from List.take_of_length_le (by rw [HL.out]; omega))
    have HGOK := hid (show LgOk l from ⟨by rw [HL.out]; omega, HOK.out, by have := HP.out; rwa [HTK.out] at this, prs_apart (by have := hm.1; rwa [HTK.out] at this), HSUM.out⟩)
    rw [HTK.out] at hm
    go_wp2
    go_ret2
    exact ⟨_, by rw [show lgE l = 0 from if_pos HGOK.out]; rfl, fun _ => ⟨gm, rfl, hgm, hm⟩, hbel⟩
end Go.Proofs.Ytanlpcndbfmkiaa
