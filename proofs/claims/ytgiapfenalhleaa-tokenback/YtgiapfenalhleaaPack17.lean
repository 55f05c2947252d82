/-
  A map from terms, told by their key, the place they came of, and their octets as a string, to places: what it holds behind each term that is put in, how many, and what is found by a term.
  The contracts of package arena's small functions: whether a text is too long, whether a term may stand at a place, what tells it from all others, whether two arenas are the same.
-/
import Derived.Maps.OwnSet
import Derived.DeepKeys4
import Derived.Deep.Cut
import Derived.Test.YtgiapfenalhleaaPack1
import Derived.Test.YtgiapfenalhleaaPack2
import Derived.Test.YtgiapfenalhleaaPack3
import Derived.Test.YtgiapfenalhleaaPack4
import Derived.Test.YtgiapfenalhleaaPack5
import Derived.Test.YtgiapfenalhleaaPack6
import Derived.Test.YtgiapfenalhleaaPack7
import Derived.Test.YtgiapfenalhleaaPack8
import Derived.Test.YtgiapfenalhleaaPack9
import Derived.Test.YtgiapfenalhleaaPack10
import Derived.Test.YtgiapfenalhleaaPack11
import Derived.Test.YtgiapfenalhleaaPack12
import Derived.Test.YtgiapfenalhleaaPack13
import Derived.Test.YtgiapfenalhleaaPack14
import Derived.Test.YtgiapfenalhleaaPack15
import Derived.Test.YtgiapfenalhleaaPack16
namespace Go.Proofs.Ytgiapfenalhleaa
open Go.RowKit Go.WalkArith Go.Maps

set_option maxRecDepth 100000 in
theorem arLaidOut : laidOutB Try.prog = true := by kernel_rfl
set_option maxRecDepth 100000 in
theorem arWide : (match Try.prog.underlying 116 with | some (.array _ _) | some (.struct _) => true | _ => false) = true := by rw [Try.underlying116]
set_option maxRecDepth 100000 in
theorem arLaw : Keyed Try.prog 116 := Keyed.of_law (deep_law_laid arLaidOut (m := 2) (by omega) (of_decide_eq_true (by kernel_rfl)) (by kernel_rfl) arWide)
set_option maxRecDepth 100000 in
theorem arKeyType : Try.prog.keyType 116 = true := by kernel_rfl
set_option maxRecDepth 100000 in
theorem arCells : Try.prog.cellsOf 116 = 3 := by kernel_rfl
set_option maxRecDepth 100000 in
theorem arCellsU : Try.prog.cellsOf 25 = 1 := by kernel_rfl
set_option maxRecDepth 100000 in
theorem arCellsI : Try.prog.cellsOf 3 = 1 := by kernel_rfl
set_option maxRecDepth 100000 in
theorem arCellsS : Try.prog.cellsOf 9 = 1 := by kernel_rfl
set_option maxRecDepth 100000 in
theorem arTypes : 0 < Try.prog.types.size := of_decide_eq_true (by kernel_rfl)
set_option maxRecDepth 100000 in
theorem keyOf_struct {P : Program} {k : TypeId} {fs : Array Field} {v : Value} {ls : List Lit} (hu : P.underlying k = some (.struct fs)) (hk : P.keyType k = true) (hf : v.formed P k = true) (h0 : 0 < P.types.size)
    (hl : ∀ d, P.keyLits (d + 1 + 1) k v.cells.toList = some ls) : keyOf P k v = some (.string (keyBytes ls)) := by
  obtain ⟨d, hd⟩ : ∃ d, P.types.size = d + 1 := ⟨P.types.size - 1, by omega⟩
  unfold keyOf
  rw [hu]
  simp only [hk, hf, Bool.true_and, if_true]
  rw [hd, hl]
  rfl

/-- What tells a term from all others, as the program has it. -/
def keyV (x : Trm) : Value := .agg #[.int .u64 x.Key, .int .i64 x.Up, .string (strOfNums x.Text)]
structure OkTrm (x : Trm) : Prop where
  key : (Lit.int .u64 x.Key).wf = true
  up : (Lit.int .i64 x.Up).wf = true
  oct : ∀ y ∈ x.Text, (Lit.int .u8 y).wf = true
  len : x.Text.length ≤ 4096
noncomputable def keyL (x : Trm) : Lit := (keyOf Try.prog 116 (keyV x)).getD (.bool false)
set_option maxRecDepth 100000 in
theorem str_size (xs : List Int) : (strOfNums xs).size = xs.length := by simp [strOfNums, ByteArray.size]
set_option maxRecDepth 100000 in
theorem keyLits_form {x : Trm} (h : OkTrm x) (d : Nat) : Try.prog.keyLits (d + 1 + 1) 116 [.int .u64 x.Key, .int .i64 x.Up, .string (strOfNums x.Text)] = some [.int .u64 x.Key, .int .i64 x.Up, .string (strOfNums x.Text).data.toList] := by
  have hs : (strOfNums x.Text).size ≤ maxLen := by rw [str_size]; have := h.len; unfold maxLen; omega
  have h1 := h.key
  have h2 := h.up
  generalize strOfNums x.Text = s at *
  simp [Program.keyLits, Try.underlying116, arCells, arCellsU, arCellsI, arCellsS, Try.underlying25, Try.underlying3, Try.underlying9, h1, h2, hs]
set_option maxRecDepth 100000 in
theorem keyV_formed (x : Trm) : (keyV x).formed Try.prog 116 = true := by simp [keyV, Value.formed, Try.underlying116, arCells]
set_option maxRecDepth 100000 in
theorem keyL_of {x : Trm} (h : OkTrm x) : keyOf Try.prog 116 (keyV x) = some (keyL x) := by
  have hl := keyOf_struct Try.underlying116 arKeyType (keyV_formed x) arTypes (keyLits_form h)
  rw [keyL, hl, Option.getD_some]
set_option maxRecDepth 100000 in
theorem keyL_inj {x y : Trm} (hx : OkTrm x) (hy : OkTrm y) (e : keyL x = keyL y) : x = y := by
  have hv := arLaw.inj (keyL_of hx) (by rw [e]; exact keyL_of hy)
  simp only [keyV, Value.agg.injEq, Array.mk.injEq, List.cons.injEq, Value.int.injEq, true_and, Value.string.injEq, and_true] at hv
  obtain ⟨h1, h2, h3⟩ := hv
  exact Trm.ext' h1 h2 (str_inj (fun z hz => bounds_u8 (hx.oct z hz)) (fun z hz => bounds_u8 (hy.oct z hz)) (by rw [h3]))

/-- The map in block b has been filled by these terms, one behind the other, each with its place. -/
def MapTo (w : World) (b : Nat) (l : List Trm) : Prop := ∃ D : DataW Unit, w.ownsMap Try.prog 116 (plainElem Try.prog 3) b l.length D ∧ (∀ x ∈ l, OkTrm x) ∧
  (∀ x, OkTrm x → Maps.has D (keyL x) = decide (x ∈ l)) ∧ (Maps.size D = l.length → l.Nodup) ∧
  (l.Nodup → Maps.size D = l.length ∧ ∀ i (hi : i < l.length), D.atKey (keyL l[i]) (.lit (.int .i64 0)) = .lit (.int .i64 i))

set_option maxRecDepth 100000 in
theorem mapTo_made (w : World) : MapTo (w.alloc (.map #[] 0)) w.heap.size [] :=
  ⟨.map [], World.ownsMap_made _ _ _ _, by simp, fun x _ => by simp [Maps.has], fun _ => List.nodup_nil, fun _ => ⟨rfl, fun i hi => by simp at hi⟩⟩
set_option maxRecDepth 100000 in
theorem MapTo.lt {w : World} {b : Nat} {l : List Trm} (h : MapTo w b l) : b < w.heap.size := let ⟨_, h1, _⟩ := h; h1.lt
set_option maxRecDepth 100000 in
theorem MapTo.of_block {w w' : World} {b : Nat} {l : List Trm} (h : MapTo w b l) (hb : w'.heap[b]? = w.heap[b]?) : MapTo w' b l := by
  obtain ⟨D, ⟨es, clock, h1, h2⟩, h3⟩ := h
  exact ⟨D, ⟨es, clock, hb.trans h1, h2⟩, h3⟩
set_option maxRecDepth 100000 in
theorem MapTo.below {w w' : World} {b : Nat} {l : List Trm} (h : MapTo w b l) (hb : Below w.heap.size w w') : MapTo w' b l := h.of_block (hb.block b h.lt)
set_option maxRecDepth 100000 in
theorem MapTo.ok {w : World} {b : Nat} {l : List Trm} (h : MapTo w b l) : ∀ x ∈ l, OkTrm x := let ⟨_, _, h1, _⟩ := h; h1
set_option maxRecDepth 100000 in
theorem nodup_snoc {l : List Trm} {x : Trm} : (l ++ [x]).Nodup ↔ l.Nodup ∧ x ∉ l := by
  rw [List.nodup_append]
  constructor
  · rintro ⟨h1, _, h2⟩
    exact ⟨h1, fun hx => h2 x hx x (by simp) rfl⟩
  · rintro ⟨h1, h2⟩
    refine ⟨h1, by simp, fun a ha c hc e => ?_⟩
    simp at hc
    subst hc
    exact h2 (e ▸ ha)
set_option maxRecDepth 100000 in
theorem MapTo.put {w : World} {b : Nat} {l : List Trm} (h : MapTo w b l) {x : Trm} (hx : OkTrm x) (hl : l.length < 1048576) :
    ∃ w', (Instr.mapUpdate 109 (.map (some b)) (keyV x) (.int .i64 l.length)).run Try.prog w = .ok () w' ∧ MapTo w' b (l ++ [x]) ∧ w.grownBy w' (some b) := by
  obtain ⟨D, hown, hok, hhas, hsz, hat⟩ := h
  obtain ⟨w', hrun, hown', hg⟩ := hown.update arLaw Try.underlying109 (by unfold maxLen; omega) (keyL_of hx) (plainElem_int (a := l.length) Try.underlying3 (WalkArith.wf_i64 (by omega)))
  have hk : WideAt.IsKeyLit (keyL x) := arLaw.key (keyL_of hx)
  have htidy := hown.tidy arLaw
  have hle := hown.size_le
  have hsp := Maps.size_put (k := keyL x) htidy (.lit (.int .i64 l.length))
  rw [hhas x hx] at hsp
  refine ⟨w', hrun, ⟨_, by rw [List.length_append]; exact hown', ?_, ?_, ?_, ?_⟩, hg⟩
  · intro y hy
    rcases List.mem_append.1 hy with hy | hy
    · exact hok y hy
    · simp at hy; subst hy; exact hx
  · intro y hy
    by_cases e : y = x
    · subst e
      rw [Maps.has_put_same hown.isMap hk]
      simp
    · rw [Maps.has_put_other (fun e2 => e (keyL_inj hy hx e2)), hhas y hy]
      simp [e]
  · intro he
    rw [hsp] at he
    by_cases hm : x ∈ l
    · rw [decide_eq_true hm] at he
      simp at he
      omega
    · rw [decide_eq_false hm] at he
      simp at he
      exact nodup_snoc.2 ⟨hsz he, hm⟩
  · intro hn
    obtain ⟨hn1, hm⟩ := nodup_snoc.1 hn
    obtain ⟨h1, h2⟩ := hat hn1
    rw [decide_eq_false hm] at hsp
    refine ⟨by rw [hsp]; simp [h1], fun i hi => ?_⟩
    rcases Nat.lt_or_ge i l.length with h3 | h3
    · have e : (l ++ [x])[i] = l[i] := List.getElem_append_left h3
      rw [e, Maps.atKey_put_other (fun e2 => hm (by rw [← keyL_inj (hok _ (List.getElem_mem h3)) hx e2]; exact List.getElem_mem h3)), h2 i h3]
    · have hi' : i = l.length := by simp at hi; omega
      subst hi'
      have e : (l ++ [x])[l.length] = x := by simp
      rw [e, Maps.atKey_put_same hown.isMap hk]
set_option maxRecDepth 100000 in
theorem MapTo.len {w : World} {b : Nat} {l : List Trm} (h : MapTo w b l) : ∃ s : Nat, (∀ ty, (Builtin.len_ #[109] ty #[.map (some b)]).run Try.prog w = .ok (.int .i64 s) w) ∧ s ≤ l.length ∧ (s = l.length ↔ l.Nodup) := by
  obtain ⟨D, hown, hok, hhas, hsz, hat⟩ := h
  exact ⟨Maps.size D, fun ty => hown.len Try.underlying109 ty, hown.size_le, hsz, fun h => (hat h).1⟩
set_option maxRecDepth 100000 in
theorem arZero (w : World) : (zeroValue 3).run Try.prog w = .ok (.int .i64 0) w := by kernel_rfl
set_option maxRecDepth 100000 in
/-- What is found by a term. -/
theorem MapTo.look {w : World} {b : Nat} {l : List Trm} (h : MapTo w b l) (hn : l.Nodup) {x : Trm} (hx : OkTrm x) :
    (Instr.lookup 109 (.map (some b)) (keyV x) true).run Try.prog w = .ok (.tuple #[.int .i64 (if x ∈ l then (plc x l : Int) else 0), .bool (decide (x ∈ l))]) w := by
  obtain ⟨D, hown, hok, hhas, hsz, hat⟩ := h
  obtain ⟨v, ps, hrun, hv⟩ := hown.look_ok arLaw Try.underlying109 (arZero w) (plainElem_int (a := 0) Try.underlying3 (by decide)) (keyL_of hx)
  obtain ⟨c, rfl, hc, hwc⟩ := plainElem_int_inv Try.underlying3 hv
  have hc' := congrArg Prod.fst hc
  simp only at hc'
  rw [hrun, hhas x hx]
  have : c = if x ∈ l then (plc x l : Int) else 0 := by
    by_cases hm : x ∈ l
    · rw [if_pos hm]
      have hp := plc_mem.1 hm
      have e := (hat hn).2 _ hp
      rw [plc_at hp, hc'] at e
      injection e with e
      injection e with e1 e2
    · rw [if_neg hm]
      have e := Maps.atKey_of_not_has (z := .lit (.int .i64 0)) (by rw [hhas x hx]; exact decide_eq_false hm : Maps.has D (keyL x) = false)
      rw [hc'] at e
      injection e with e
      injection e with e1 e2
  rw [this]
end Go.Proofs.Ytgiapfenalhleaa
namespace Go.Proofs.Ytgiapfenalhleaa
open Go.RowKit Go.WalkArith

set_option maxHeartbeats 1000000 in
theorem anyLong1_any (A : Option Addr) (n c : Nat) (w : World) (hc : n ≤ maxLen) :
    Calls Try.prog 93 #[.slice A n c] w fun e w' => e = .returned (.bool (decide (4096 < n))) ∧ w = w' := by
  unfold maxLen at hc
  have HD := hid (show decide ((4096 : Int) < (n : Int)) = decide (4096 < n) from by simp; omega)
  go_enter Try.func93, Try.ntmps93
  go_wp2
  go_ret
  exact ⟨ret_bool HD.out, rfl⟩

/-- Whether one of the texts is too long. -/
def longT (l : List (List Int)) : Bool := !decide (shortT l)
theorem longT_yes {l : List (List Int)} (h : ¬ shortT l) : longT l = true := by simp [longT, h]
theorem longT_no {l : List (List Int)} (h : shortT l) : longT l = false := by simp [longT, h]
def fitB (i : Nat) (x : Trm) : Bool := decide (Fit i x)
theorem fitB_iff {i : Nat} {x : Trm} : fitB i x = true ↔ Fit i x := by simp [fitB]
theorem short_step {l : List (List Int)} {j : Nat} (hj : j < l.length) (h : shortT (l.take j)) (e : l[j].length ≤ 4096) : shortT (l.take (j + 1)) := by
  rw [List.take_succ_eq_append_getElem hj]
  intro t ht
  rcases List.mem_append.1 ht with ht | ht
  · exact h t ht
  · simp at ht; subst ht; exact e

set_option maxHeartbeats 1000000 in
theorem indexLong_any (A : Option Addr) (n c : Nat) (S : Nat → Prop) (l : List (List Int)) (w : World) (h : Sl lay_Txt w S A n c l) :
    Calls Try.prog 100 #[.slice A n c, .func (.func 93) #[] #[]] w fun e w' => (∃ r : Int, e = .returned (.int .i64 r) ∧ decide (0 ≤ r) = longT l) ∧ w = w' := by
  have HL := hid h.len
  have hcap := h.cap
  unfold maxLen at hcap
  go_enter Try.func100, Try.ntmps100
  go_wp2
  go_loop [8] (fun i => ∃ j : Nat, j ≤ n ∧ i = .int .i64 j ∧ shortT (l.take j)) (fun i => n - (intOf i).toNat)
  case atStart => exact ⟨0, Nat.zero_le _, rfl, by intro t ht; simp at ht⟩
  case round =>
    obtain ⟨j, hj, rfl, hpre⟩ := hrel
    have HP := hid hpre
    clear hpre
    by_cases hlt : j < n
    · obtain ⟨b1, o1, A', n', c', hx1, rfl, hb1, t1, hV1⟩ := txt_atA h hlt
      have HX := hid hV1.len
      have hc2 := Nat.le_trans hV1.cap.1 hV1.cap.2
      clear hV1
      have HA := hid (anyLong1_any A' n' c' w hc2)
      by_cases g1 : 4096 < n'
      · have HN := hid (show decide (0 ≤ (j : Int)) = longT l from by
          rw [decide_eq_true (show (0 : Int) ≤ (j : Int) by omega), longT_yes fun k => by have := k _ (List.getElem_mem hx1); rw [HX.out] at this; omega])
        rw [decide_eq_true g1] at HA
        go_wp2_with (go_at_call 93; go_must (refine HA.out.mono ?_; rintro e w1 ⟨rfl, rfl⟩))
        go_ret
        exact ⟨⟨_, rfl, HN.out⟩, rfl⟩
      · have HN := hid (short_step hx1 HP.out (by rw [HX.out]; omega))
        rw [decide_eq_false g1] at HA
        go_wp2_with (go_at_call 93; go_must (refine HA.out.mono ?_; rintro e w1 ⟨rfl, rfl⟩))
        go_round
        case rel => exact ⟨j + 1, by omega, by go_num, HN.out⟩
        case measure => simp [intOf]; omega
    · have HN := hid (show decide (0 ≤ (-1 : Int)) = longT l from by
        have := HP.out
        rw [List.take_of_length_le (by rw [HL.out]; omega)] at this
        rw [decide_eq_false (by omega), longT_no this])
      go_wp2
      go_ret
      exact ⟨⟨_, rfl, HN.out⟩, rfl⟩

set_option maxHeartbeats 1000000 in
theorem containsLong_any (A : Option Addr) (n c : Nat) (S : Nat → Prop) (l : List (List Int)) (w : World) (h : Sl lay_Txt w S A n c l) :
    Calls Try.prog 92 #[.slice A n c, .func (.func 93) #[] #[]] w fun e w' => e = .returned (.bool (longT l)) ∧ w = w' := by
  go_enter Try.func92, Try.ntmps92
  go_wp2_with (go_at_call 100; go_must (refine (indexLong_any _ _ _ _ _ _ h).mono ?_; rintro e w1 ⟨⟨r, rfl, hr⟩, rfl⟩))
  have HR := hid hr
  clear hr
  go_wp2
  go_ret
  exact ⟨rfl, rfl⟩

set_option maxHeartbeats 1000000 in
theorem anyLong_any (A : Option Addr) (n c : Nat) (S : Nat → Prop) (l : List (List Int)) (w : World) (h : Sl lay_Txt w S A n c l) :
    Calls Try.prog 76 #[.slice A n c] w fun e w' => e = .returned (.bool (longT l)) ∧ w = w' := by
  go_enter Try.func76, Try.ntmps76
  go_wp2_with (go_at_call 92; go_must (refine (containsLong_any _ _ _ _ _ _ h).mono ?_; rintro e w1 ⟨rfl, rfl⟩))
  go_ret
  exact ⟨rfl, rfl⟩
/-- One text, laid in a block of its own just now. -/
theorem anyLong_one (A : Option Addr) (n c : Nat) (t : List Int) (w : World) (h : Sl (Lay.int .u8) w (· < w.heap.size) A n c t) :
    Calls Try.prog 76 #[.slice (some ⟨w.heap.size, 0, none⟩) 1 1] (w.alloc (.cells #[.slice A n c] 46)) fun e w' => e = .returned (.bool (decide (4096 < n))) ∧ Below w.heap.size w w' := by
  have hb : Below w.heap.size w (w.alloc (Obj.cells #[.slice A n c] 46)) := bel_alloc (Below.refl _ _) _
  have hs : Sl lay_Txt (w.alloc (Obj.cells #[.slice A n c] 46)) (· < (w.alloc (Obj.cells #[.slice A n c] 46)).heap.size) (some ⟨w.heap.size, 0, none⟩) 1 1 [t] :=
    Sl.lit1 (cs := [.slice A n c]) (by simp) ⟨A, n, c, rfl, Sl.call h hb⟩ fun i v hv => by
      match i, hv with
      | 0, hv => simp at hv; subst hv; rw [World.cell?_alloc_at _ _ _ _ rfl]; rfl
  refine (anyLong_any _ _ _ _ _ _ hs).mono ?_
  rintro e w1 ⟨rfl, rfl⟩
  refine ⟨ret_bool ?_, hb⟩
  have hl := h.len
  by_cases g : 4096 < n
  · rw [decide_eq_true g, longT_yes fun k => by have := k t (by simp); omega]
  · rw [decide_eq_false g, longT_no fun x hx => by simp at hx; subst hx; omega]

set_option maxRecDepth 100000 in
set_option maxHeartbeats 2000000 in
theorem mayStand_any (s : Array Value) (x : Trm) (i : Nat) (w : World) (h : lay_Term.rep w (· < w.heap.size) x s.toList) (hi : i ≤ 1048576) :
    Calls Try.prog 91 #[.agg s, .int .i64 i] w fun e w' => e = .returned (.bool (fitB i x)) ∧ Below w.heap.size w w' := by
  obtain ⟨A, n, c, rfl, h1, h2, hV⟩ := agg_Term h
  clear h
  have bK := bounds_u64 h1
  have bU := bounds_i64 h2
  have HX := hid hV.len
  have hcap := hV.cap
  unfold maxLen at hcap
  have hb0 : Below w.heap.size w (w.alloc (Obj.cells #[.int .u64 x.Key, .int .i64 x.Up, .slice A n c] 62)) := bel_alloc (Below.refl _ _) _
  have hx0 := heap_alloc_new w (Obj.cells #[.int .u64 x.Key, .int .i64 x.Up, .slice A n c] 62)
  have HA := hid (anyLong_one A n c x.Text (w.alloc (Obj.cells #[.int .u64 x.Key, .int .i64 x.Up, .slice A n c] 62)) (Sl.call hV hb0))
  have hsz : (w.alloc (Obj.cells #[.int .u64 x.Key, .int .i64 x.Up, .slice A n c] 62)).heap.size = w.heap.size + 1 := by simp
  rw [hsz] at HA
  clear h1 h2 hV
  by_cases g1 : 4096 < n
  · have HD := hid (show fitB i x = false from Bool.eq_false_iff.2 fun k => by have := (fitB_iff.1 k).2.2.2; rw [HX.out] at this; omega)
    rw [decide_eq_true g1] at HA
    go_enter Try.func91, Try.ntmps91
    go_wp2_with (go_at_call 76; go_must (refine HA.out.mono ?_; rintro e w1 ⟨rfl, hb1⟩))
    go_ret
    exact ⟨ret_bool HD.out.symm, hb0.trans (hb1.mono (by omega))⟩
  rw [decide_eq_false g1] at HA
  have HF := hid (show fitB i x = true ↔ (x.Up = -1 ∨ 0 ≤ x.Up ∧ x.Up < i ∧ x.Key = 0) from by
    have hl := HX.out
    rw [fitB_iff]
    constructor
    · intro k
      obtain ⟨k1, k2, k3, k4⟩ := k
      by_cases hu : x.Up = -1
      · exact .inl hu
      · exact .inr ⟨by omega, k2, k3 (by omega)⟩
    · rintro (k | ⟨k1, k2, k3⟩)
      · exact ⟨by omega, by omega, fun k5 => by omega, by omega⟩
      · exact ⟨by omega, k2, fun _ => k3, by omega⟩)
  clear bK
  generalize fitB i x = F at *
  generalize x.Up = up at *
  generalize x.Key = key at *
  have HGO : ∀ r : Bool, r = (up == -1 || (decide (0 ≤ up) && decide (up < (i : Int)) && (key == 0))) → Hid (F = r) := fun r hr => hid (by
    have := HF.out
    by_cases hF : F = true
    · rw [hF, hr]
      rcases this.1 hF with k | ⟨k1, k2, k3⟩
      · simp [k]
      · simp [k1, k2, k3]
    · rw [Bool.eq_false_iff.2 hF, hr]
      have k := fun q => hF (this.2 q)
      by_cases q1 : up = -1
      · exact absurd (.inl q1) k
      by_cases q2 : 0 ≤ up ∧ up < (i : Int) ∧ key = 0
      · exact absurd (.inr q2) k
      simp [q1]
      intro a b c
      exact q2 ⟨a, b, c⟩)
  by_cases q1 : up = -1
  · subst q1
    have HR := HGO true (by simp)
    clear HGO
    go_enter Try.func91, Try.ntmps91
    go_wp2_with fail
    refine HA.out.mono ?_
    rintro e w1 ⟨rfl, hb1⟩
    have y0 := (hb1.block w.heap.size (by simp)).trans hx0
    have z1 : w1.cell? ⟨w.heap.size, 1, none⟩ = some (.int .i64 (-1)) := by simp [World.cell?, y0]
    have HB := bel_call hb0 (by rw [hsz]; exact hb1)
    go_wp2
    go_ret
    exact ⟨ret_bool HR.out.symm, HB⟩
  have p1 : (up == -1) = false := by simpa using q1
  by_cases q2 : 0 ≤ up
  · have p2 : decide (0 ≤ up) = true := by simpa using q2
    by_cases q3 : up < (i : Int)
    · have p3 : decide (up < (i : Int)) = true := by simpa using q3
      have HR := HGO (key == 0) (by rw [p1, p2, p3]; simp)
      clear HGO
      go_enter Try.func91, Try.ntmps91
      go_wp2_with fail
      refine HA.out.mono ?_
      rintro e w1 ⟨rfl, hb1⟩
      have y0 := (hb1.block w.heap.size (by simp)).trans hx0
      have z0 : w1.cell? ⟨w.heap.size, 0, none⟩ = some (.int .u64 key) := by simp [World.cell?, y0]
      have z1 : w1.cell? ⟨w.heap.size, 1, none⟩ = some (.int .i64 up) := by simp [World.cell?, y0]
      have HB := bel_call hb0 (by rw [hsz]; exact hb1)
      go_wp2
      go_ret
      exact ⟨ret_bool HR.out.symm, HB⟩
    · have p3 : decide (up < (i : Int)) = false := by simpa using q3
      have HR := HGO false (by rw [p1, p2, p3]; simp)
      clear HGO
      go_enter Try.func91, Try.ntmps91
      go_wp2_with fail
      refine HA.out.mono ?_
      rintro e w1 ⟨rfl, hb1⟩
      have y0 := (hb1.block w.heap.size (by simp)).trans hx0
      have z0 : w1.cell? ⟨w.heap.size, 0, none⟩ = some (.int .u64 key) := by simp [World.cell?, y0]
      have z1 : w1.cell? ⟨w.heap.size, 1, none⟩ = some (.int .i64 up) := by simp [World.cell?, y0]
      have HB := bel_call hb0 (by rw [hsz]; exact hb1)
      go_wp2
      go_ret
      exact ⟨ret_bool HR.out.symm, HB⟩
  · have p2 : decide (0 ≤ up) = false := by simpa using q2
    have HR := HGO false (by rw [p1, p2]; simp)
    clear HGO
    go_enter Try.func91, Try.ntmps91
    go_wp2_with fail
    refine HA.out.mono ?_
    rintro e w1 ⟨rfl, hb1⟩
    have y0 := (hb1.block w.heap.size (by simp)).trans hx0
    have z0 : w1.cell? ⟨w.heap.size, 0, none⟩ = some (.int .u64 key) := by simp [World.cell?, y0]
    have z1 : w1.cell? ⟨w.heap.size, 1, none⟩ = some (.int .i64 up) := by simp [World.cell?, y0]
    have HB := bel_call hb0 (by rw [hsz]; exact hb1)
    go_wp2
    go_ret
    exact ⟨ret_bool HR.out.symm, HB⟩

set_option maxHeartbeats 1000000 in
theorem formOf_any (s : Array Value) (x : Trm) (w : World) (h : lay_Term.rep w (· < w.heap.size) x s.toList) :
    Calls Try.prog 77 #[.agg s] w fun e w' => e = .returned (keyV x) ∧ Below w.heap.size w w' := by
  obtain ⟨A, n, c, rfl, h1, h2, hV⟩ := agg_Term h
  clear h
  unfold keyV
  have hb0 : Below w.heap.size w ((w.alloc (Obj.cells #[.int .u64 x.Key, .int .i64 x.Up, .slice A n c] 62)).alloc (Obj.cells #[.int .u64 0, .int .i64 0, .string ⟨#[]⟩] 116)) := bel_alloc (bel_alloc (Below.refl _ _) _) _
  have hx1 := cell_alloc2 (w := w) (a := Obj.cells #[.int .u64 x.Key, .int .i64 x.Up, .slice A n c] 62) (b := Obj.cells #[.int .u64 0, .int .i64 0, .string ⟨#[]⟩] 116)
  have hv : Var3 _ (w.heap.size + 1) 116 _ _ _ := hx1.2
  have hv0 : Var3 _ w.heap.size 62 _ _ _ := hx1.1
  have k1 := ((hV.rd (B := w.heap.size) fun _ h => h).below hb0).str (P := Try.prog) Try.underlying46 Try.underlying5 Try.underlying9
  clear h1 h2 hV hx1
  generalize strOfNums x.Text = str at *
  generalize x.Key = key at *
  generalize x.Up = up at *
  go_enter Try.func77, Try.ntmps77
  go_upto_region 1 with (fail)
  generalize ((w.alloc (Obj.cells #[.int .u64 key, .int .i64 up, .slice A n c] 62)).alloc (Obj.cells #[.int .u64 0, .int .i64 0, .string ⟨#[]⟩] 116)) = W at *
  have c0 := hv0.c0
  have c1 := hv0.c1
  have c2 := hv0.c2
  have d0 := hv.c0
  have d1 := hv.c1
  have d2 := hv.c2
  have f0 := hv.f 0
  have f1 := hv.f 1
  have f2 := hv.f 2
  have hv' := hid (hv.set (.int .u64 key) (.int .i64 up) (.string str))
  have HB := hid (((hb0.setCell (p := ⟨w.heap.size + 1, 0, none⟩) (by show w.heap.size ≤ w.heap.size + 1; omega) (.int .u64 key)).setCell (p := ⟨w.heap.size + 1, 1, none⟩) (by show w.heap.size ≤ w.heap.size + 1; omega) (.int .i64 up)).setCell (p := ⟨w.heap.size + 1, 2, none⟩) (by show w.heap.size ≤ w.heap.size + 1; omega) (.string str))
  clear hv hv0 hb0
  go_wp2
  refine bodyPost_ret_by (results_c rfl _ _ (w.heap.size + 1) 0 rfl [.int .u64 key, .int .i64 up, .string str] _ (range3 hv'.out.c0 hv'.out.c1 hv'.out.c2) Try.underlying116 rfl (by kernel_rfl)) rfl ?_
  exact ⟨rfl, HB.out⟩

set_option maxHeartbeats 1000000 in
theorem isTag_any (s : Array Value) (l : List Trm) (u : Int) (w : World) (g : lay_Arena.rep w (· < w.heap.size) l s.toList) (hu : (Lit.int .i64 u).wf = true) :
    Calls Try.prog 61 #[.agg s, .int .i64 u] w fun e w' => e = .returned (.bool (decide (0 ≤ u) && decide (u < l.length))) ∧ Below w.heap.size w w' := by
  obtain ⟨A, n, c, rfl, h⟩ := agg_Arena g
  clear g
  rw [h.len]
  have hcap := h.cap
  unfold maxLen at hcap
  have bU := bounds_i64 hu
  have hb0 : Below w.heap.size w (w.alloc (Obj.cells #[.slice A n c] 24)) := bel_alloc (Below.refl _ _) _
  by_cases g1 : 0 ≤ u
  · have d1 : decide (0 ≤ u) = true := by simpa using g1
    have HR := hid (show decide (u < (n : Int)) = (decide (0 ≤ u) && decide (u < (n : Int))) from by rw [d1, Bool.true_and])
    go_enter Try.func61, Try.ntmps61
    go_wp2
    go_ret
    exact ⟨ret_bool HR.out, hb0⟩
  · have d1 : decide (0 ≤ u) = false := by simpa using g1
    go_enter Try.func61, Try.ntmps61
    go_wp2
    go_ret
    exact ⟨ret_bool rfl, hb0⟩

set_option maxHeartbeats 1000000 in
theorem aSame1_any (s1 s2 : Array Value) (S : Nat → Prop) (x y : Trm) (w : World) (h1 : lay_Term.rep w S x s1.toList) (h2 : lay_Term.rep w S y s2.toList) (hS : ∀ b, S b → b < w.heap.size) :
    Calls Try.prog 65 #[.agg s1, .agg s2] w fun e w' => e = .returned (.bool (decide (x = y))) ∧ Below w.heap.size w w' := by
  obtain ⟨A1, n1, c1, rfl, -, -, hV1⟩ := agg_Term h1
  obtain ⟨A2, n2, c2, rfl, -, -, hV2⟩ := agg_Term h2
  have hb0 : Below w.heap.size w ((w.alloc (Obj.cells #[.int .u64 x.Key, .int .i64 x.Up, .slice A1 n1 c1] 62)).alloc (Obj.cells #[.int .u64 y.Key, .int .i64 y.Up, .slice A2 n2 c2] 62)) := bel_alloc (bel_alloc (Below.refl _ _) _) _
  have R1 := hid ((hV1.rd hS).below hb0)
  have R2 := hid ((hV2.rd hS).below hb0)
  clear hV1 hV2 h1 h2
  by_cases hk : x.Key = y.Key
  · have hk' : (x.Key == y.Key) = true := by simpa using hk
    by_cases hu : x.Up = y.Up
    · have hu' : (x.Up == y.Up) = true := by simpa using hu
      have HD := hid (show decide (x = y) = decide (x.Text = y.Text) from by
        by_cases hv : x.Text = y.Text
        · rw [decide_eq_true (Trm.ext' hk hu hv), decide_eq_true hv]
        · rw [decide_eq_false hv, decide_eq_false fun e => hv (by rw [e])])
      clear hk hu
      go_enter Try.func65, Try.ntmps65
      go_wp2_with (go_at_call 66; go_must (refine (equal_any _ _ _ _ _ _ _ _ _ _ _ R1.out R2.out).mono ?_; rintro e w' ⟨rfl, rfl⟩))
      go_ret
      exact ⟨ret_bool HD.out.symm, hb0⟩
    · have hu' : (x.Up == y.Up) = false := by simpa using hu
      have HD := hid (show decide (x = y) = false from decide_eq_false fun e => hu (by rw [e]))
      clear hk hu
      go_enter Try.func65, Try.ntmps65
      go_wp2
      go_ret
      exact ⟨ret_bool HD.out.symm, hb0⟩
  · have hk' : (x.Key == y.Key) = false := by simpa using hk
    have HD := hid (show decide (x = y) = false from decide_eq_false fun e => hk (by rw [e]))
    clear hk
    go_enter Try.func65, Try.ntmps65
    go_wp2
    go_ret
    exact ⟨ret_bool HD.out.symm, hb0⟩

set_option maxRecDepth 100000 in
set_option maxHeartbeats 1000000 in
theorem aEqualFunc_any (A1 A2 : Option Addr) (n1 c1 n2 c2 : Nat) (l o : List Trm) (w : World) (h1 : Sl lay_Term w (· < w.heap.size) A1 n1 c1 l) (h2 : Sl lay_Term w (· < w.heap.size) A2 n2 c2 o) :
    Calls Try.prog 64 #[.slice A1 n1 c1, .slice A2 n2 c2, .func (.func 65) #[] #[]] w fun e w' => e = .returned (.bool (decide (l = o))) ∧ Below w.heap.size w w' := by
  have K1 := hid h1.len
  have K2 := hid h2.len
  have k1 := h1.cap
  have k2 := h2.cap
  unfold maxLen at k1 k2
  by_cases hl : n1 = n2
  · subst hl
    have hne : ((n1 : Int) != (n1 : Int)) = false := by simp
    go_enter Try.func64, Try.ntmps64
    go_wp2
    go_loopw [17] (fun i wr => ∃ j : Nat, j ≤ n1 ∧ i = .int .i64 j ∧ l.take j = o.take j ∧ Below w.heap.size w wr) (fun i _ => n1 - (intOf i).toNat)
    case atStart => exact ⟨0, Nat.zero_le _, rfl, rfl, Below.refl _ _⟩
    case round =>
      obtain ⟨j, hj, rfl, hpre, hbel⟩ := hrel
      have HP := hid hpre
      clear hpre
      by_cases hlt : j < n1
      · obtain ⟨b1, o1, A', n', c', hx1, rfl, hb1, t1, u1, v1, e1, e2, hV1⟩ := trm_at h1 hlt
        obtain ⟨b2, o2, A'', n'', c'', hx2, rfl, hb2, t2, u2, v2, e3, e4, hV2⟩ := trm_at h2 hlt
        have q1 := (hbel.cell (p := ⟨b1, o1 + j * 3, none⟩) hb1).trans t1
        have q2 := (hbel.cell (p := ⟨b1, o1 + j * 3 + 1, none⟩) hb1).trans u1
        have q3 := (hbel.cell (p := ⟨b1, o1 + j * 3 + 2, none⟩) hb1).trans v1
        have q4 := (hbel.cell (p := ⟨b2, o2 + j * 3, none⟩) hb2).trans t2
        have q5 := (hbel.cell (p := ⟨b2, o2 + j * 3 + 1, none⟩) hb2).trans u2
        have q6 := (hbel.cell (p := ⟨b2, o2 + j * 3 + 2, none⟩) hb2).trans v2
        have hg1 : b1 < wr.heap.size := Nat.lt_of_lt_of_le hb1 hbel.size
        have hg2 : b2 < wr.heap.size := Nat.lt_of_lt_of_le hb2 hbel.size
        have hbb := (hbel.alloc hbel.size (Obj.cells #[.int .u64 l[j].Key, .int .i64 l[j].Up, .slice A' n' c'] 62)).alloc (by have := hbel.size; simp; omega) (Obj.cells #[.int .u64 o[j].Key, .int .i64 o[j].Up, .slice A'' n'' c''] 62)
        have P1 := hid (show lay_Term.rep _ (· < w.heap.size) l[j] #[.int .u64 l[j].Key, .int .i64 l[j].Up, .slice A' n' c'].toList from rep_Term.2 ⟨A', n', c', rfl, e1, e2, hV1.keep fun _ hp => hbb.cell hp⟩)
        have P2 := hid (show lay_Term.rep _ (· < w.heap.size) o[j] #[.int .u64 o[j].Key, .int .i64 o[j].Up, .slice A'' n'' c''].toList from rep_Term.2 ⟨A'', n'', c'', rfl, e3, e4, hV2.keep fun _ hp => hbb.cell hp⟩)
        have HS := hid (fun (b : Nat) (h : b < w.heap.size) => Nat.lt_of_lt_of_le h hbb.size)
        clear t1 v1 t2 v2 u1 u2 hV1 hV2 e1 e2 e3 e4
        by_cases he : l[j] = o[j]
        · have HN := hid (take_sameT hx1 hx2 HP.out he)
          have HD := hid (decide_eq_true he)
          clear he
          go_wp2_with (go_at_call 65; go_must (refine (aSame1_any _ _ _ l[j] o[j] _ P1.out P2.out HS.out).mono ?_; rw [HD.out]; rintro e w2 ⟨rfl, hb2⟩))
          go_roundw
          case rel => exact ⟨j + 1, by omega, by go_num, HN.out, hbb.trans (hb2.mono hbb.size)⟩
          case measure => simp [intOf]; omega
        · have HN := hid (show decide (l = o) = false from decide_eq_false fun e => he (by simp only [e]))
          have HD := hid (decide_eq_false he)
          clear he
          go_wp2_with (go_at_call 65; go_must (refine (aSame1_any _ _ _ l[j] o[j] _ P1.out P2.out HS.out).mono ?_; rw [HD.out]; rintro e w2 ⟨rfl, hb2⟩))
          go_ret
          exact ⟨ret_bool HN.out.symm, hbb.trans (hb2.mono hbb.size)⟩
      · have HN := hid (show decide (l = o) = true from by
          have := HP.out
          rw [List.take_of_length_le (by rw [K1.out]; omega), List.take_of_length_le (by rw [K2.out]; omega)] at this
          exact decide_eq_true this)
        go_wp2
        go_ret
        exact ⟨ret_bool HN.out.symm, hbel⟩
  · have hne : ((n1 : Int) != (n2 : Int)) = true := by simp; omega
    have HN := hid (show decide (l = o) = false from decide_eq_false fun e => by rw [e] at K1; have a1 := K1.out; have a2 := K2.out; omega)
    go_enter Try.func64, Try.ntmps64
    go_wp2
    go_ret
    exact ⟨ret_bool HN.out.symm, Below.refl _ _⟩

set_option maxHeartbeats 1000000 in
theorem aSame_any (s1 s2 : Array Value) (l o : List Trm) (w : World) (g1 : lay_Arena.rep w (· < w.heap.size) l s1.toList) (g2 : lay_Arena.rep w (· < w.heap.size) o s2.toList) :
    Calls Try.prog 32 #[.agg s1, .agg s2] w fun e w' => e = .returned (.bool (decide (l = o))) ∧ Below w.heap.size w w' := by
  obtain ⟨A1, n1, c1, rfl, h1⟩ := agg_Arena g1
  obtain ⟨A2, n2, c2, rfl, h2⟩ := agg_Arena g2
  clear g1 g2
  have hb0 : Below w.heap.size w ((w.alloc (Obj.cells #[.slice A1 n1 c1] 24)).alloc (Obj.cells #[.slice A2 n2 c2] 24)) := bel_alloc (bel_alloc (Below.refl _ _) _) _
  have P1 := hid (Sl.call h1 hb0)
  have P2 := hid (Sl.call h2 hb0)
  clear h1 h2
  go_enter Try.func32, Try.ntmps32
  go_wp2_with (go_at_call 64; go_must (refine (aEqualFunc_any _ _ _ _ _ _ l o _ P1.out P2.out).mono ?_; rintro e w1 ⟨rfl, hb1⟩))
  go_ret
  exact ⟨rfl, bel_call hb0 hb1⟩
end Go.Proofs.Ytgiapfenalhleaa
