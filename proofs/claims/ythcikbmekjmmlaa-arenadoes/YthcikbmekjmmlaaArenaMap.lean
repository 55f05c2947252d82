/-
  A map from terms, told by their key, the place they came of, and their octets as a string, to places: what it holds behind each term that is put in, how many, and what is found by a term.
-/
import Derived.Test.YthcikbmekjmmlaaArenaRef1
import Derived.Maps.OwnSet
import Derived.DeepKeys4
namespace Go.Proofs.Ythcikbmekjmmlaa
open Go.RowKit Go.WalkArith Go.Maps

theorem arLaidOut : laidOutB Try.prog = true := by kernel_rfl
theorem arWide : (match Try.prog.underlying 63 with | some (.array _ _) | some (.struct _) => true | _ => false) = true := by rw [Try.underlying63]
theorem arLaw : Keyed Try.prog 63 := Keyed.of_law (deep_law_laid arLaidOut (m := 2) (by omega) (of_decide_eq_true (by kernel_rfl)) (by kernel_rfl) arWide)
theorem arKeyType : Try.prog.keyType 63 = true := by kernel_rfl
theorem arCells : Try.prog.cellsOf 63 = 3 := by kernel_rfl
theorem arCellsU : Try.prog.cellsOf 25 = 1 := by kernel_rfl
theorem arCellsI : Try.prog.cellsOf 3 = 1 := by kernel_rfl
theorem arCellsS : Try.prog.cellsOf 9 = 1 := by kernel_rfl
theorem arTypes : 0 < Try.prog.types.size := of_decide_eq_true (by kernel_rfl)
theorem keyOf_struct {P : Program} {k : TypeId} {fs : Array Field} {v : Value} {ls : List Lit} (hu : P.underlying k = some (.struct fs)) (hk : P.keyType k = true) (hf : v.formed P k = true) (h0 : 0 < P.types.size)
    (hl : ∀ d, P.keyLits (d + 1 + 1) k v.cells.toList = some ls) : keyOf P k v = some (.string (keyBytes ls)) := by
  obtain ⟨d, hd⟩ : ∃ d, P.types.size = d + 1 := ⟨P.types.size - 1, by omega⟩
  unfold keyOf
  rw [hu]
  simp only [hk, hf, Bool.true_and, if_true]
  rw [hd, hl]
  rfl

/-- What tells a term from all others, as the program has it. -/
def keyV (x : Trm) : Value := .agg #[.int .u64 x.Key, .int .i64 x.Up, .string (strOfNums x.Text)]
structure OkTrm (x : Trm) : Prop where
  key : (Lit.int .u64 x.Key).wf = true
  up : (Lit.int .i64 x.Up).wf = true
  oct : ∀ y ∈ x.Text, (Lit.int .u8 y).wf = true
  len : x.Text.length ≤ 4096
noncomputable def keyL (x : Trm) : Lit := (keyOf Try.prog 63 (keyV x)).getD (.bool false)
theorem str_size (xs : List Int) : (strOfNums xs).size = xs.length := by simp [strOfNums, ByteArray.size]
theorem keyLits_form {x : Trm} (h : OkTrm x) (d : Nat) : Try.prog.keyLits (d + 1 + 1) 63 [.int .u64 x.Key, .int .i64 x.Up, .string (strOfNums x.Text)] = some [.int .u64 x.Key, .int .i64 x.Up, .string (strOfNums x.Text).data.toList] := by
  have hs : (strOfNums x.Text).size ≤ maxLen := by rw [str_size]; have := h.len; unfold maxLen; omega
  have h1 := h.key
  have h2 := h.up
  generalize strOfNums x.Text = s at *
  simp [Program.keyLits, Try.underlying63, arCells, arCellsU, arCellsI, arCellsS, Try.underlying25, Try.underlying3, Try.underlying9, h1, h2, hs]
theorem keyV_formed (x : Trm) : (keyV x).formed Try.prog 63 = true := by simp [keyV, Value.formed, Try.underlying63, arCells]
theorem keyL_of {x : Trm} (h : OkTrm x) : keyOf Try.prog 63 (keyV x) = some (keyL x) := by
  have hl := keyOf_struct Try.underlying63 arKeyType (keyV_formed x) arTypes (keyLits_form h)
  rw [keyL, hl, Option.getD_some]
theorem keyL_inj {x y : Trm} (hx : OkTrm x) (hy : OkTrm y) (e : keyL x = keyL y) : x = y := by
  have hv := arLaw.inj (keyL_of hx) (by rw [e]; exact keyL_of hy)
  simp only [keyV, Value.agg.injEq, Array.mk.injEq, List.cons.injEq, Value.int.injEq, true_and, Value.string.injEq, and_true] at hv
  obtain ⟨h1, h2, h3⟩ := hv
  exact Trm.ext' h1 h2 (str_inj (fun z hz => bounds_u8 (hx.oct z hz)) (fun z hz => bounds_u8 (hy.oct z hz)) (by rw [h3]))

/-- The map in block b has been filled by these terms, one behind the other, each with its place. -/
def MapTo (w : World) (b : Nat) (l : List Trm) : Prop := ∃ D : DataW Unit, w.ownsMap Try.prog 63 (plainElem Try.prog 3) b l.length D ∧ (∀ x ∈ l, OkTrm x) ∧
  (∀ x, OkTrm x → Maps.has D (keyL x) = decide (x ∈ l)) ∧ (Maps.size D = l.length → l.Nodup) ∧
  (l.Nodup → Maps.size D = l.length ∧ ∀ i (hi : i < l.length), D.atKey (keyL l[i]) (.lit (.int .i64 0)) = .lit (.int .i64 i))

theorem mapTo_made (w : World) : MapTo (w.alloc (.map #[] 0)) w.heap.size [] :=
  ⟨.map [], World.ownsMap_made _ _ _ _, by simp, fun x _ => by simp [Maps.has], fun _ => List.nodup_nil, fun _ => ⟨rfl, fun i hi => by simp at hi⟩⟩
theorem MapTo.lt {w : World} {b : Nat} {l : List Trm} (h : MapTo w b l) : b < w.heap.size := let ⟨_, h1, _⟩ := h; h1.lt
theorem MapTo.of_block {w w' : World} {b : Nat} {l : List Trm} (h : MapTo w b l) (hb : w'.heap[b]? = w.heap[b]?) : MapTo w' b l := by
  obtain ⟨D, ⟨es, clock, h1, h2⟩, h3⟩ := h
  exact ⟨D, ⟨es, clock, hb.trans h1, h2⟩, h3⟩
theorem MapTo.below {w w' : World} {b : Nat} {l : List Trm} (h : MapTo w b l) (hb : Below w.heap.size w w') : MapTo w' b l := h.of_block (hb.block b h.lt)
theorem MapTo.ok {w : World} {b : Nat} {l : List Trm} (h : MapTo w b l) : ∀ x ∈ l, OkTrm x := let ⟨_, _, h1, _⟩ := h; h1
theorem nodup_snoc {l : List Trm} {x : Trm} : (l ++ [x]).Nodup ↔ l.Nodup ∧ x ∉ l := by
  rw [List.nodup_append]
  constructor
  · rintro ⟨h1, _, h2⟩
    exact ⟨h1, fun hx => h2 x hx x (by simp) rfl⟩
  · rintro ⟨h1, h2⟩
    refine ⟨h1, by simp, fun a ha c hc e => ?_⟩
    simp at hc
    subst hc
    exact h2 (e ▸ ha)
theorem MapTo.put {w : World} {b : Nat} {l : List Trm} (h : MapTo w b l) {x : Trm} (hx : OkTrm x) (hl : l.length < 1048576) :
    ∃ w', (Instr.mapUpdate 54 (.map (some b)) (keyV x) (.int .i64 l.length)).run Try.prog w = .ok () w' ∧ MapTo w' b (l ++ [x]) ∧ w.grownBy w' (some b) := by
  obtain ⟨D, hown, hok, hhas, hsz, hat⟩ := h
  obtain ⟨w', hrun, hown', hg⟩ := hown.update arLaw Try.underlying54 (by unfold maxLen; omega) (keyL_of hx) (plainElem_int (a := l.length) Try.underlying3 (WalkArith.wf_i64 (by omega)))
  have hk : WideAt.IsKeyLit (keyL x) := arLaw.key (keyL_of hx)
  have htidy := hown.tidy arLaw
  have hle := hown.size_le
  have hsp := Maps.size_put (k := keyL x) htidy (.lit (.int .i64 l.length))
  rw [hhas x hx] at hsp
  refine ⟨w', hrun, ⟨_, by rw [List.length_append]; exact hown', ?_, ?_, ?_, ?_⟩, hg⟩
  · intro y hy
    rcases List.mem_append.1 hy with hy | hy
    · exact hok y hy
    · simp at hy; subst hy; exact hx
  · intro y hy
    by_cases e : y = x
    · subst e
      rw [Maps.has_put_same hown.isMap hk]
      simp
    · rw [Maps.has_put_other (fun e2 => e (keyL_inj hy hx e2)), hhas y hy]
      simp [e]
  · intro he
    rw [hsp] at he
    by_cases hm : x ∈ l
    · rw [decide_eq_true hm] at he
      simp at he
      omega
    · rw [decide_eq_false hm] at he
      simp at he
      exact nodup_snoc.2 ⟨hsz he, hm⟩
  · intro hn
    obtain ⟨hn1, hm⟩ := nodup_snoc.1 hn
    obtain ⟨h1, h2⟩ := hat hn1
    rw [decide_eq_false hm] at hsp
    refine ⟨by rw [hsp]; simp [h1], fun i hi => ?_⟩
    rcases Nat.lt_or_ge i l.length with h3 | h3
    · have e : (l ++ [x])[i] = l[i] := List.getElem_append_left h3
      rw [e, Maps.atKey_put_other (fun e2 => hm (by rw [← keyL_inj (hok _ (List.getElem_mem h3)) hx e2]; exact List.getElem_mem h3)), h2 i h3]
    · have hi' : i = l.length := by simp at hi; omega
      subst hi'
      have e : (l ++ [x])[l.length] = x := by simp
      rw [e, Maps.atKey_put_same hown.isMap hk]
theorem MapTo.len {w : World} {b : Nat} {l : List Trm} (h : MapTo w b l) : ∃ s : Nat, (∀ ty, (Builtin.len_ #[54] ty #[.map (some b)]).run Try.prog w = .ok (.int .i64 s) w) ∧ s ≤ l.length ∧ (s = l.length ↔ l.Nodup) := by
  obtain ⟨D, hown, hok, hhas, hsz, hat⟩ := h
  exact ⟨Maps.size D, fun ty => hown.len Try.underlying54 ty, hown.size_le, hsz, fun h => (hat h).1⟩
theorem arZero (w : World) : (zeroValue 3).run Try.prog w = .ok (.int .i64 0) w := by kernel_rfl
/-- What is found by a term. -/
theorem MapTo.look {w : World} {b : Nat} {l : List Trm} (h : MapTo w b l) (hn : l.Nodup) {x : Trm} (hx : OkTrm x) :
    (Instr.lookup 54 (.map (some b)) (keyV x) true).run Try.prog w = .ok (.tuple #[.int .i64 (if x ∈ l then (plc x l : Int) else 0), .bool (decide (x ∈ l))]) w := by
  obtain ⟨D, hown, hok, hhas, hsz, hat⟩ := h
  obtain ⟨v, ps, hrun, hv⟩ := hown.look_ok arLaw Try.underlying54 (arZero w) (plainElem_int (a := 0) Try.underlying3 (by decide)) (keyL_of hx)
  obtain ⟨c, rfl, hc, hwc⟩ := plainElem_int_inv Try.underlying3 hv
  have hc' := congrArg Prod.fst hc
  simp only at hc'
  rw [hrun, hhas x hx]
  have : c = if x ∈ l then (plc x l : Int) else 0 := by
    by_cases hm : x ∈ l
    · rw [if_pos hm]
      have hp := plc_mem.1 hm
      have e := (hat hn).2 _ hp
      rw [plc_at hp, hc'] at e
      injection e with e
      injection e with e1 e2
    · rw [if_neg hm]
      have e := Maps.atKey_of_not_has (z := .lit (.int .i64 0)) (by rw [hhas x hx]; exact decide_eq_false hm : Maps.has D (keyL x) = false)
      rw [hc'] at e
      injection e with e
      injection e with e1 e2
  rw [this]
end Go.Proofs.Ythcikbmekjmmlaa
