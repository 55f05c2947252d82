/-
  Frames: the plain functions, and their laws.
  The contracts of the document's own answers of layer 3: long, Same, SameTexts, Put, Check, Wants.
  A map from terms, told by their key, the place they came of, and their octets as a string, to places: what it holds behind each term that is put in, how many, and what is found by a term.
  The contracts of package arena's small functions: whether a text is too long, whether a term may stand at a place, what tells it from all others, whether two arenas are the same.
  The contracts of package arena's places, and Check.
  The contracts of package arena's with, Root, and Next.
  The contracts of package arena's with, Root, and Next.
  The contracts of package arena's Root, Next, and Find.
  The contract of package arena's Find.
-/
import Derived.Test.YtgiapfenalhleaaTypes
import Derived.Test.YtgiapfenalhleaaStd
import Derived.Test.YtgiapfenalhleaaRet
import Derived.Test.YtgiapfenalhleaaBigsizeSame
import Derived.Test.YtgiapfenalhleaaArenaRef1
import Derived.Maps.OwnSet
import Derived.DeepKeys4
import Derived.Test.YtgiapfenalhleaaArenaRef3
import Derived.Test.YtgiapfenalhleaaVars
import Derived.Deep.Cut
import Derived.Test.YtgiapfenalhleaaArenaRef4
import Derived.Laws.OwnMore
import Derived.Test.YtgiapfenalhleaaArenaRef5
import Derived.Test.YtgiapfenalhleaaArenaRef6
namespace Go.Proofs.Ytgiapfenalhleaa
open Go.RowKit Go.WalkArith

def flongN (b : List Int) : Int := 256 * nth b 0 + nth b 1
def frameOf (b : List Int) : List Int := [(b.length : Int) / 256, (b.length : Int) % 256] ++ b
/-- A reader may be. -/
def RdrOk (r : Rdr) : Prop := ¬ (r.Bad = true ∧ 0 < r.B.length) ∧ ¬ (2 ≤ r.B.length ∧ (4096 < flongN r.B ∨ flongN r.B ≤ (r.B.length : Int) - 2))
instance (r : Rdr) : Decidable (RdrOk r) := by unfold RdrOk; infer_instance
def chkF (r : Rdr) : Int := if RdrOk r then 0 else 1
def octS (B : List Int) (c : Int) : Rdr × List (List Int) :=
  if 2 ≤ (B ++ [c]).length ∧ 4096 < flongN (B ++ [c]) then (⟨[], true⟩, [])
  else if 2 ≤ (B ++ [c]).length ∧ ((B ++ [c]).length : Int) - 2 = flongN (B ++ [c]) then (⟨[], false⟩, [(B ++ [c]).drop 2])
  else (⟨B ++ [c], false⟩, [])
def feedS : Rdr → List Int → Rdr × List (List Int)
  | r, [] => (r, [])
  | r, c :: xs => if r.Bad then (r, []) else ((feedS (octS r.B c).1 xs).1, (octS r.B c).2 ++ (feedS (octS r.B c).1 xs).2)
theorem feedS_nil (r : Rdr) : feedS r [] = (r, []) := by cases r; rfl
theorem feedS_bad {r : Rdr} (h : r.Bad = true) (xs : List Int) : feedS r xs = (r, []) := by
  cases xs with
  | nil => exact feedS_nil r
  | cons c xs => simp [feedS, h]
theorem feedS_cons {r : Rdr} (h : r.Bad = false) (c : Int) (xs : List Int) : feedS r (c :: xs) = ((feedS (octS r.B c).1 xs).1, (octS r.B c).2 ++ (feedS (octS r.B c).1 xs).2) := by simp [feedS, h]
theorem feedS_app (xs : List Int) : ∀ (r : Rdr) (ys : List Int), feedS r (xs ++ ys) = ((feedS (feedS r xs).1 ys).1, (feedS r xs).2 ++ (feedS (feedS r xs).1 ys).2) := by
  induction xs with
  | nil => intro r ys; simp [feedS_nil]
  | cons c xs ih =>
    intro r ys
    cases hb : r.Bad with
    | true => simp [feedS_bad hb]
    | false => rw [List.cons_append, feedS_cons hb, feedS_cons hb, ih]; simp
theorem feedS_one {r : Rdr} (h : r.Bad = false) (c : Int) : feedS r [c] = octS r.B c := by rw [feedS_cons h]; simp [feedS_nil]
theorem feedS_snoc {r : Rdr} (xs : List Int) (c : Int) (h : (feedS r xs).1.Bad = false) : feedS r (xs ++ [c]) = ((octS (feedS r xs).1.B c).1, (feedS r xs).2 ++ (octS (feedS r xs).1.B c).2) := by rw [feedS_app, feedS_one h]
theorem feedS_snoc_bad {r : Rdr} (xs : List Int) (c : Int) (h : (feedS r xs).1.Bad = true) : feedS r (xs ++ [c]) = feedS r xs := by rw [feedS_app, feedS_bad h]; simp

def Oct (xs : List Int) : Prop := ∀ x ∈ xs, 0 ≤ x ∧ x ≤ 255
theorem Oct.app {xs ys : List Int} (h : Oct xs) (h2 : Oct ys) : Oct (xs ++ ys) := fun x hx => by
  rcases List.mem_append.1 hx with hx | hx
  · exact h x hx
  · exact h2 x hx
theorem Oct.one {c : Int} (h : 0 ≤ c ∧ c ≤ 255) : Oct [c] := fun x hx => by simp at hx; subst hx; exact h
theorem Oct.nil : Oct [] := fun x hx => by simp at hx
theorem nth_app {xs ys : List Int} {j : Nat} (h : j < xs.length) : nth (xs ++ ys) j = nth xs j := by
  rw [nth_get h, nth_get (by rw [List.length_append]; omega), List.getElem_append_left h]
theorem nth_bd {xs : List Int} (h : Oct xs) (j : Nat) : 0 ≤ nth xs j ∧ nth xs j ≤ 255 := by
  rcases Nat.lt_or_ge j xs.length with hj | hj
  · exact h _ (nth_mem hj)
  · simp [nth, List.getD, List.getElem?_eq_none hj]
theorem longN_bd {xs : List Int} (h : Oct xs) : 0 ≤ flongN xs ∧ flongN xs ≤ 65535 := by
  have h0 := nth_bd h 0
  have h1 := nth_bd h 1
  unfold flongN
  omega
theorem longN_app {xs ys : List Int} (h : 2 ≤ xs.length) : flongN (xs ++ ys) = flongN xs := by
  unfold flongN
  rw [nth_app (by omega), nth_app (by omega)]

theorem octS_ok {B : List Int} {c : Int} (hw : Oct (B ++ [c])) (hB : RdrOk ⟨B, false⟩) : RdrOk (octS B c).1 := by
  have hl0 := longN_bd hw
  unfold octS
  split
  · exact ⟨by simp, by simp⟩
  · split
    · exact ⟨by simp, by simp⟩
    · rename_i h1 h2
      refine ⟨by simp, fun h => ?_⟩
      simp only at h
      rcases h.2 with h3 | h3
      · exact h1 ⟨h.1, h3⟩
      · have hB2 := hB.2
        simp only at hB2
        have h5 : ¬ ((B ++ [c]).length : Int) - 2 = flongN (B ++ [c]) := fun e => h2 ⟨h.1, e⟩
        simp only [List.length_append, List.length_singleton] at h h3 h5
        rcases Nat.lt_or_ge B.length 2 with h4 | h4
        · omega
        · have hl := longN_app (ys := [c]) h4
          have h6 : ¬ (flongN B ≤ (B.length : Int) - 2) := fun e => hB2 ⟨h4, .inr e⟩
          omega
theorem octS_oct {B : List Int} {c : Int} (hw : Oct (B ++ [c])) : Oct (octS B c).1.B ∧ ∀ t ∈ (octS B c).2, Oct t := by
  unfold octS
  split
  · exact ⟨Oct.nil, by simp⟩
  · split
    · exact ⟨Oct.nil, by intro t ht; simp at ht; subst ht; exact fun x hx => hw x (List.mem_of_mem_drop (i := 2) (by simpa using hx))⟩
    · exact ⟨hw, by simp⟩
theorem octS_bad {B : List Int} {c : Int} (h : (octS B c).1.Bad = true) : (octS B c).1.B = [] := by
  unfold octS at h ⊢
  split
  · rfl
  · split
    · rfl
    · rename_i h1 h2; rw [if_neg h1, if_neg h2] at h; simp at h
/-- The length of what waits. -/
theorem octS_len {B : List Int} {c : Int} : (octS B c).1.B.length ≤ B.length + 1 := by
  unfold octS
  split
  · simp
  · split <;> simp
theorem ok_bad {r : Rdr} (h : RdrOk r) (hb : r.Bad = true) : r.B = [] := by
  rcases Nat.eq_zero_or_pos r.B.length with h0 | h0
  · exact List.eq_nil_of_length_eq_zero h0
  · exact absurd ⟨hb, h0⟩ h.1
theorem ok_len {r : Rdr} (h : RdrOk r) : r.B.length ≤ 4097 := by
  have h2 := h.2
  rcases Nat.lt_or_ge r.B.length 2 with h4 | h4
  · omega
  · have h5 : ¬ 4096 < flongN r.B := fun e => h2 ⟨h4, .inl e⟩
    have h6 : ¬ flongN r.B ≤ (r.B.length : Int) - 2 := fun e => h2 ⟨h4, .inr e⟩
    omega
theorem feedS_ok (xs : List Int) : ∀ (r : Rdr), RdrOk r → Oct r.B → Oct xs → RdrOk (feedS r xs).1 ∧ Oct (feedS r xs).1.B ∧ ∀ t ∈ (feedS r xs).2, Oct t := by
  induction xs with
  | nil => intro r h1 h2 _; simp [feedS_nil]; exact ⟨h1, h2⟩
  | cons c xs ih =>
    intro r h1 h2 h3
    cases hb : r.Bad with
    | true => rw [feedS_bad hb]; exact ⟨h1, h2, by simp⟩
    | false =>
      have hc : Oct (r.B ++ [c]) := h2.app (Oct.one (h3 c (by simp)))
      have ho := octS_oct hc
      have hk := octS_ok hc (by have : r = ⟨r.B, false⟩ := by cases r; simp_all
                                rw [← this]; exact h1)
      obtain ⟨i1, i2, i3⟩ := ih _ hk ho.1 (fun x hx => h3 x (by simp [hx]))
      rw [feedS_cons hb]
      refine ⟨i1, i2, fun t ht => ?_⟩
      rcases List.mem_append.1 ht with ht | ht
      · exact ho.2 t ht
      · exact i3 t ht
/-- Fewer octets than are wanting: they wait. -/
def wantN (B : List Int) : Int := if B.length < 2 then 2 - B.length else flongN B + 2 - B.length
theorem octS_wait {B : List Int} {c : Int} (hB : RdrOk ⟨B, false⟩) (h : 1 < wantN B) : octS B c = (⟨B ++ [c], false⟩, []) ∧ wantN (B ++ [c]) = wantN B - 1 := by
  have hB2 := hB.2
  simp only at hB2
  unfold wantN at h
  rcases Nat.lt_or_ge B.length 2 with h4 | h4
  · rw [if_pos h4] at h
    have h0 : B.length = 0 := by omega
    unfold octS wantN
    rw [if_neg (by simp; omega), if_neg (by simp; omega), if_pos (by simp; omega), if_pos h4]
    refine ⟨rfl, by simp; omega⟩
  · rw [if_neg (by omega)] at h
    have hl := longN_app (ys := [c]) h4
    have h5 : ¬ 4096 < flongN B := fun e => hB2 ⟨h4, .inl e⟩
    unfold octS wantN
    rw [if_neg (by rw [hl]; omega), if_neg (by rw [hl]; simp; omega), if_neg (by simp; omega), if_neg (by omega), hl]
    refine ⟨rfl, by simp; omega⟩
theorem want_pos {B : List Int} (hB : RdrOk ⟨B, false⟩) : 1 ≤ wantN B := by
  have hB2 := hB.2
  simp only at hB2
  unfold wantN
  split
  · omega
  · rename_i h
    have h6 : ¬ flongN B ≤ (B.length : Int) - 2 := fun e => hB2 ⟨by omega, .inr e⟩
    omega
theorem feedS_wait (xs : List Int) : ∀ (B : List Int), RdrOk ⟨B, false⟩ → Oct B → Oct xs → (xs.length : Int) < wantN B → feedS ⟨B, false⟩ xs = (⟨B ++ xs, false⟩, []) ∧ wantN (B ++ xs) = wantN B - xs.length := by
  induction xs with
  | nil => intro B _ _ _ _; simp [feedS_nil]
  | cons c xs ih =>
    intro B hB h2 h3 hl
    have hc : Oct (B ++ [c]) := h2.app (Oct.one (h3 c (by simp)))
    simp only [List.length_cons] at hl
    obtain ⟨e1, e2⟩ := octS_wait hB (by omega)
    have hk := octS_ok hc hB
    rw [e1] at hk
    obtain ⟨f1, f2⟩ := ih (B ++ [c]) hk hc (fun x hx => h3 x (by simp [hx])) (by omega)
    rw [feedS_cons rfl]
    simp only [e1, f1]
    refine ⟨by simp, ?_⟩
    rw [show B ++ c :: xs = B ++ [c] ++ xs by simp, f2, e2]
    simp
    omega
theorem octS_full {B : List Int} {c : Int} (hB : RdrOk ⟨B, false⟩) (h2 : 2 ≤ B.length) (h : wantN B = 1) : octS B c = (⟨[], false⟩, [(B ++ [c]).drop 2]) := by
  have hB2 := hB.2
  simp only at hB2
  unfold wantN at h
  rw [if_neg (by omega)] at h
  have hl := longN_app (ys := [c]) h2
  have h5 : ¬ 4096 < flongN B := fun e => hB2 ⟨h2, .inl e⟩
  unfold octS
  rw [if_neg (by rw [hl]; omega), if_pos (by rw [hl]; simp; omega)]
theorem feedS_full {B xs : List Int} (hB : RdrOk ⟨B, false⟩) (hb : Oct B) (hx : Oct xs) (h2 : 2 ≤ B.length) (h : (xs.length : Int) = wantN B) : feedS ⟨B, false⟩ xs = (⟨[], false⟩, [(B ++ xs).drop 2]) := by
  have hp := want_pos hB
  rcases List.eq_nil_or_concat xs with rfl | ⟨ys, c, rfl⟩
  · simp at h; omega
  · rw [List.concat_eq_append] at *
    simp only [List.length_append, List.length_singleton] at h
    obtain ⟨e1, e2⟩ := feedS_wait ys B hB hb (fun x hx' => hx x (by simp [hx'])) (by omega)
    have hk := (feedS_ok ys ⟨B, false⟩ hB hb (fun x hx' => hx x (by simp [hx']))).1
    rw [e1] at hk
    rw [feedS_snoc ys c (by rw [e1]), e1]
    simp only
    rw [octS_full hk (by simp; omega) (by rw [e2]; omega)]
    simp
theorem octS_two {a c : Int} : octS [a] c = if 4096 < flongN [a, c] then (⟨[], true⟩, []) else if flongN [a, c] = 0 then (⟨[], false⟩, [[]]) else (⟨[a, c], false⟩, []) := by
  unfold octS
  by_cases h1 : 4096 < flongN [a, c]
  · rw [if_pos (by simpa using h1), if_pos h1]
  · rw [if_neg (by simpa using h1), if_neg h1]
    by_cases h2 : flongN [a, c] = 0
    · rw [if_pos (by simpa using h2.symm), if_pos h2]; rfl
    · rw [if_neg (by simp; exact fun e => h2 e.symm), if_neg h2]; rfl
theorem feedS_two {a c : Int} : feedS ⟨[], false⟩ [a, c] = octS [a] c := by
  rw [feedS_cons rfl]
  have e : octS [] a = (⟨[a], false⟩, []) := by unfold octS; rw [if_neg (by simp), if_neg (by simp)]; rfl
  simp only [e]
  rw [feedS_one rfl]
  simp
/-- A whole frame tells its text. -/
theorem feedS_frame {b : List Int} (hb : Oct b) (hl : b.length ≤ 4096) : feedS ⟨[], false⟩ (frameOf b) = (⟨[], false⟩, [b]) := by
  have hlong : flongN [(b.length : Int) / 256, (b.length : Int) % 256] = b.length := by
    simp [flongN, nth]; omega
  have hoct : Oct [(b.length : Int) / 256, (b.length : Int) % 256] := fun x hx => by simp at hx; omega
  unfold frameOf
  rw [feedS_app, feedS_two, octS_two, hlong, if_neg (by omega)]
  rcases Nat.eq_zero_or_pos b.length with h0 | h0
  · have : b = [] := List.eq_nil_of_length_eq_zero h0
    subst this
    simp [feedS_nil]
  · rw [if_neg (by omega)]
    have hk : RdrOk ⟨[(b.length : Int) / 256, (b.length : Int) % 256], false⟩ := ⟨by simp, fun h => by
      rcases h.2 with h3 | h3
      · change 4096 < flongN [(b.length : Int) / 256, (b.length : Int) % 256] at h3
        omega
      · change flongN [(b.length : Int) / 256, (b.length : Int) % 256] ≤ ((2 : Nat) : Int) - 2 at h3
        omega⟩
    simp only
    rw [feedS_full hk hoct hb (by simp) (by unfold wantN; simp [hlong])]
    simp
/-- Just as many octets as are wanting. -/
theorem feedS_just {B xs : List Int} (hB : RdrOk ⟨B, false⟩) (hb : Oct B) (hx : Oct xs) (h : (xs.length : Int) = wantN B) :
    ((feedS ⟨B, false⟩ xs).2.length = 1 ∧ (feedS ⟨B, false⟩ xs).1.B.length = 0) ∨ ((feedS ⟨B, false⟩ xs).2.length = 0 ∧ ((feedS ⟨B, false⟩ xs).1.Bad = true ∨ (feedS ⟨B, false⟩ xs).1.B.length = 2)) := by
  rcases Nat.lt_or_ge B.length 2 with h2 | h2
  · have key : ∀ a c : Int, ((octS [a] c).2.length = 1 ∧ (octS [a] c).1.B.length = 0) ∨ ((octS [a] c).2.length = 0 ∧ ((octS [a] c).1.Bad = true ∨ (octS [a] c).1.B.length = 2)) := by
      intro a c
      rw [octS_two]
      split
      · exact .inr ⟨rfl, .inl rfl⟩
      · split
        · exact .inl ⟨rfl, rfl⟩
        · exact .inr ⟨rfl, .inr rfl⟩
    unfold wantN at h
    rw [if_pos h2] at h
    match B, xs, h2, h with
    | [], [a, c], _, _ => rw [feedS_two]; exact key a c
    | [a], [c], _, _ => rw [feedS_one rfl]; exact key a c
    | [], [], _, h => simp at h
    | [], [_], _, h => simp at h
    | [], _ :: _ :: _ :: _, _, h => simp at h; omega
    | [_], [], _, h => simp at h
    | [_], _ :: _ :: _, _, h => simp at h; omega
  · rw [feedS_full hB hb hx h2 h]
    exact .inl ⟨rfl, rfl⟩

/-- What Feed, and Wants, tell. -/
def fdE (r : Rdr) (xs : List Int) : Int := if ¬ RdrOk r then 1 else if 65535 < xs.length then 4 else 0
def fdR (r : Rdr) (xs : List Int) : Rdr := if fdE r xs = 0 then (feedS r xs).1 else ⟨[], false⟩
def fdL (r : Rdr) (xs : List Int) : List (List Int) := if fdE r xs = 0 then (feedS r xs).2 else []
def waE (r : Rdr) : Int := chkF r
def waN (r : Rdr) : Int := if RdrOk r then (if r.Bad then 0 else wantN r.B) else 0
def ptE (b : List Int) : Int := if 4096 < b.length then 4 else 0
def ptO (b : List Int) : List Int := if 4096 < b.length then [] else frameOf b
end Go.Proofs.Ytgiapfenalhleaa
namespace Go.Proofs.Ytgiapfenalhleaa
open Go.RowKit Go.WalkArith

theorem oct_of {w : World} {B : Nat} {A : Option Addr} {n c : Nat} {xs : List Int} (h : Rd w B .u8 A n c xs) : Oct xs := fun x hx => bounds_u8 (h.wf x hx)

/-- The j-th text: its header, and its octets. -/
theorem txt_at {w : World} {S : Nat → Prop} {A : Option Addr} {n c : Nat} {l : List (List Int)} (h : Sl (Lay.slice (Lay.int .u8)) w S A n c l) {j : Nat} (hj : j < n) :
    ∃ b off A' n' c', ∃ hx : j < l.length, A = some ⟨b, off, none⟩ ∧ S b ∧ w.cell? ⟨b, off + j, none⟩ = some (.slice A' n' c') ∧ Sl (Lay.int .u8) w S A' n' c' l[j] := by
  obtain ⟨b, off, cs, hx, rfl, hb, hr, hc⟩ := h.at_ hj
  obtain ⟨A', n', c', rfl, hs⟩ := hr
  exact ⟨b, off, A', n', c', hx, rfl, hb, by simpa [Lay.slice] using hc 0 _ rfl, hs⟩
theorem take_sameL {l o : List (List Int)} {j : Nat} (hx : j < l.length) (hy : j < o.length) (h : l.take j = o.take j) (e : l[j] = o[j]) : l.take (j + 1) = o.take (j + 1) := by
  rw [List.take_succ_eq_append_getElem hx, List.take_succ_eq_append_getElem hy, h, e]

/-- A literal of two elements, just laid. -/
theorem Own.lit2 (w : World) (e : TypeId) (k : IntKind) (x y : Int) (hx : (Lit.int k x).wf = true) (hy : (Lit.int k y).wf = true) : Own (w.alloc (.cells #[.int k x, .int k y] e)) w.heap.size e k (.slice (some ⟨w.heap.size, 0, none⟩) 2 2) [x, y] :=
  ⟨⟨rfl, .inr ⟨w.heap.size, 2, #[.int k x, .int k y], rfl, Nat.le_refl _, heap_alloc_new w _, Nat.le_refl _, by simp [maxLen], rfl, rfl⟩⟩, by simpa using ⟨hx, hy⟩⟩

end Go.Proofs.Ytgiapfenalhleaa
namespace Go.Proofs.Ytgiapfenalhleaa
open Go.RowKit Go.WalkArith Go.Maps

set_option maxRecDepth 100000 in
theorem arLaidOut : laidOutB Try.prog = true := by kernel_rfl
set_option maxRecDepth 100000 in
theorem arWide : (match Try.prog.underlying 116 with | some (.array _ _) | some (.struct _) => true | _ => false) = true := by rw [Try.underlying116]
set_option maxRecDepth 100000 in
theorem arLaw : Keyed Try.prog 116 := Keyed.of_law (deep_law_laid arLaidOut (m := 2) (by omega) (of_decide_eq_true (by kernel_rfl)) (by kernel_rfl) arWide)
set_option maxRecDepth 100000 in
theorem arKeyType : Try.prog.keyType 116 = true := by kernel_rfl
set_option maxRecDepth 100000 in
theorem arCells : Try.prog.cellsOf 116 = 3 := by kernel_rfl
set_option maxRecDepth 100000 in
theorem arCellsU : Try.prog.cellsOf 25 = 1 := by kernel_rfl
set_option maxRecDepth 100000 in
theorem arCellsI : Try.prog.cellsOf 3 = 1 := by kernel_rfl
set_option maxRecDepth 100000 in
theorem arCellsS : Try.prog.cellsOf 9 = 1 := by kernel_rfl
set_option maxRecDepth 100000 in
theorem arTypes : 0 < Try.prog.types.size := of_decide_eq_true (by kernel_rfl)
set_option maxRecDepth 100000 in
theorem keyOf_struct {P : Program} {k : TypeId} {fs : Array Field} {v : Value} {ls : List Lit} (hu : P.underlying k = some (.struct fs)) (hk : P.keyType k = true) (hf : v.formed P k = true) (h0 : 0 < P.types.size)
    (hl : ∀ d, P.keyLits (d + 1 + 1) k v.cells.toList = some ls) : keyOf P k v = some (.string (keyBytes ls)) := by
  obtain ⟨d, hd⟩ : ∃ d, P.types.size = d + 1 := ⟨P.types.size - 1, by omega⟩
  unfold keyOf
  rw [hu]
  simp only [hk, hf, Bool.true_and, if_true]
  rw [hd, hl]
  rfl

/-- What tells a term from all others, as the program has it. -/
def keyV (x : Trm) : Value := .agg #[.int .u64 x.Key, .int .i64 x.Up, .string (strOfNums x.Text)]
structure OkTrm (x : Trm) : Prop where
  key : (Lit.int .u64 x.Key).wf = true
  up : (Lit.int .i64 x.Up).wf = true
  oct : ∀ y ∈ x.Text, (Lit.int .u8 y).wf = true
  len : x.Text.length ≤ 4096
noncomputable def keyL (x : Trm) : Lit := (keyOf Try.prog 116 (keyV x)).getD (.bool false)
set_option maxRecDepth 100000 in
theorem str_size (xs : List Int) : (strOfNums xs).size = xs.length := by simp [strOfNums, ByteArray.size]
set_option maxRecDepth 100000 in
theorem keyLits_form {x : Trm} (h : OkTrm x) (d : Nat) : Try.prog.keyLits (d + 1 + 1) 116 [.int .u64 x.Key, .int .i64 x.Up, .string (strOfNums x.Text)] = some [.int .u64 x.Key, .int .i64 x.Up, .string (strOfNums x.Text).data.toList] := by
  have hs : (strOfNums x.Text).size ≤ maxLen := by rw [str_size]; have := h.len; unfold maxLen; omega
  have h1 := h.key
  have h2 := h.up
  generalize strOfNums x.Text = s at *
  simp [Program.keyLits, Try.underlying116, arCells, arCellsU, arCellsI, arCellsS, Try.underlying25, Try.underlying3, Try.underlying9, h1, h2, hs]
set_option maxRecDepth 100000 in
theorem keyV_formed (x : Trm) : (keyV x).formed Try.prog 116 = true := by simp [keyV, Value.formed, Try.underlying116, arCells]
set_option maxRecDepth 100000 in
theorem keyL_of {x : Trm} (h : OkTrm x) : keyOf Try.prog 116 (keyV x) = some (keyL x) := by
  have hl := keyOf_struct Try.underlying116 arKeyType (keyV_formed x) arTypes (keyLits_form h)
  rw [keyL, hl, Option.getD_some]
set_option maxRecDepth 100000 in
theorem keyL_inj {x y : Trm} (hx : OkTrm x) (hy : OkTrm y) (e : keyL x = keyL y) : x = y := by
  have hv := arLaw.inj (keyL_of hx) (by rw [e]; exact keyL_of hy)
  simp only [keyV, Value.agg.injEq, Array.mk.injEq, List.cons.injEq, Value.int.injEq, true_and, Value.string.injEq, and_true] at hv
  obtain ⟨h1, h2, h3⟩ := hv
  exact Trm.ext' h1 h2 (str_inj (fun z hz => bounds_u8 (hx.oct z hz)) (fun z hz => bounds_u8 (hy.oct z hz)) (by rw [h3]))

/-- The map in block b has been filled by these terms, one behind the other, each with its place. -/
def MapTo (w : World) (b : Nat) (l : List Trm) : Prop := ∃ D : DataW Unit, w.ownsMap Try.prog 116 (plainElem Try.prog 3) b l.length D ∧ (∀ x ∈ l, OkTrm x) ∧
  (∀ x, OkTrm x → Maps.has D (keyL x) = decide (x ∈ l)) ∧ (Maps.size D = l.length → l.Nodup) ∧
  (l.Nodup → Maps.size D = l.length ∧ ∀ i (hi : i < l.length), D.atKey (keyL l[i]) (.lit (.int .i64 0)) = .lit (.int .i64 i))

set_option maxRecDepth 100000 in
theorem mapTo_made (w : World) : MapTo (w.alloc (.map #[] 0)) w.heap.size [] :=
  ⟨.map [], World.ownsMap_made _ _ _ _, by simp, fun x _ => by simp [Maps.has], fun _ => List.nodup_nil, fun _ => ⟨rfl, fun i hi => by simp at hi⟩⟩
set_option maxRecDepth 100000 in
theorem MapTo.lt {w : World} {b : Nat} {l : List Trm} (h : MapTo w b l) : b < w.heap.size := let ⟨_, h1, _⟩ := h; h1.lt
set_option maxRecDepth 100000 in
theorem MapTo.of_block {w w' : World} {b : Nat} {l : List Trm} (h : MapTo w b l) (hb : w'.heap[b]? = w.heap[b]?) : MapTo w' b l := by
  obtain ⟨D, ⟨es, clock, h1, h2⟩, h3⟩ := h
  exact ⟨D, ⟨es, clock, hb.trans h1, h2⟩, h3⟩
set_option maxRecDepth 100000 in
theorem MapTo.below {w w' : World} {b : Nat} {l : List Trm} (h : MapTo w b l) (hb : Below w.heap.size w w') : MapTo w' b l := h.of_block (hb.block b h.lt)
set_option maxRecDepth 100000 in
theorem MapTo.ok {w : World} {b : Nat} {l : List Trm} (h : MapTo w b l) : ∀ x ∈ l, OkTrm x := let ⟨_, _, h1, _⟩ := h; h1
set_option maxRecDepth 100000 in
theorem nodup_snoc {l : List Trm} {x : Trm} : (l ++ [x]).Nodup ↔ l.Nodup ∧ x ∉ l := by
  rw [List.nodup_append]
  constructor
  · rintro ⟨h1, _, h2⟩
    exact ⟨h1, fun hx => h2 x hx x (by simp) rfl⟩
  · rintro ⟨h1, h2⟩
    refine ⟨h1, by simp, fun a ha c hc e => ?_⟩
    simp at hc
    subst hc
    exact h2 (e ▸ ha)
set_option maxRecDepth 100000 in
theorem MapTo.put {w : World} {b : Nat} {l : List Trm} (h : MapTo w b l) {x : Trm} (hx : OkTrm x) (hl : l.length < 1048576) :
    ∃ w', (Instr.mapUpdate 109 (.map (some b)) (keyV x) (.int .i64 l.length)).run Try.prog w = .ok () w' ∧ MapTo w' b (l ++ [x]) ∧ w.grownBy w' (some b) := by
  obtain ⟨D, hown, hok, hhas, hsz, hat⟩ := h
  obtain ⟨w', hrun, hown', hg⟩ := hown.update arLaw Try.underlying109 (by unfold maxLen; omega) (keyL_of hx) (plainElem_int (a := l.length) Try.underlying3 (WalkArith.wf_i64 (by omega)))
  have hk : WideAt.IsKeyLit (keyL x) := arLaw.key (keyL_of hx)
  have htidy := hown.tidy arLaw
  have hle := hown.size_le
  have hsp := Maps.size_put (k := keyL x) htidy (.lit (.int .i64 l.length))
  rw [hhas x hx] at hsp
  refine ⟨w', hrun, ⟨_, by rw [List.length_append]; exact hown', ?_, ?_, ?_, ?_⟩, hg⟩
  · intro y hy
    rcases List.mem_append.1 hy with hy | hy
    · exact hok y hy
    · simp at hy; subst hy; exact hx
  · intro y hy
    by_cases e : y = x
    · subst e
      rw [Maps.has_put_same hown.isMap hk]
      simp
    · rw [Maps.has_put_other (fun e2 => e (keyL_inj hy hx e2)), hhas y hy]
      simp [e]
  · intro he
    rw [hsp] at he
    by_cases hm : x ∈ l
    · rw [decide_eq_true hm] at he
      simp at he
      omega
    · rw [decide_eq_false hm] at he
      simp at he
      exact nodup_snoc.2 ⟨hsz he, hm⟩
  · intro hn
    obtain ⟨hn1, hm⟩ := nodup_snoc.1 hn
    obtain ⟨h1, h2⟩ := hat hn1
    rw [decide_eq_false hm] at hsp
    refine ⟨by rw [hsp]; simp [h1], fun i hi => ?_⟩
    rcases Nat.lt_or_ge i l.length with h3 | h3
    · have e : (l ++ [x])[i] = l[i] := List.getElem_append_left h3
      rw [e, Maps.atKey_put_other (fun e2 => hm (by rw [← keyL_inj (hok _ (List.getElem_mem h3)) hx e2]; exact List.getElem_mem h3)), h2 i h3]
    · have hi' : i = l.length := by simp at hi; omega
      subst hi'
      have e : (l ++ [x])[l.length] = x := by simp
      rw [e, Maps.atKey_put_same hown.isMap hk]
set_option maxRecDepth 100000 in
theorem MapTo.len {w : World} {b : Nat} {l : List Trm} (h : MapTo w b l) : ∃ s : Nat, (∀ ty, (Builtin.len_ #[109] ty #[.map (some b)]).run Try.prog w = .ok (.int .i64 s) w) ∧ s ≤ l.length ∧ (s = l.length ↔ l.Nodup) := by
  obtain ⟨D, hown, hok, hhas, hsz, hat⟩ := h
  exact ⟨Maps.size D, fun ty => hown.len Try.underlying109 ty, hown.size_le, hsz, fun h => (hat h).1⟩
set_option maxRecDepth 100000 in
theorem arZero (w : World) : (zeroValue 3).run Try.prog w = .ok (.int .i64 0) w := by kernel_rfl
set_option maxRecDepth 100000 in
/-- What is found by a term. -/
theorem MapTo.look {w : World} {b : Nat} {l : List Trm} (h : MapTo w b l) (hn : l.Nodup) {x : Trm} (hx : OkTrm x) :
    (Instr.lookup 109 (.map (some b)) (keyV x) true).run Try.prog w = .ok (.tuple #[.int .i64 (if x ∈ l then (plc x l : Int) else 0), .bool (decide (x ∈ l))]) w := by
  obtain ⟨D, hown, hok, hhas, hsz, hat⟩ := h
  obtain ⟨v, ps, hrun, hv⟩ := hown.look_ok arLaw Try.underlying109 (arZero w) (plainElem_int (a := 0) Try.underlying3 (by decide)) (keyL_of hx)
  obtain ⟨c, rfl, hc, hwc⟩ := plainElem_int_inv Try.underlying3 hv
  have hc' := congrArg Prod.fst hc
  simp only at hc'
  rw [hrun, hhas x hx]
  have : c = if x ∈ l then (plc x l : Int) else 0 := by
    by_cases hm : x ∈ l
    · rw [if_pos hm]
      have hp := plc_mem.1 hm
      have e := (hat hn).2 _ hp
      rw [plc_at hp, hc'] at e
      injection e with e
      injection e with e1 e2
    · rw [if_neg hm]
      have e := Maps.atKey_of_not_has (z := .lit (.int .i64 0)) (by rw [hhas x hx]; exact decide_eq_false hm : Maps.has D (keyL x) = false)
      rw [hc'] at e
      injection e with e
      injection e with e1 e2
  rw [this]
end Go.Proofs.Ytgiapfenalhleaa
namespace Go.Proofs.Ytgiapfenalhleaa
open Go.RowKit Go.WalkArith

set_option maxHeartbeats 1000000 in
theorem anyLong1_any (A : Option Addr) (n c : Nat) (w : World) (hc : n ≤ maxLen) :
    Calls Try.prog 93 #[.slice A n c] w fun e w' => e = .returned (.bool (decide (4096 < n))) ∧ w = w' := by
  unfold maxLen at hc
  have HD := hid (show decide ((4096 : Int) < (n : Int)) = decide (4096 < n) from by simp; omega)
  go_enter Try.func93, Try.ntmps93
  go_wp2
  go_ret
  exact ⟨ret_bool HD.out, rfl⟩

/-- Whether one of the texts is too long. -/
def longT (l : List (List Int)) : Bool := !decide (shortT l)
theorem longT_yes {l : List (List Int)} (h : ¬ shortT l) : longT l = true := by simp [longT, h]
theorem longT_no {l : List (List Int)} (h : shortT l) : longT l = false := by simp [longT, h]
def fitB (i : Nat) (x : Trm) : Bool := decide (Fit i x)
theorem fitB_iff {i : Nat} {x : Trm} : fitB i x = true ↔ Fit i x := by simp [fitB]
theorem short_step {l : List (List Int)} {j : Nat} (hj : j < l.length) (h : shortT (l.take j)) (e : l[j].length ≤ 4096) : shortT (l.take (j + 1)) := by
  rw [List.take_succ_eq_append_getElem hj]
  intro t ht
  rcases List.mem_append.1 ht with ht | ht
  · exact h t ht
  · simp at ht; subst ht; exact e

set_option maxHeartbeats 1000000 in
theorem indexLong_any (A : Option Addr) (n c : Nat) (S : Nat → Prop) (l : List (List Int)) (w : World) (h : Sl lay_Txt w S A n c l) :
    Calls Try.prog 100 #[.slice A n c, .func (.func 93) #[] #[]] w fun e w' => (∃ r : Int, e = .returned (.int .i64 r) ∧ decide (0 ≤ r) = longT l) ∧ w = w' := by
  have HL := hid h.len
  have hcap := h.cap
  unfold maxLen at hcap
  go_enter Try.func100, Try.ntmps100
  go_wp2
  go_loop [8] (fun i => ∃ j : Nat, j ≤ n ∧ i = .int .i64 j ∧ shortT (l.take j)) (fun i => n - (intOf i).toNat)
  case atStart => exact ⟨0, Nat.zero_le _, rfl, by intro t ht; simp at ht⟩
  case round =>
    obtain ⟨j, hj, rfl, hpre⟩ := hrel
    have HP := hid hpre
    clear hpre
    by_cases hlt : j < n
    · obtain ⟨b1, o1, A', n', c', hx1, rfl, hb1, t1, hV1⟩ := txt_atA h hlt
      have HX := hid hV1.len
      have hc2 := Nat.le_trans hV1.cap.1 hV1.cap.2
      clear hV1
      have HA := hid (anyLong1_any A' n' c' w hc2)
      by_cases g1 : 4096 < n'
      · have HN := hid (show decide (0 ≤ (j : Int)) = longT l from by
          rw [decide_eq_true (show (0 : Int) ≤ (j : Int) by omega), longT_yes fun k => by have := k _ (List.getElem_mem hx1); rw [HX.out] at this; omega])
        rw [decide_eq_true g1] at HA
        go_wp2_with (go_at_call 93; go_must (refine HA.out.mono ?_; rintro e w1 ⟨rfl, rfl⟩))
        go_ret
        exact ⟨⟨_, rfl, HN.out⟩, rfl⟩
      · have HN := hid (short_step hx1 HP.out (by rw [HX.out]; omega))
        rw [decide_eq_false g1] at HA
        go_wp2_with (go_at_call 93; go_must (refine HA.out.mono ?_; rintro e w1 ⟨rfl, rfl⟩))
        go_round
        case rel => exact ⟨j + 1, by omega, by go_num, HN.out⟩
        case measure => simp [intOf]; omega
    · have HN := hid (show decide (0 ≤ (-1 : Int)) = longT l from by
        have := HP.out
        rw [List.take_of_length_le (by rw [HL.out]; omega)] at this
        rw [decide_eq_false (by omega), longT_no this])
      go_wp2
      go_ret
      exact ⟨⟨_, rfl, HN.out⟩, rfl⟩

set_option maxHeartbeats 1000000 in
theorem containsLong_any (A : Option Addr) (n c : Nat) (S : Nat → Prop) (l : List (List Int)) (w : World) (h : Sl lay_Txt w S A n c l) :
    Calls Try.prog 92 #[.slice A n c, .func (.func 93) #[] #[]] w fun e w' => e = .returned (.bool (longT l)) ∧ w = w' := by
  go_enter Try.func92, Try.ntmps92
  go_wp2_with (go_at_call 100; go_must (refine (indexLong_any _ _ _ _ _ _ h).mono ?_; rintro e w1 ⟨⟨r, rfl, hr⟩, rfl⟩))
  have HR := hid hr
  clear hr
  go_wp2
  go_ret
  exact ⟨rfl, rfl⟩

set_option maxHeartbeats 1000000 in
theorem anyLong_any (A : Option Addr) (n c : Nat) (S : Nat → Prop) (l : List (List Int)) (w : World) (h : Sl lay_Txt w S A n c l) :
    Calls Try.prog 76 #[.slice A n c] w fun e w' => e = .returned (.bool (longT l)) ∧ w = w' := by
  go_enter Try.func76, Try.ntmps76
  go_wp2_with (go_at_call 92; go_must (refine (containsLong_any _ _ _ _ _ _ h).mono ?_; rintro e w1 ⟨rfl, rfl⟩))
  go_ret
  exact ⟨rfl, rfl⟩
/-- One text, laid in a block of its own just now. -/
theorem anyLong_one (A : Option Addr) (n c : Nat) (t : List Int) (w : World) (h : Sl (Lay.int .u8) w (· < w.heap.size) A n c t) :
    Calls Try.prog 76 #[.slice (some ⟨w.heap.size, 0, none⟩) 1 1] (w.alloc (.cells #[.slice A n c] 46)) fun e w' => e = .returned (.bool (decide (4096 < n))) ∧ Below w.heap.size w w' := by
  have hb : Below w.heap.size w (w.alloc (Obj.cells #[.slice A n c] 46)) := bel_alloc (Below.refl _ _) _
  have hs : Sl lay_Txt (w.alloc (Obj.cells #[.slice A n c] 46)) (· < (w.alloc (Obj.cells #[.slice A n c] 46)).heap.size) (some ⟨w.heap.size, 0, none⟩) 1 1 [t] :=
    Sl.lit1 (cs := [.slice A n c]) (by simp) ⟨A, n, c, rfl, Sl.call h hb⟩ fun i v hv => by
      match i, hv with
      | 0, hv => simp at hv; subst hv; rw [World.cell?_alloc_at _ _ _ _ rfl]; rfl
  refine (anyLong_any _ _ _ _ _ _ hs).mono ?_
  rintro e w1 ⟨rfl, rfl⟩
  refine ⟨ret_bool ?_, hb⟩
  have hl := h.len
  by_cases g : 4096 < n
  · rw [decide_eq_true g, longT_yes fun k => by have := k t (by simp); omega]
  · rw [decide_eq_false g, longT_no fun x hx => by simp at hx; subst hx; omega]

set_option maxRecDepth 100000 in
set_option maxHeartbeats 2000000 in
theorem mayStand_any (s : Array Value) (x : Trm) (i : Nat) (w : World) (h : lay_Term.rep w (· < w.heap.size) x s.toList) (hi : i ≤ 1048576) :
    Calls Try.prog 91 #[.agg s, .int .i64 i] w fun e w' => e = .returned (.bool (fitB i x)) ∧ Below w.heap.size w w' := by
  obtain ⟨A, n, c, rfl, h1, h2, hV⟩ := agg_Term h
  clear h
  have bK := bounds_u64 h1
  have bU := bounds_i64 h2
  have HX := hid hV.len
  have hcap := hV.cap
  unfold maxLen at hcap
  have hb0 : Below w.heap.size w (w.alloc (Obj.cells #[.int .u64 x.Key, .int .i64 x.Up, .slice A n c] 62)) := bel_alloc (Below.refl _ _) _
  have hx0 := heap_alloc_new w (Obj.cells #[.int .u64 x.Key, .int .i64 x.Up, .slice A n c] 62)
  have HA := hid (anyLong_one A n c x.Text (w.alloc (Obj.cells #[.int .u64 x.Key, .int .i64 x.Up, .slice A n c] 62)) (Sl.call hV hb0))
  have hsz : (w.alloc (Obj.cells #[.int .u64 x.Key, .int .i64 x.Up, .slice A n c] 62)).heap.size = w.heap.size + 1 := by simp
  rw [hsz] at HA
  clear h1 h2 hV
  by_cases g1 : 4096 < n
  · have HD := hid (show fitB i x = false from Bool.eq_false_iff.2 fun k => by have := (fitB_iff.1 k).2.2.2; rw [HX.out] at this; omega)
    rw [decide_eq_true g1] at HA
    go_enter Try.func91, Try.ntmps91
    go_wp2_with (go_at_call 76; go_must (refine HA.out.mono ?_; rintro e w1 ⟨rfl, hb1⟩))
    go_ret
    exact ⟨ret_bool HD.out.symm, hb0.trans (hb1.mono (by omega))⟩
  rw [decide_eq_false g1] at HA
  have HF := hid (show fitB i x = true ↔ (x.Up = -1 ∨ 0 ≤ x.Up ∧ x.Up < i ∧ x.Key = 0) from by
    have hl := HX.out
    rw [fitB_iff]
    constructor
    · intro k
      obtain ⟨k1, k2, k3, k4⟩ := k
      by_cases hu : x.Up = -1
      · exact .inl hu
      · exact .inr ⟨by omega, k2, k3 (by omega)⟩
    · rintro (k | ⟨k1, k2, k3⟩)
      · exact ⟨by omega, by omega, fun k5 => by omega, by omega⟩
      · exact ⟨by omega, k2, fun _ => k3, by omega⟩)
  clear bK
  generalize fitB i x = F at *
  generalize x.Up = up at *
  generalize x.Key = key at *
  have HGO : ∀ r : Bool, r = (up == -1 || (decide (0 ≤ up) && decide (up < (i : Int)) && (key == 0))) → Hid (F = r) := fun r hr => hid (by
    have := HF.out
    by_cases hF : F = true
    · rw [hF, hr]
      rcases this.1 hF with k | ⟨k1, k2, k3⟩
      · simp [k]
      · simp [k1, k2, k3]
    · rw [Bool.eq_false_iff.2 hF, hr]
      have k := fun q => hF (this.2 q)
      by_cases q1 : up = -1
      · exact absurd (.inl q1) k
      by_cases q2 : 0 ≤ up ∧ up < (i : Int) ∧ key = 0
      · exact absurd (.inr q2) k
      simp [q1]
      intro a b c
      exact q2 ⟨a, b, c⟩)
  by_cases q1 : up = -1
  · subst q1
    have HR := HGO true (by simp)
    clear HGO
    go_enter Try.func91, Try.ntmps91
    go_wp2_with fail
    refine HA.out.mono ?_
    rintro e w1 ⟨rfl, hb1⟩
    have y0 := (hb1.block w.heap.size (by simp)).trans hx0
    have z1 : w1.cell? ⟨w.heap.size, 1, none⟩ = some (.int .i64 (-1)) := by simp [World.cell?, y0]
    have HB := bel_call hb0 (by rw [hsz]; exact hb1)
    go_wp2
    go_ret
    exact ⟨ret_bool HR.out.symm, HB⟩
  have p1 : (up == -1) = false := by simpa using q1
  by_cases q2 : 0 ≤ up
  · have p2 : decide (0 ≤ up) = true := by simpa using q2
    by_cases q3 : up < (i : Int)
    · have p3 : decide (up < (i : Int)) = true := by simpa using q3
      have HR := HGO (key == 0) (by rw [p1, p2, p3]; simp)
      clear HGO
      go_enter Try.func91, Try.ntmps91
      go_wp2_with fail
      refine HA.out.mono ?_
      rintro e w1 ⟨rfl, hb1⟩
      have y0 := (hb1.block w.heap.size (by simp)).trans hx0
      have z0 : w1.cell? ⟨w.heap.size, 0, none⟩ = some (.int .u64 key) := by simp [World.cell?, y0]
      have z1 : w1.cell? ⟨w.heap.size, 1, none⟩ = some (.int .i64 up) := by simp [World.cell?, y0]
      have HB := bel_call hb0 (by rw [hsz]; exact hb1)
      go_wp2
      go_ret
      exact ⟨ret_bool HR.out.symm, HB⟩
    · have p3 : decide (up < (i : Int)) = false := by simpa using q3
      have HR := HGO false (by rw [p1, p2, p3]; simp)
      clear HGO
      go_enter Try.func91, Try.ntmps91
      go_wp2_with fail
      refine HA.out.mono ?_
      rintro e w1 ⟨rfl, hb1⟩
      have y0 := (hb1.block w.heap.size (by simp)).trans hx0
      have z0 : w1.cell? ⟨w.heap.size, 0, none⟩ = some (.int .u64 key) := by simp [World.cell?, y0]
      have z1 : w1.cell? ⟨w.heap.size, 1, none⟩ = some (.int .i64 up) := by simp [World.cell?, y0]
      have HB := bel_call hb0 (by rw [hsz]; exact hb1)
      go_wp2
      go_ret
      exact ⟨ret_bool HR.out.symm, HB⟩
  · have p2 : decide (0 ≤ up) = false := by simpa using q2
    have HR := HGO false (by rw [p1, p2]; simp)
    clear HGO
    go_enter Try.func91, Try.ntmps91
    go_wp2_with fail
    refine HA.out.mono ?_
    rintro e w1 ⟨rfl, hb1⟩
    have y0 := (hb1.block w.heap.size (by simp)).trans hx0
    have z0 : w1.cell? ⟨w.heap.size, 0, none⟩ = some (.int .u64 key) := by simp [World.cell?, y0]
    have z1 : w1.cell? ⟨w.heap.size, 1, none⟩ = some (.int .i64 up) := by simp [World.cell?, y0]
    have HB := bel_call hb0 (by rw [hsz]; exact hb1)
    go_wp2
    go_ret
    exact ⟨ret_bool HR.out.symm, HB⟩

set_option maxHeartbeats 1000000 in
theorem formOf_any (s : Array Value) (x : Trm) (w : World) (h : lay_Term.rep w (· < w.heap.size) x s.toList) :
    Calls Try.prog 77 #[.agg s] w fun e w' => e = .returned (keyV x) ∧ Below w.heap.size w w' := by
  obtain ⟨A, n, c, rfl, h1, h2, hV⟩ := agg_Term h
  clear h
  unfold keyV
  have hb0 : Below w.heap.size w ((w.alloc (Obj.cells #[.int .u64 x.Key, .int .i64 x.Up, .slice A n c] 62)).alloc (Obj.cells #[.int .u64 0, .int .i64 0, .string ⟨#[]⟩] 116)) := bel_alloc (bel_alloc (Below.refl _ _) _) _
  have hx1 := cell_alloc2 (w := w) (a := Obj.cells #[.int .u64 x.Key, .int .i64 x.Up, .slice A n c] 62) (b := Obj.cells #[.int .u64 0, .int .i64 0, .string ⟨#[]⟩] 116)
  have hv : Var3 _ (w.heap.size + 1) 116 _ _ _ := hx1.2
  have hv0 : Var3 _ w.heap.size 62 _ _ _ := hx1.1
  have k1 := ((hV.rd (B := w.heap.size) fun _ h => h).below hb0).str (P := Try.prog) Try.underlying46 Try.underlying5 Try.underlying9
  clear h1 h2 hV hx1
  generalize strOfNums x.Text = str at *
  generalize x.Key = key at *
  generalize x.Up = up at *
  go_enter Try.func77, Try.ntmps77
  go_upto_region 1 with (fail)
  generalize ((w.alloc (Obj.cells #[.int .u64 key, .int .i64 up, .slice A n c] 62)).alloc (Obj.cells #[.int .u64 0, .int .i64 0, .string ⟨#[]⟩] 116)) = W at *
  have c0 := hv0.c0
  have c1 := hv0.c1
  have c2 := hv0.c2
  have d0 := hv.c0
  have d1 := hv.c1
  have d2 := hv.c2
  have f0 := hv.f 0
  have f1 := hv.f 1
  have f2 := hv.f 2
  have hv' := hid (hv.set (.int .u64 key) (.int .i64 up) (.string str))
  have HB := hid (((hb0.setCell (p := ⟨w.heap.size + 1, 0, none⟩) (by show w.heap.size ≤ w.heap.size + 1; omega) (.int .u64 key)).setCell (p := ⟨w.heap.size + 1, 1, none⟩) (by show w.heap.size ≤ w.heap.size + 1; omega) (.int .i64 up)).setCell (p := ⟨w.heap.size + 1, 2, none⟩) (by show w.heap.size ≤ w.heap.size + 1; omega) (.string str))
  clear hv hv0 hb0
  go_wp2
  refine bodyPost_ret_by (results_c rfl _ _ (w.heap.size + 1) 0 rfl [.int .u64 key, .int .i64 up, .string str] _ (range3 hv'.out.c0 hv'.out.c1 hv'.out.c2) Try.underlying116 rfl (by kernel_rfl)) rfl ?_
  exact ⟨rfl, HB.out⟩

set_option maxHeartbeats 1000000 in
theorem isTag_any (s : Array Value) (l : List Trm) (u : Int) (w : World) (g : lay_Arena.rep w (· < w.heap.size) l s.toList) (hu : (Lit.int .i64 u).wf = true) :
    Calls Try.prog 61 #[.agg s, .int .i64 u] w fun e w' => e = .returned (.bool (decide (0 ≤ u) && decide (u < l.length))) ∧ Below w.heap.size w w' := by
  obtain ⟨A, n, c, rfl, h⟩ := agg_Arena g
  clear g
  rw [h.len]
  have hcap := h.cap
  unfold maxLen at hcap
  have bU := bounds_i64 hu
  have hb0 : Below w.heap.size w (w.alloc (Obj.cells #[.slice A n c] 24)) := bel_alloc (Below.refl _ _) _
  by_cases g1 : 0 ≤ u
  · have d1 : decide (0 ≤ u) = true := by simpa using g1
    have HR := hid (show decide (u < (n : Int)) = (decide (0 ≤ u) && decide (u < (n : Int))) from by rw [d1, Bool.true_and])
    go_enter Try.func61, Try.ntmps61
    go_wp2
    go_ret
    exact ⟨ret_bool HR.out, hb0⟩
  · have d1 : decide (0 ≤ u) = false := by simpa using g1
    go_enter Try.func61, Try.ntmps61
    go_wp2
    go_ret
    exact ⟨ret_bool rfl, hb0⟩

set_option maxHeartbeats 1000000 in
theorem aSame1_any (s1 s2 : Array Value) (S : Nat → Prop) (x y : Trm) (w : World) (h1 : lay_Term.rep w S x s1.toList) (h2 : lay_Term.rep w S y s2.toList) (hS : ∀ b, S b → b < w.heap.size) :
    Calls Try.prog 65 #[.agg s1, .agg s2] w fun e w' => e = .returned (.bool (decide (x = y))) ∧ Below w.heap.size w w' := by
  obtain ⟨A1, n1, c1, rfl, -, -, hV1⟩ := agg_Term h1
  obtain ⟨A2, n2, c2, rfl, -, -, hV2⟩ := agg_Term h2
  have hb0 : Below w.heap.size w ((w.alloc (Obj.cells #[.int .u64 x.Key, .int .i64 x.Up, .slice A1 n1 c1] 62)).alloc (Obj.cells #[.int .u64 y.Key, .int .i64 y.Up, .slice A2 n2 c2] 62)) := bel_alloc (bel_alloc (Below.refl _ _) _) _
  have R1 := hid ((hV1.rd hS).below hb0)
  have R2 := hid ((hV2.rd hS).below hb0)
  clear hV1 hV2 h1 h2
  by_cases hk : x.Key = y.Key
  · have hk' : (x.Key == y.Key) = true := by simpa using hk
    by_cases hu : x.Up = y.Up
    · have hu' : (x.Up == y.Up) = true := by simpa using hu
      have HD := hid (show decide (x = y) = decide (x.Text = y.Text) from by
        by_cases hv : x.Text = y.Text
        · rw [decide_eq_true (Trm.ext' hk hu hv), decide_eq_true hv]
        · rw [decide_eq_false hv, decide_eq_false fun e => hv (by rw [e])])
      clear hk hu
      go_enter Try.func65, Try.ntmps65
      go_wp2_with (go_at_call 66; go_must (refine (equal_any _ _ _ _ _ _ _ _ _ _ _ R1.out R2.out).mono ?_; rintro e w' ⟨rfl, rfl⟩))
      go_ret
      exact ⟨ret_bool HD.out.symm, hb0⟩
    · have hu' : (x.Up == y.Up) = false := by simpa using hu
      have HD := hid (show decide (x = y) = false from decide_eq_false fun e => hu (by rw [e]))
      clear hk hu
      go_enter Try.func65, Try.ntmps65
      go_wp2
      go_ret
      exact ⟨ret_bool HD.out.symm, hb0⟩
  · have hk' : (x.Key == y.Key) = false := by simpa using hk
    have HD := hid (show decide (x = y) = false from decide_eq_false fun e => hk (by rw [e]))
    clear hk
    go_enter Try.func65, Try.ntmps65
    go_wp2
    go_ret
    exact ⟨ret_bool HD.out.symm, hb0⟩

set_option maxRecDepth 100000 in
set_option maxHeartbeats 1000000 in
theorem aEqualFunc_any (A1 A2 : Option Addr) (n1 c1 n2 c2 : Nat) (l o : List Trm) (w : World) (h1 : Sl lay_Term w (· < w.heap.size) A1 n1 c1 l) (h2 : Sl lay_Term w (· < w.heap.size) A2 n2 c2 o) :
    Calls Try.prog 64 #[.slice A1 n1 c1, .slice A2 n2 c2, .func (.func 65) #[] #[]] w fun e w' => e = .returned (.bool (decide (l = o))) ∧ Below w.heap.size w w' := by
  have K1 := hid h1.len
  have K2 := hid h2.len
  have k1 := h1.cap
  have k2 := h2.cap
  unfold maxLen at k1 k2
  by_cases hl : n1 = n2
  · subst hl
    have hne : ((n1 : Int) != (n1 : Int)) = false := by simp
    go_enter Try.func64, Try.ntmps64
    go_wp2
    go_loopw [17] (fun i wr => ∃ j : Nat, j ≤ n1 ∧ i = .int .i64 j ∧ l.take j = o.take j ∧ Below w.heap.size w wr) (fun i _ => n1 - (intOf i).toNat)
    case atStart => exact ⟨0, Nat.zero_le _, rfl, rfl, Below.refl _ _⟩
    case round =>
      obtain ⟨j, hj, rfl, hpre, hbel⟩ := hrel
      have HP := hid hpre
      clear hpre
      by_cases hlt : j < n1
      · obtain ⟨b1, o1, A', n', c', hx1, rfl, hb1, t1, u1, v1, e1, e2, hV1⟩ := trm_at h1 hlt
        obtain ⟨b2, o2, A'', n'', c'', hx2, rfl, hb2, t2, u2, v2, e3, e4, hV2⟩ := trm_at h2 hlt
        have q1 := (hbel.cell (p := ⟨b1, o1 + j * 3, none⟩) hb1).trans t1
        have q2 := (hbel.cell (p := ⟨b1, o1 + j * 3 + 1, none⟩) hb1).trans u1
        have q3 := (hbel.cell (p := ⟨b1, o1 + j * 3 + 2, none⟩) hb1).trans v1
        have q4 := (hbel.cell (p := ⟨b2, o2 + j * 3, none⟩) hb2).trans t2
        have q5 := (hbel.cell (p := ⟨b2, o2 + j * 3 + 1, none⟩) hb2).trans u2
        have q6 := (hbel.cell (p := ⟨b2, o2 + j * 3 + 2, none⟩) hb2).trans v2
        have hg1 : b1 < wr.heap.size := Nat.lt_of_lt_of_le hb1 hbel.size
        have hg2 : b2 < wr.heap.size := Nat.lt_of_lt_of_le hb2 hbel.size
        have hbb := (hbel.alloc hbel.size (Obj.cells #[.int .u64 l[j].Key, .int .i64 l[j].Up, .slice A' n' c'] 62)).alloc (by have := hbel.size; simp; omega) (Obj.cells #[.int .u64 o[j].Key, .int .i64 o[j].Up, .slice A'' n'' c''] 62)
        have P1 := hid (show lay_Term.rep _ (· < w.heap.size) l[j] #[.int .u64 l[j].Key, .int .i64 l[j].Up, .slice A' n' c'].toList from rep_Term.2 ⟨A', n', c', rfl, e1, e2, hV1.keep fun _ hp => hbb.cell hp⟩)
        have P2 := hid (show lay_Term.rep _ (· < w.heap.size) o[j] #[.int .u64 o[j].Key, .int .i64 o[j].Up, .slice A'' n'' c''].toList from rep_Term.2 ⟨A'', n'', c'', rfl, e3, e4, hV2.keep fun _ hp => hbb.cell hp⟩)
        have HS := hid (fun (b : Nat) (h : b < w.heap.size) => Nat.lt_of_lt_of_le h hbb.size)
        clear t1 v1 t2 v2 u1 u2 hV1 hV2 e1 e2 e3 e4
        by_cases he : l[j] = o[j]
        · have HN := hid (take_sameT hx1 hx2 HP.out he)
          have HD := hid (decide_eq_true he)
          clear he
          go_wp2_with (go_at_call 65; go_must (refine (aSame1_any _ _ _ l[j] o[j] _ P1.out P2.out HS.out).mono ?_; rw [HD.out]; rintro e w2 ⟨rfl, hb2⟩))
          go_roundw
          case rel => exact ⟨j + 1, by omega, by go_num, HN.out, hbb.trans (hb2.mono hbb.size)⟩
          case measure => simp [intOf]; omega
        · have HN := hid (show decide (l = o) = false from decide_eq_false fun e => he (by simp only [e]))
          have HD := hid (decide_eq_false he)
          clear he
          go_wp2_with (go_at_call 65; go_must (refine (aSame1_any _ _ _ l[j] o[j] _ P1.out P2.out HS.out).mono ?_; rw [HD.out]; rintro e w2 ⟨rfl, hb2⟩))
          go_ret
          exact ⟨ret_bool HN.out.symm, hbb.trans (hb2.mono hbb.size)⟩
      · have HN := hid (show decide (l = o) = true from by
          have := HP.out
          rw [List.take_of_length_le (by rw [K1.out]; omega), List.take_of_length_le (by rw [K2.out]; omega)] at this
          exact decide_eq_true this)
        go_wp2
        go_ret
        exact ⟨ret_bool HN.out.symm, hbel⟩
  · have hne : ((n1 : Int) != (n2 : Int)) = true := by simp; omega
    have HN := hid (show decide (l = o) = false from decide_eq_false fun e => by rw [e] at K1; have a1 := K1.out; have a2 := K2.out; omega)
    go_enter Try.func64, Try.ntmps64
    go_wp2
    go_ret
    exact ⟨ret_bool HN.out.symm, Below.refl _ _⟩

set_option maxHeartbeats 1000000 in
theorem aSame_any (s1 s2 : Array Value) (l o : List Trm) (w : World) (g1 : lay_Arena.rep w (· < w.heap.size) l s1.toList) (g2 : lay_Arena.rep w (· < w.heap.size) o s2.toList) :
    Calls Try.prog 32 #[.agg s1, .agg s2] w fun e w' => e = .returned (.bool (decide (l = o))) ∧ Below w.heap.size w w' := by
  obtain ⟨A1, n1, c1, rfl, h1⟩ := agg_Arena g1
  obtain ⟨A2, n2, c2, rfl, h2⟩ := agg_Arena g2
  clear g1 g2
  have hb0 : Below w.heap.size w ((w.alloc (Obj.cells #[.slice A1 n1 c1] 24)).alloc (Obj.cells #[.slice A2 n2 c2] 24)) := bel_alloc (bel_alloc (Below.refl _ _) _) _
  have P1 := hid (Sl.call h1 hb0)
  have P2 := hid (Sl.call h2 hb0)
  clear h1 h2
  go_enter Try.func32, Try.ntmps32
  go_wp2_with (go_at_call 64; go_must (refine (aEqualFunc_any _ _ _ _ _ _ l o _ P1.out P2.out).mono ?_; rintro e w1 ⟨rfl, hb1⟩))
  go_ret
  exact ⟨rfl, bel_call hb0 hb1⟩
end Go.Proofs.Ytgiapfenalhleaa
namespace Go.Proofs.Ytgiapfenalhleaa
open Go.RowKit Go.WalkArith

theorem run_makeMapN (n : Nat) (w : World) : (Instr.makeMap 109 (some (.int .i64 (n : Int)))).run Try.prog w = .ok (.map (some w.heap.size)) (w.alloc (.map #[] 0)) := by
  simp [Instr.makeMap, asInt, asIntOf]

theorem nodup_plc {l : List Trm} : l.Nodup ↔ ∀ i (hi : i < l.length), plc l[i] l = i := by
  constructor
  · intro h i hi
    refine plc_of hi rfl fun k hk e => ?_
    have := (List.getElem_inj (h₀ := by omega) (h₁ := hi) h).1 e
    omega
  · intro h
    rw [List.nodup_iff_pairwise_ne, List.pairwise_iff_getElem]
    intro i j hi hj hij e
    have h1 := h i hi
    rw [e, h j hj] at h1
    omega
theorem arE_no {l : List Trm} {j : Nat} (hj : j < l.length) (h : ¬ Fit j l[j]) : arE l = 1 := if_neg fun k => h (k.2 j hj hj).1
theorem arE_dup {l : List Trm} (h : ¬ l.Nodup) : arE l = 1 := if_neg fun k => h (nodup_plc.2 fun i hi => (k.2 i hi hi).2)
theorem arE_yes {l : List Trm} (h1 : l.length ≤ 1048576) (h2 : ∀ i (hi : i < l.length), Fit i l[i]) (h3 : l.Nodup) : arE l = 0 := if_pos ⟨h1, fun i hi _ => ⟨h2 i hi, nodup_plc.1 h3 i hi⟩⟩
theorem arOk_of {l : List Trm} (h : arE l = 0) : ArOk l := by
  by_cases k : ArOk l
  · exact k
  · rw [arE, if_neg k] at h
    cases h
theorem ArOk.nodup {l : List Trm} (h : ArOk l) : l.Nodup := nodup_plc.2 fun i hi => (h.2 i hi hi).2
theorem Sl.wfI {k : IntKind} {w : World} {S : Nat → Prop} {A : Option Addr} {n c : Nat} {xs : List Int} (h : Sl (Lay.int k) w S A n c xs) : ∀ x ∈ xs, (Lit.int k x).wf = true := by
  rcases Nat.eq_zero_or_pos n with h0 | h0
  · have : xs = [] := List.eq_nil_of_length_eq_zero (by rw [h.len, h0])
    subst this; simp
  · obtain ⟨_, _, _, _, _, hr, _⟩ := h.row h0
    exact (repRow_ints.1 hr).2
theorem okTrm_of {w : World} {S : Nat → Prop} {x : Trm} {cs : List Value} (h : lay_Term.rep w S x cs) (hl : x.Text.length ≤ 4096) : OkTrm x := by
  obtain ⟨A, n, c, -, h1, h2, h3⟩ := rep_Term.1 h
  exact ⟨h1, h2, h3.wfI, hl⟩

set_option maxRecDepth 100000 in
set_option maxHeartbeats 2000000 in
theorem places_any (s : Array Value) (l : List Trm) (w : World) (g : lay_Arena.rep w (· < w.heap.size) l s.toList) :
    Calls Try.prog 73 #[.agg s] w fun e w' => (∃ v, e = .returned (.tuple #[v, .int .i64 (arE l)]) ∧ (arE l = 0 → ∃ b, v = .map (some b) ∧ MapTo w' b l ∧ w.heap.size ≤ b)) ∧ Below w.heap.size w w' := by
  obtain ⟨A, n, c, rfl, h⟩ := agg_Arena g
  clear g
  have HL := hid h.len
  have hcap := h.cap
  unfold maxLen at hcap
  have hb0 : Below w.heap.size w (w.alloc (Obj.cells #[.slice A n c] 24)) := bel_alloc (Below.refl _ _) _
  have hx0 := heap_alloc_new w (Obj.cells #[.slice A n c] 24)
  by_cases hbig : 1048576 < n
  · have HE := hid (show arE l = 1 from if_neg fun k => by have := k.1; rw [HL.out] at this; omega)
    have hd : (1048576 : Int) < (n : Int) := by omega
    go_enter Try.func73, Try.ntmps73
    go_wp2
    go_ret2
    exact ⟨⟨_, by rw [HE.out]; rfl, fun k => by rw [HE.out] at k; cases k⟩, hb0⟩
  have hd : decide ((1048576 : Int) < (n : Int)) = false := by simp; omega
  have hn : n ≤ 1048576 := by omega
  clear hbig
  have hmm := run_makeMapN n
  have HM := hid (mapTo_made (w.alloc (Obj.cells #[.slice A n c] 24)))
  have hsz : (w.alloc (Obj.cells #[.slice A n c] 24)).heap.size = w.heap.size + 1 := by simp
  rw [hsz] at HM
  have hb1 : Below w.heap.size w ((w.alloc (Obj.cells #[.slice A n c] 24)).alloc (Obj.map #[] 0)) := bel_alloc hb0 _
  have hx1 : ((w.alloc (Obj.cells #[.slice A n c] 24)).alloc (Obj.map #[] 0)).heap[w.heap.size]? = some (Obj.cells #[.slice A n c] 24 (0, 0)) := heap_alloc2_old _ _ _
  go_enter Try.func73, Try.ntmps73
  go_wp2
  go_loopw [18] (fun i wr => ∃ j : Nat, j ≤ n ∧ i = .int .i64 j ∧ (∀ i (hi : i < l.length), i < j → Fit i l[i]) ∧ MapTo wr (w.heap.size + 1) (l.take j) ∧ wr.heap[w.heap.size]? = some (Obj.cells #[.slice A n c] 24 (0, 0)) ∧ Below w.heap.size w wr) (fun i _ => n - (intOf i).toNat)
  case atStart => exact ⟨0, Nat.zero_le _, rfl, fun _ _ h => absurd h (by omega), by rw [List.take_zero]; exact HM.out, hx1, hb1⟩
  case round =>
    obtain ⟨j, hj, rfl, hpre, hmap, hv, hbel⟩ := hrel
    have HP := hid hpre
    have HM2 := hid hmap
    clear hpre hx0 hb0 hx1 hb1 hmap HM hmm
    have z := cell_of_one hv
    by_cases hlt : j < n
    · obtain ⟨b1, o1, A', n', c', hx1, rfl, hb1, t1, u1, v1, e1, e2, hV1⟩ := trm_at h hlt
      have q1 := (hbel.cell (p := ⟨b1, o1 + j * 3, none⟩) hb1).trans t1
      have q2 := (hbel.cell (p := ⟨b1, o1 + j * 3 + 1, none⟩) hb1).trans u1
      have q3 := (hbel.cell (p := ⟨b1, o1 + j * 3 + 2, none⟩) hb1).trans v1
      have hlb := lt_of_block hv
      have hba := hbel.alloc hbel.size (Obj.cells #[.int .u64 l[j].Key, .int .i64 l[j].Up, .slice A' n' c'] 62)
      have hxa := heap_alloc_new wr (Obj.cells #[.int .u64 l[j].Key, .int .i64 l[j].Up, .slice A' n' c'] 62)
      have P1 := hid (fun (W : World) (h : Below w.heap.size w W) => (show lay_Term.rep W (· < W.heap.size) l[j] #[.int .u64 l[j].Key, .int .i64 l[j].Up, .slice A' n' c'].toList from rep_Term.2 ⟨A', n', c', rfl, e1, e2, Sl.call hV1 h⟩))
      have HX := hid hV1.len
      clear t1 u1 v1 e1 e2 hV1
      have hsa : (wr.alloc (Obj.cells #[.int .u64 l[j].Key, .int .i64 l[j].Up, .slice A' n' c'] 62)).heap.size = wr.heap.size + 1 := by simp
      have HMS := hid (mayStand_any _ l[j] j _ (P1.out _ hba) (by omega))
      have hbw : Below wr.heap.size wr (wr.alloc (Obj.cells #[.int .u64 l[j].Key, .int .i64 l[j].Up, .slice A' n' c'] 62)) := bel_alloc (Below.refl _ _) _
      by_cases g1 : Fit j l[j]
      · rw [fitB_iff.2 g1] at HMS
        have hok : OkTrm l[j] := okTrm_of (P1.out _ hba) g1.2.2.2
        have HPN := hid (fun (i : Nat) (hi : i < l.length) (hij : i < j + 1) => (show Fit i l[i] from by
          rcases Nat.lt_or_ge i j with h1 | h1
          · exact HP.out i hi h1
          · obtain rfl : i = j := by omega
            exact g1))
        have HT := hid (List.take_succ_eq_append_getElem hx1)
        have HLT := hid (show (l.take j).length = j from by rw [List.length_take]; omega)
        clear g1
        go_wp2_with fail
        refine HMS.out.mono ?_
        rintro e w2 ⟨rfl, hb2⟩
        have V2 : Var3 w2 wr.heap.size 62 _ _ _ := (hb2.block wr.heap.size (by simp)).trans hxa
        have r0 := V2.c0
        have r1 := V2.c1
        have r2 := V2.c2
        have HB2 : Below w.heap.size w w2 := hba.trans (hb2.mono hba.size)
        have HF := hid (formOf_any _ l[j] w2 (P1.out _ HB2))
        go_wp2_with fail
        refine HF.out.mono ?_
        rintro e w3 ⟨rfl, hb3⟩
        have HB3 : Below w.heap.size w w3 := bel_call HB2 hb3
        have hw3 : Below wr.heap.size wr w3 := bel_call (bel_call hbw hb2) hb3
        obtain ⟨w4, hrun, hm4, hg4⟩ := (HM2.out.below hw3).put hok (by rw [HLT.out]; omega)
        rw [HLT.out] at hrun
        rw [← HT.out] at hm4
        have HM4 := hid hm4
        have HB4 := hid (HB3.trans (grown_below hg4 (by omega) HB3.size))
        have Hv4 := hid ((hg4.block w.heap.size (Nat.lt_of_lt_of_le hlb hw3.size) (by simp)).trans ((hw3.block w.heap.size hlb).trans hv))
        clear hm4 hg4 hb3 hb2 r0 r1 r2 V2 HF HM2
        go_wp2
        go_roundw
        case rel => exact ⟨j + 1, by omega, by go_num, HPN.out, HM4.out, Hv4.out, HB4.out⟩
        case measure => simp [intOf]; omega
      · rw [Bool.eq_false_iff.2 fun k => g1 (fitB_iff.1 k)] at HMS
        have HE := hid (arE_no hx1 g1)
        clear g1
        go_wp2_with (go_at_call 91; go_must (refine HMS.out.mono ?_; rintro e w2 ⟨rfl, hb2⟩))
        go_ret2
        exact ⟨⟨_, by rw [HE.out]; rfl, fun k => by rw [HE.out] at k; cases k⟩, hba.trans (hb2.mono hba.size)⟩
    · obtain ⟨m, hlen, hm1, hm2⟩ := HM2.out.len
      have hjn : j = n := by omega
      subst hjn
      rw [List.take_of_length_le (by rw [HL.out]; omega), HL.out] at hm1
      rw [List.take_of_length_le (by rw [HL.out]; omega), HL.out] at hm2
      have hlen' := hlen 3
      by_cases g1 : m = j
      · subst g1
        have HE := hid (arE_yes (by rw [HL.out]; exact hn) (fun i hi => HP.out i hi (by rw [HL.out] at hi; omega)) (hm2.1 rfl))
        have HM4 := hid (show MapTo wr (w.heap.size + 1) l from by have := HM2.out; rwa [List.take_of_length_le (by rw [HL.out]; omega)] at this)
        clear hm1 hm2 hlen
        go_wp2
        go_ret2
        exact ⟨⟨_, by rw [HE.out]; rfl, fun k => ⟨w.heap.size + 1, rfl, HM4.out, by omega⟩⟩, hbel⟩
      · have HE := hid (arE_dup (l := l) fun k => g1 (hm2.2 k))
        have hd2 : (m : Int) < (j : Int) := by omega
        clear hm1 hm2 hlen
        go_wp2
        go_ret2
        exact ⟨⟨_, by rw [HE.out]; rfl, fun k => by rw [HE.out] at k; cases k⟩, hbel⟩

set_option maxHeartbeats 1000000 in
theorem aCheck_any (s : Array Value) (l : List Trm) (w : World) (g : lay_Arena.rep w (· < w.heap.size) l s.toList) :
    Calls Try.prog 38 #[.agg s] w fun e w' => e = .returned (.int .i64 (arE l)) ∧ Below w.heap.size w w' := by
  obtain ⟨A, n, c, rfl, h⟩ := agg_Arena g
  clear g
  have hb0 : Below w.heap.size w (w.alloc (Obj.cells #[.slice A n c] 24)) := bel_alloc (Below.refl _ _) _
  have P := hid (Sl.call h hb0)
  go_enter Try.func38, Try.ntmps38
  go_wp2_with (go_at_call 73; go_must (refine (places_any _ l _ (rep_Arena.2 ⟨_, _, _, rfl, P.out⟩)).mono ?_; rintro e w1 ⟨⟨v, rfl, -⟩, hb1⟩))
  go_ret
  exact ⟨rfl, bel_call hb0 hb1⟩
end Go.Proofs.Ytgiapfenalhleaa
namespace Go.Proofs.Ytgiapfenalhleaa
open Go.RowKit Go.WalkArith

theorem OwnL.lit0 {α : Type} (L : Lay α) (w : World) (e : TypeId) (lo : Option Nat) : OwnL L (w.alloc (.cells #[] e)) w.heap.size lo e (.slice (some ⟨w.heap.size, 0, none⟩) 0 0) [] :=
  ⟨[], World.ownsRow_lit w #[] 0 (Nat.le_refl _) (Nat.zero_le _) (by simp), rfl⟩

set_option maxHeartbeats 1000000 in
/-- slices.Clone, of terms. -/
theorem cloneT_any (A : Option Addr) (n c : Nat) (l : List Trm) (w : World) (h : Sl lay_Term w (· < w.heap.size) A n c l) (hn : n ≤ 1048576) :
    Calls Try.prog 86 #[.slice A n c] w fun e w' => ∃ v', e = .returned v' ∧ OwnL lay_Term w' w.heap.size none 62 v' l ∧ Below w.heap.size w w' := by
  have hnil := fun W => run_is_nil (P := Try.prog) W 22 62 A n c Try.underlying22
  cases A with
  | none =>
    have hc := h.no rfl
    have hn0 : n = 0 := by have := h.cap; omega
    subst hc hn0
    have hx : l = [] := List.eq_nil_of_length_eq_zero h.len
    subst hx
    go_enter Try.func86, Try.ntmps86
    go_wp2
    go_ret
    exact ⟨_, rfl, OwnL.nil _ _ _ _ _, Below.refl _ _⟩
  | some a =>
    have hb0 : Below w.heap.size w (w.alloc (Obj.cells #[] 62)) := bel_alloc (Below.refl _ _) _
    have HS := hid (h.keep fun _ hp => hb0.cell hp)
    go_enter Try.func86, Try.ntmps86
    go_wp2_with (at_builtin; go_must (refine wpList_catL rfl _ _ 22 rfl w.heap.size none 62 _ 40 Try.underlying22 Try.infoTerm rfl (by decide) (.slice (some ⟨w.heap.size, 0, none⟩) 0 0) [] l (· < w.heap.size) (some a) n c rfl rfl (OwnL.lit0 lay_Term _ _ none) HS.out (fun b hb => ⟨trivial, Nat.lt_of_lt_of_le hb hb0.size, fun he => by simp [Value.ownBlock] at he; omega⟩) (by simp) (by simp; omega) (by unfold maxLen; simp; omega) ?_; intro v3 w3 hown3 hext3))
    go_ret
    simp only [List.nil_append] at hown3
    exact ⟨_, rfl, hown3, hb0.trans ((OwnL.lit0 lay_Term w _ none).below hext3 (by simp))⟩

/-- An owned slice whose elements up to a place reach new blocks alone. -/
def Mix {α : Type} (L : Lay α) (w : World) (base lo : Nat) (e : TypeId) (g n cap : Nat) (xs : List α) (j : Nat) : Prop :=
  ∃ cs ds, w.ownsRow base e L.size (.slice (some ⟨g, 0, none⟩) n cap) n (cs ++ ds) ∧ xs.length = n ∧ RepRow L w (Els w (some lo) (.slice (some ⟨g, 0, none⟩) n cap)) (xs.take j) cs ∧ RepRow L w (Els w none (.slice (some ⟨g, 0, none⟩) n cap)) (xs.drop j) ds

section
variable {α : Type} {L : Lay α} {w w' : World} {base lo : Nat} {e : TypeId} {g n cap : Nat} {xs : List α} {j : Nat}
theorem OwnL.mix (h : OwnL L w base none e (.slice (some ⟨g, 0, none⟩) n cap) xs) (lo : Nat) : Mix L w base lo e g n cap xs 0 := by
  obtain ⟨cs, h1, h2⟩ := h
  have hl : xs.length = n := by
    rcases h1.2 with ⟨h', _⟩ | ⟨g', cap', cur, h', _⟩
    · simp at h'
    · simp only [Value.slice.injEq] at h'; exact h'.2.1.symm
  subst hl
  exact ⟨[], cs, h1, rfl, rfl, h2⟩
theorem Mix.own (h : Mix L w base lo e g n cap xs n) : OwnL L w base (some lo) e (.slice (some ⟨g, 0, none⟩) n cap) xs := by
  obtain ⟨cs, ds, h1, h2, h3, h4⟩ := h
  subst h2
  rw [List.take_of_length_le (Nat.le_refl _)] at h3
  rw [List.drop_of_length_le (Nat.le_refl _)] at h4
  simp [RepRow] at h4
  subst h4
  exact ⟨cs, by simpa using h1, h3⟩
theorem Mix.lt (h : Mix L w base lo e g n cap xs j) : base ≤ g ∧ g < w.heap.size := by
  obtain ⟨cs, ds, h1, _⟩ := h
  exact h1.lt g rfl
theorem Els.keepB {lo : Option Nat} {v : Value} {b : Nat} (h : Els w lo v b) (hb : Below w.heap.size w w') : Els w' lo v b := ⟨h.1.of_block (hb.block b h.2.1), Nat.lt_of_lt_of_le h.2.1 hb.size, h.2.2⟩
theorem Mix.keep (h : Mix L w base lo e g n cap xs j) (hb : Below w.heap.size w w') : Mix L w' base lo e g n cap xs j := by
  obtain ⟨cs, ds, h1, h2, h3, h4⟩ := h
  refine ⟨cs, ds, ?_, h2, (h3.keep fun p hp => hb.cell hp.2.1).wide fun b hb' => hb'.keepB hb, (h4.keep fun p hp => hb.cell hp.2.1).wide fun b hb' => hb'.keepB hb⟩
  refine ⟨h1.1, ?_⟩
  rcases h1.2 with h0 | ⟨g, cap, cur, h5, hbg, hg, r⟩
  · exact .inl h0
  · exact .inr ⟨g, cap, cur, h5, hbg, by rw [hb.block g (Array.getElem?_eq_some_iff.1 hg).1]; exact hg, r⟩
theorem Els.keepC {lo : Option Nat} {v : Value} {b g i : Nat} {u : Value} (h : Els w lo v b) (hg : v.ownBlock = some g) : Els (w.setCell ⟨g, i, none⟩ u) lo v b := by
  have hne : b ≠ g := fun e => h.2.2 (by rw [hg, e])
  exact ⟨h.1.of_block (Below.heap_setCell _ _ _ _ hne), by simpa using h.2.1, h.2.2⟩
theorem RepRow.keepC {lo : Option Nat} {v : Value} {g i : Nat} {u : Value} {ys : List α} {cs : List Value} (h : RepRow L w (Els w lo v) ys cs) (hg : v.ownBlock = some g) : RepRow L (w.setCell ⟨g, i, none⟩ u) (Els (w.setCell ⟨g, i, none⟩ u) lo v) ys cs :=
  (h.keep fun p hp => World.cell?_of_block (Below.heap_setCell _ _ _ _ fun e => hp.2.2 (by rw [hg]; exact congrArg some e))).wide fun b hb => hb.keepC hg
end
section
variable {w : World} {base lo : Nat} {e : TypeId} {g n cap : Nat} {xs : List Trm} {j : Nat}
theorem Mix.term (h : Mix lay_Term w base lo e g n cap xs j) (hj : j < n) : ∃ A' n' c', ∃ hx : j < xs.length, w.cell? ⟨g, j * 3, none⟩ = some (.int .u64 xs[j].Key) ∧ w.cell? ⟨g, j * 3 + 1, none⟩ = some (.int .i64 xs[j].Up) ∧ w.cell? ⟨g, j * 3 + 2, none⟩ = some (.slice A' n' c') ∧ (Lit.int .u64 xs[j].Key).wf = true ∧ (Lit.int .i64 xs[j].Up).wf = true ∧ Sl (Lay.int .u8) w (· < w.heap.size) A' n' c' xs[j].Text ∧ w.frozen? ⟨g, j * 3 + 2, none⟩ = false := by
  obtain ⟨cs, ds, h1, h2, h3, h4⟩ := h
  have hx : j < xs.length := by omega
  rw [List.drop_eq_getElem_cons hx] at h4
  obtain ⟨c1, c2, rfl, h5, h6⟩ := h4
  obtain ⟨A', n', c', rfl, k1, k2, k3⟩ := rep_Term.1 h5
  have hcl := h3.len
  rw [List.length_take, Nat.min_eq_left (by omega), size_Term] at hcl
  have hat : ∀ i, i < 3 → w.cell? ⟨g, j * 3 + i, none⟩ = [Value.int .u64 xs[j].Key, .int .i64 xs[j].Up, .slice A' n' c'][i]? := fun i hi => by
    rw [h1.cellAt (j * 3 + i) (by rw [size_Term]; omega), List.getElem?_append_right (by omega), hcl, Nat.add_sub_cancel_left, List.getElem?_append_left (by simpa using hi)]
  exact ⟨A', n', c', hx, hat 0 (by omega), hat 1 (by omega), hat 2 (by omega), k1, k2, k3.wide fun b hb => hb.2.1, h1.frozenAt _⟩
theorem Mix.step (h : Mix lay_Term w base lo e g n cap xs j) (hj : j < n) (hx : j < xs.length) {A' : Option Addr} {n' c' : Nat} {lo' : Nat} (hs : Sl (Lay.int .u8) w (From w lo') A' n' c' xs[j].Text) (hl : lo ≤ lo') (hg : g < lo') : Mix lay_Term (w.setCell ⟨g, j * 3 + 2, none⟩ (.slice A' n' c')) base lo e g n cap xs (j + 1) := by
  obtain ⟨cs, ds, h1, h2, h3, h4⟩ := h
  rw [List.drop_eq_getElem_cons hx] at h4
  obtain ⟨c1, c2, rfl, h5, h6⟩ := h4
  obtain ⟨A0, n0, c0, rfl, k1, k2, k3⟩ := rep_Term.1 h5
  have hcl := h3.len
  rw [List.length_take, Nat.min_eq_left (by omega), size_Term] at hcl
  refine ⟨cs ++ [.int .u64 xs[j].Key, .int .i64 xs[j].Up, .slice A' n' c'], c2, ?_, h2, ?_, h6.keepC rfl⟩
  · have := (h1.stored (j * 3 + 2) (.slice A' n' c')).1
    rw [List.set_append_right _ _ (by omega), hcl, Nat.add_sub_cancel_left] at this
    simpa using this
  · rw [List.take_succ_eq_append_getElem hx]
    refine (h3.keepC rfl).append (RepRow.single (rep_Term.2 ⟨A', n', c', rfl, k1, k2, ?_⟩))
    refine (hs.keep fun p hp => World.cell?_of_block (Below.heap_setCell _ _ _ _ fun e => ?_)).wide fun b hb => ?_
    · have := hp.1
      simp at e
      omega
    · have hne : b ≠ g := fun e => by have := hb.1; omega
      exact ⟨⟨Nat.le_trans hl hb.1, hb.2.2.of_block (Below.heap_setCell _ _ _ _ hne)⟩, by simpa using hb.2.1, fun e => hne (by simpa [Value.ownBlock] using e)⟩
/-- The like, nil let in. -/
def MixV {α : Type} (L : Lay α) (w : World) (base lo : Nat) (e : TypeId) (A : Option Addr) (n c : Nat) (xs : List α) (j : Nat) : Prop :=
  (A = none ∧ n = 0 ∧ c = 0 ∧ xs = []) ∨ ∃ g, A = some ⟨g, 0, none⟩ ∧ Mix L w base lo e g n c xs j
theorem OwnL.mixV {α : Type} {L : Lay α} {A : Option Addr} {n c : Nat} {xs : List α} (h : OwnL L w base none e (.slice A n c) xs) (lo : Nat) : MixV L w base lo e A n c xs 0 := by
  have h0 := h
  obtain ⟨cs, h1, h2⟩ := h
  rcases h1.2 with ⟨h', hx⟩ | ⟨g, cap, cur, h', _⟩
  · simp only [Value.slice.injEq] at h'
    exact .inl ⟨h'.1, h'.2.1, h'.2.2, List.eq_nil_of_length_eq_zero hx⟩
  · simp only [Value.slice.injEq] at h'
    obtain ⟨rfl, rfl, rfl⟩ := h'
    exact .inr ⟨g, rfl, h0.mix lo⟩
theorem MixV.own {α : Type} {L : Lay α} {A : Option Addr} {n c : Nat} {xs : List α} (h : MixV L w base lo e A n c xs n) : OwnL L w base (some lo) e (.slice A n c) xs := by
  rcases h with ⟨rfl, rfl, rfl, rfl⟩ | ⟨g, rfl, h⟩
  · exact OwnL.nil _ _ _ _ _
  · exact h.own
end
end Go.Proofs.Ytgiapfenalhleaa
namespace Go.Proofs.Ytgiapfenalhleaa
open Go.RowKit Go.WalkArith

set_option maxRecDepth 100000 in
set_option maxHeartbeats 4000000 in
theorem aWith_any (s1 s2 : Array Value) (l : List Trm) (x : Trm) (w : World) (g1 : lay_Arena.rep w (· < w.heap.size) l s1.toList) (g2 : lay_Term.rep w (· < w.heap.size) x s2.toList) (hu : x.Up < l.length ∧ -1 ≤ x.Up) :
    Calls Try.prog 67 #[.agg s1, .agg s2] w fun e w' => ∃ v', e = .returned (.tuple #[.agg #[v'], .int .i64 (withI l x), .int .i64 (withE l x)]) ∧ OwnL lay_Term w' w.heap.size (some w.heap.size) 62 v' (withL l x) ∧ Below w.heap.size w w' := by
  obtain ⟨A, n, c, rfl, hA⟩ := agg_Arena g1
  obtain ⟨Ax, nx, cx, rfl, e1, e2, hX⟩ := agg_Term g2
  clear g1 g2
  have HL := hid hA.len
  have hcap := hA.cap
  have hcx := hX.cap
  unfold maxLen at hcap hcx
  have HLX := hid hX.len
  have hz3 : (((w.alloc (Obj.cells #[.slice A n c] 24)).alloc (Obj.cells #[.int .u64 x.Key, .int .i64 x.Up, .slice Ax nx cx] 62)).alloc (Obj.cells #[.slice none 0 0] 24)).heap.size = w.heap.size + 3 := by simp
  have hb0 : Below w.heap.size w (((w.alloc (Obj.cells #[.slice A n c] 24)).alloc (Obj.cells #[.int .u64 x.Key, .int .i64 x.Up, .slice Ax nx cx] 62)).alloc (Obj.cells #[.slice none 0 0] 24)) := bel_alloc (bel_alloc (bel_alloc (Below.refl _ _) _) _) _
  have hB3 := fun (W : World) (h : Below (w.heap.size + 3) (((w.alloc (Obj.cells #[.slice A n c] 24)).alloc (Obj.cells #[.int .u64 x.Key, .int .i64 x.Up, .slice Ax nx cx] 62)).alloc (Obj.cells #[.slice none 0 0] 24)) W) => three_blocks h
  have PA := hid (fun (W : World) (h : Below w.heap.size w W) => (show lay_Arena.rep W (· < W.heap.size) l #[.slice A n c].toList from rep_Arena.2 ⟨A, n, c, rfl, Sl.call hA h⟩))
  have PS := hid (fun (W : World) (h : Below w.heap.size w W) => Sl.call hA h)
  have PX := hid (fun (W : World) (h : Below w.heap.size w W) => (show lay_Term.rep W (· < W.heap.size) x #[.int .u64 x.Key, .int .i64 x.Up, .slice Ax nx cx].toList from rep_Term.2 ⟨Ax, nx, cx, rfl, e1, e2, Sl.call hX h⟩))
  have PX0 := hid (fun (W : World) (h : Below w.heap.size w W) => (show lay_Term.rep W (· < w.heap.size) x #[.int .u64 x.Key, .int .i64 x.Up, .slice Ax nx cx].toList from rep_Term.2 ⟨Ax, nx, cx, rfl, e1, e2, hX.keep fun _ hp => h.cell hp⟩))
  have PT := hid (fun (W : World) (h : Below w.heap.size w W) => Sl.call hX h)
  have HWF := hid hX.wfI
  have HE12 := hid (And.intro e1 e2)
  clear hA hX e1 e2
  go_enter Try.func67, Try.ntmps67
  go_wp2_with fail
  generalize (((w.alloc (Obj.cells #[.slice A n c] 24)).alloc (Obj.cells #[.int .u64 x.Key, .int .i64 x.Up, .slice Ax nx cx] 62)).alloc (Obj.cells #[.slice none 0 0] 24)) = W0 at *
  have hz0 : w.heap.size ≤ W0.heap.size := hb0.size
  refine (places_any _ l W0 (PA.out W0 hb0)).mono ?_
  rintro e w1 ⟨⟨v, rfl, hmap⟩, hb1⟩
  have HB1 : Below w.heap.size w w1 := bel_call hb0 hb1
  have hz1 := hb1.size
  obtain ⟨q2, q3, q4⟩ := hB3 w1 (by rw [← hz3]; exact hb1)
  clear hB3 hb1 hb0
  have V3 : Var3 w1 (w.heap.size + 1) 62 _ _ _ := q3
  have c2 := cell_of_one q2
  have c30 := V3.c0
  have c31 := V3.c1
  have c32 := V3.c2
  have c4 := cell_of_one q4
  have f4 := free_of_one q4
  rcases with_cases (l := l) x with ⟨hE, hok, hU, hU1, hT, hin, hLs, hI⟩ | ⟨hE, hok, hU, hU1, hT, hin, hlt, hLs, hI⟩ | ⟨hE, hok, hU, hU1, hT, hin, hlt, hLs, hI⟩ | ⟨hE, hok, hU, hU1, hT, hLs, hI⟩ | ⟨hE, hno, hLs, hI⟩
  all_goals
    have HE := hid hE
    have HI := hid hI
    have HW := hid hLs
    clear hE hI hLs
  rotate_left 4
  · -- no such
    have har : arE l = 1 := if_neg fun k => hno ⟨k, hu⟩
    rw [har]
    clear har hno hmap
    go_wp2
    refine bodyPost_ret_by (results_ctt rfl _ _ (w.heap.size + 1 + 1) 0 rfl [.slice none 0 0] _ (range1 (cell_of_one (one_setCell q4))) Try.underlying24 rfl (by kernel_rfl)) rfl ?_
    exact ⟨_, by rw [HE.out, HI.out]; rfl, by rw [HW.out]; exact OwnL.nil _ _ _ _ _, HB1.setCell (by show w.heap.size ≤ w.heap.size + 1 + 1; omega) _⟩
  all_goals
    have har : arE l = 0 := if_pos hok
    obtain ⟨mb, rfl, hmt, hmb⟩ := hmap har
    rw [har]
    clear har hmap
    have HA := hid (anyLong_one Ax nx cx x.Text w1 (PT.out w1 HB1))
    have HMT := hid hmt
    clear hmt
  rotate_left 3
  · -- too long
    rw [decide_eq_true (by rw [← HLX.out]; exact hT)] at HA
    go_wp2_with fail
    refine HA.out.mono ?_
    rintro e w2 ⟨rfl, hb2⟩
    have Q4 := (hb2.block _ (lt_of_block q4)).trans q4
    have c4' := cell_of_one Q4
    have f4' := free_of_one Q4
    have HB2 : Below w.heap.size w w2 := bel_call HB1 hb2
    go_wp2
    refine bodyPost_ret_by (results_ctt rfl _ _ (w.heap.size + 1 + 1) 0 rfl [.slice none 0 0] _ (range1 (cell_of_one (one_setCell Q4))) Try.underlying24 rfl (by kernel_rfl)) rfl ?_
    exact ⟨_, by rw [HE.out, HI.out]; rfl, by rw [HW.out]; exact OwnL.nil _ _ _ _ _, HB2.setCell (by show w.heap.size ≤ w.heap.size + 1 + 1; omega) _⟩
  all_goals
    rw [decide_eq_false (by rw [← HLX.out]; omega)] at HA
    go_wp2_with fail
    refine HA.out.mono ?_
    rintro e w2 ⟨rfl, hb2⟩
    have HB2 : Below w.heap.size w w2 := bel_call HB1 hb2
    have hz2 := hb2.size
    have V3b := V3.call hb2
    have c2' := cell_of_one ((hb2.block _ (lt_of_block q2)).trans q2)
    have d30 := V3b.c0
    have d31 := V3b.c1
    have d32 := V3b.c2
    have HF := hid (formOf_any _ x w2 (PX.out _ HB2))
    go_wp2_with fail
    refine HF.out.mono ?_
    rintro e w3 ⟨rfl, hb3⟩
    have HB3 : Below w.heap.size w w3 := bel_call HB2 hb3
    have h13 : Below w1.heap.size w1 w3 := bel_call hb2 hb3
    have hz3' := h13.size
    have hlook := (HMT.out.below h13).look hok.nodup (x := x) ⟨HE12.out.1, HE12.out.2, HWF.out, hT⟩
    have Q2 := (h13.block _ (lt_of_block q2)).trans q2
    have V4 := V3.call h13
    have Q4 := (h13.block _ (lt_of_block q4)).trans q4
    have k2 := cell_of_one Q2
    have k4 := cell_of_one Q4
    have k4f := free_of_one Q4
    have k30 := V4.c0
    have k31 := V4.c1
    have k32 := V4.c2
    clear c2 c30 c31 c32 c4 f4 c2' d30 d31 d32 V3b hb2 hb3 HA HF HMT
    have hn1 : n ≤ 1048576 := by rw [← HL.out]; exact hok.1
  rotate_left 2
  · -- full
    rw [if_neg hin, decide_eq_false hin] at hlook
    have hfull : n = 1048576 := by rw [← HL.out]; exact hlt
    have d5 : ((n : Int) == 1048576) = true := by simp; omega
    go_wp2
    refine bodyPost_ret_by (results_ctt rfl _ _ (w.heap.size + 1 + 1) 0 rfl [.slice none 0 0] _ (range1 (cell_of_one (one_setCell Q4))) Try.underlying24 rfl (by kernel_rfl)) rfl ?_
    exact ⟨_, by rw [HE.out, HI.out]; rfl, by rw [HW.out]; exact OwnL.nil _ _ _ _ _, HB3.setCell (by show w.heap.size ≤ w.heap.size + 1 + 1; omega) _⟩
  · -- there
    rw [if_pos hin, decide_eq_true hin] at hlook
    have HIP := hid (show withI l x = plc x l from HI.out)
    generalize plc x l = pl at *
    go_wp2_with fail
    refine (cloneT_any _ _ _ l w3 (PS.out w3 HB3) hn1).mono ?_
    rintro e w5 ⟨v5, rfl, ho5, hb5⟩
    obtain ⟨A5, n5, c5, rfl, hs5⟩ := ho5.read
    have hl5 := hs5.len
    rw [HL.out] at hl5
    subst hl5
    have R4 := hid ((hb5.block _ (lt_of_block Q4)).trans Q4)
    have RZ := hb5.size
    have HBW := hid (bel_call HB3 hb5)
    clear k2 k4 k4f k30 k31 k32 hlook q2 q3 q4 Q2 Q4 V3 V4 hs5

    have hys : Hid (∀ y ∈ l, y.Text.length ≤ 4096) := hid (fun y hy => by obtain ⟨i, hi, rfl⟩ := List.getElem_of_mem hy; exact (hok.fit hi).2.2.2)
    have HMX := hid (ho5.mixV w3.heap.size)
    go_wp2
    go_loopw [56] (fun i wr => ∃ j : Nat, j ≤ n ∧ i = .int .i64 j ∧ MixV lay_Term wr w3.heap.size w3.heap.size 62 A5 n c5 l j ∧ wr.heap[w.heap.size + 1 + 1]? = some (Obj.cells #[.slice none 0 0] 24 (0, 0)) ∧ w3.heap.size ≤ wr.heap.size ∧ Below w.heap.size w wr) (fun i _ => n - (intOf i).toNat)
    case atStart => exact ⟨0, Nat.zero_le _, rfl, HMX.out, R4.out, RZ, HBW.out⟩
    case round =>
      obtain ⟨j, hj, rfl, hmix, hr4, hrz, hbel⟩ := hrel
      clear HMX R4 RZ HBW
      by_cases hlt2 : j < n
      · rcases hmix with ⟨-, h0, -⟩ | ⟨g, rfl, hmix⟩
        · omega
        obtain ⟨A', n', c', hx, -, -, t2, -, -, hV, hf⟩ := hmix.term hlt2
        have hnt : n' ≤ 4096 := by rw [← hV.len]; exact hys.out _ (List.getElem_mem hx)
        have HCL := hid (clone_any A' n' c' wr.heap.size l[j].Text wr (hV.rd fun _ h => h) (Nat.le_refl _) (by omega))
        have HMI := hid hmix
        clear hmix hV
        go_wp2_with fail
        refine HCL.out.mono ?_
        rintro e w6 ⟨v6, rfl, ho6, hb6⟩
        obtain ⟨A6, n6, c6, rfl, hs6⟩ := ho6.slI
        have hm6 := HMI.out.keep hb6
        obtain ⟨A8, n8, c8, -, -, -, y2, -, -, -, y3⟩ := hm6.term hlt2
        have HM := hid (hm6.step hlt2 hx hs6 hrz HMI.out.lt.2)
        have hgl := HMI.out.lt
        have hr4' := hid ((hb6.block _ (lt_of_block hr4)).trans hr4)
        have hb8 := hid ((bel_call hbel hb6).setCell (p := ⟨g, j * 3 + 2, none⟩) (by show w.heap.size ≤ g; omega) (.slice A6 n6 c6))
        have hz6 := hb6.size
        clear t2 hf ho6 hs6 hm6 hr4 hb6
        go_wp2
        go_roundw
        case rel => exact ⟨j + 1, by omega, by go_num, .inr ⟨g, rfl, HM.out⟩, (heap_setCell_other _ _ _ _ (by simp; omega)).trans hr4'.out, by simp; omega, hb8.out⟩
        case measure => simp [intOf]; omega
      · obtain rfl : j = n := by omega
        have z4 := cell_of_one hr4
        have z4f := free_of_one hr4
        have HO := hid ((hmix.own.setLow (b := w.heap.size + 1 + 1) (by omega) (by omega) 0 (.slice A5 j c5)).lows (base' := w.heap.size) (lo' := w.heap.size) (by omega) (by omega))
        have HB9 := hid (hbel.setCell (p := ⟨w.heap.size + 1 + 1, 0, none⟩) (by show w.heap.size ≤ w.heap.size + 1 + 1; omega) (.slice A5 j c5))
        clear hmix
        go_wp2
        refine bodyPost_ret_by (results_ctt rfl _ _ (w.heap.size + 1 + 1) 0 rfl [.slice A5 j c5] _ (range1 (cell_of_one (one_setCell hr4))) Try.underlying24 rfl (by kernel_rfl)) rfl ?_
        exact ⟨_, by rw [HE.out, HIP.out]; rfl, by rw [HW.out]; exact HO.out, HB9.out⟩
  · -- new
    rw [if_neg hin, decide_eq_false hin] at hlook
    have hlt3 : n < 1048576 := by rw [← HL.out]; exact hlt
    have d5 : ((n : Int) == 1048576) = false := by simp; omega
    have HIP := hid (show withI l x = n from by rw [HI.out, HL.out])
    go_wp2_with fail
    refine (cloneT_any _ _ _ l w3 (PS.out w3 HB3) hn1).mono ?_
    rintro e w5 ⟨v5, rfl, ho5, hb5⟩
    obtain ⟨A5, n5, c5, rfl, hs5⟩ := ho5.read
    have hl5 := hs5.len
    rw [HL.out] at hl5
    subst hl5
    have V5 := V4.call hb5
    have j30 := V5.c0
    have j31 := V5.c1
    have j32 := V5.c2
    have hz5 := hb5.size
    have HB5 := bel_call HB3 hb5
    have Q5 := (hb5.block _ (lt_of_block Q4)).trans Q4
    have hnl : (l.length + 1) * 40 ≤ 140737488355328 := by rw [HL.out]; omega
    have hnm : l.length + 1 ≤ maxLen := by rw [HL.out]; unfold maxLen; omega
    have hge : ∀ g, (Value.slice A5 n c5).ownBlock = some g → w3.heap.size ≤ g := fun g hg => ho5.ge hg
    have HGE := hid hge
    clear hge k2 k4 k4f k30 k31 k32 hlook q2 q3 q4 Q2 Q4 V3 V4 hs5
    go_wp2_with (at_builtin; refine wpList_pushL (w := w5) rfl (.tmp 50) (.tmp 52) 22 rfl w3.heap.size none 62 _ 40 Try.underlying22 Try.infoTerm rfl (by decide) (.slice A5 n c5) l x #[.int .u64 x.Key, .int .i64 x.Up, .slice Ax nx cx] (· < w.heap.size) rfl rfl ho5 (PX0.out w5 HB5) (fun b hb => ⟨trivial, Nat.lt_of_lt_of_le hb HB5.size, fun he => by have := HGE.out b he.symm; omega⟩) (by omega) hnl hnm ?_; intro v7 w7 ho7 hext7; obtain ⟨A7, n7, c7, rfl, hs7⟩ := ho7.read; have hb7 : Below w3.heap.size w5 w7 := ho5.below hext7 (by omega); have R4 := hid ((hb7.block (w.heap.size + 1 + 1) (by omega)).trans Q5); have RZ : w3.heap.size ≤ w7.heap.size := Nat.le_trans hz5 hb7.size; have HBW := hid (HB5.trans (hb7.mono (by omega))); have hl7 := hs7.len; clear j30 j31 j32 ho5 hs7 hext7 hb7 Q5 V5)
    have hn7 : n7 = n + 1 := by rw [← hl7, List.length_append, HL.out]; rfl
    have hb7n : n7 ≤ 1048577 := by omega
    clear hl7 hn7

    have hys : Hid (∀ y ∈ (l ++ [x]), y.Text.length ≤ 4096) := hid (fun y hy => by rcases List.mem_append.1 hy with hy | hy; (obtain ⟨i, hi, rfl⟩ := List.getElem_of_mem hy; exact (hok.fit hi).2.2.2); (simp at hy; subst hy; exact hT))
    have HMX := hid (ho7.mixV w3.heap.size)
    go_wp2
    go_loopw [56] (fun i wr => ∃ j : Nat, j ≤ n7 ∧ i = .int .i64 j ∧ MixV lay_Term wr w3.heap.size w3.heap.size 62 A7 n7 c7 (l ++ [x]) j ∧ wr.heap[w.heap.size + 1 + 1]? = some (Obj.cells #[.slice none 0 0] 24 (0, 0)) ∧ w3.heap.size ≤ wr.heap.size ∧ Below w.heap.size w wr) (fun i _ => n7 - (intOf i).toNat)
    case atStart => exact ⟨0, Nat.zero_le _, rfl, HMX.out, R4.out, RZ, HBW.out⟩
    case round =>
      obtain ⟨j, hj, rfl, hmix, hr4, hrz, hbel⟩ := hrel
      clear HMX R4 RZ HBW
      by_cases hlt2 : j < n7
      · rcases hmix with ⟨-, h0, -⟩ | ⟨g, rfl, hmix⟩
        · omega
        obtain ⟨A', n', c', hx, -, -, t2, -, -, hV, hf⟩ := hmix.term hlt2
        have hnt : n' ≤ 4096 := by rw [← hV.len]; exact hys.out _ (List.getElem_mem hx)
        have HCL := hid (clone_any A' n' c' wr.heap.size (l ++ [x])[j].Text wr (hV.rd fun _ h => h) (Nat.le_refl _) (by omega))
        have HMI := hid hmix
        clear hmix hV
        go_wp2_with fail
        refine HCL.out.mono ?_
        rintro e w6 ⟨v6, rfl, ho6, hb6⟩
        obtain ⟨A6, n6, c6, rfl, hs6⟩ := ho6.slI
        have hm6 := HMI.out.keep hb6
        obtain ⟨A8, n8, c8, -, -, -, y2, -, -, -, y3⟩ := hm6.term hlt2
        have HM := hid (hm6.step hlt2 hx hs6 hrz HMI.out.lt.2)
        have hgl := HMI.out.lt
        have hr4' := hid ((hb6.block _ (lt_of_block hr4)).trans hr4)
        have hb8 := hid ((bel_call hbel hb6).setCell (p := ⟨g, j * 3 + 2, none⟩) (by show w.heap.size ≤ g; omega) (.slice A6 n6 c6))
        have hz6 := hb6.size
        clear t2 hf ho6 hs6 hm6 hr4 hb6
        go_wp2
        go_roundw
        case rel => exact ⟨j + 1, by omega, by go_num, .inr ⟨g, rfl, HM.out⟩, (heap_setCell_other _ _ _ _ (by simp; omega)).trans hr4'.out, by simp; omega, hb8.out⟩
        case measure => simp [intOf]; omega
      · obtain rfl : j = n7 := by omega
        have z4 := cell_of_one hr4
        have z4f := free_of_one hr4
        have HO := hid ((hmix.own.setLow (b := w.heap.size + 1 + 1) (by omega) (by omega) 0 (.slice A7 j c7)).lows (base' := w.heap.size) (lo' := w.heap.size) (by omega) (by omega))
        have HB9 := hid (hbel.setCell (p := ⟨w.heap.size + 1 + 1, 0, none⟩) (by show w.heap.size ≤ w.heap.size + 1 + 1; omega) (.slice A7 j c7))
        clear hmix
        go_wp2
        refine bodyPost_ret_by (results_ctt rfl _ _ (w.heap.size + 1 + 1) 0 rfl [.slice A7 j c7] _ (range1 (cell_of_one (one_setCell hr4))) Try.underlying24 rfl (by kernel_rfl)) rfl ?_
        exact ⟨_, by rw [HE.out, HIP.out]; rfl, by rw [HW.out]; exact HO.out, HB9.out⟩
end Go.Proofs.Ytgiapfenalhleaa
namespace Go.Proofs.Ytgiapfenalhleaa
open Go.RowKit Go.WalkArith

set_option maxRecDepth 100000 in
set_option maxHeartbeats 2000000 in
theorem aRoot_any (s1 : Array Value) (l : List Trm) (k : Int) (A : Option Addr) (n c : Nat) (t : List Int) (w : World) (g1 : lay_Arena.rep w (· < w.heap.size) l s1.toList) (hk : (Lit.int .u64 k).wf = true) (hr : Rd w w.heap.size .u8 A n c t) :
    Calls Try.prog 33 #[.agg s1, .int .u64 k, .slice A n c] w fun e w' => ∃ v', e = .returned (.tuple #[.agg #[v'], .int .i64 (withI l (rootT k t)), .int .i64 (withE l (rootT k t))]) ∧ OwnL lay_Term w' w.heap.size (some w.heap.size) 62 v' (withL l (rootT k t)) ∧ Below w.heap.size w w' := by
  obtain ⟨A1, n1, c1, rfl, hA⟩ := agg_Arena g1
  clear g1
  have hb0 : Below w.heap.size w ((w.alloc (Obj.cells #[.slice A1 n1 c1] 24)).alloc (Obj.cells #[.slice none 0 0] 24)) := bel_alloc (bel_alloc (Below.refl _ _) _) _
  have hB2 := fun (W : World) (h : Below (w.heap.size + 2) ((w.alloc (Obj.cells #[.slice A1 n1 c1] 24)).alloc (Obj.cells #[.slice none 0 0] 24)) W) => two_blocks2 h
  have hz : ((w.alloc (Obj.cells #[.slice A1 n1 c1] 24)).alloc (Obj.cells #[.slice none 0 0] 24)).heap.size = w.heap.size + 2 := by simp
  have P := hid (Sl.call hA hb0)
  have R := hid (Sl.call hr.sl hb0)
  clear hA hr
  go_enter Try.func33, Try.ntmps33
  go_wp2_with fail
  generalize ((w.alloc (Obj.cells #[.slice A1 n1 c1] 24)).alloc (Obj.cells #[.slice none 0 0] 24)) = W0 at *
  refine (aWith_any _ _ l (rootT k t) W0 (rep_Arena.2 ⟨_, _, _, rfl, P.out⟩) (rep_Term.2 ⟨_, _, _, rfl, hk, (by decide : (Lit.int .i64 (-1)).wf = true), R.out⟩) ⟨by show (-1 : Int) < _; omega, by show (-1 : Int) ≤ -1; omega⟩).mono ?_
  rintro e w1 ⟨v1, rfl, ho1, hb1⟩
  obtain ⟨A2, n2, c2, rfl, hs2⟩ := ho1.read
  obtain ⟨q2, q3⟩ := hB2 w1 (by rw [← hz]; exact hb1)
  have HB1 : Below w.heap.size w w1 := bel_call hb0 hb1
  have c3 := cell_of_one q3
  have f3 := free_of_one q3
  have HO := (ho1.setLow (b := w.heap.size + 1) (by omega) (by omega) 0 (.slice A2 n2 c2)).lows (base' := w.heap.size) (lo' := w.heap.size) (by omega) (by omega)
  clear hB2 hb1 hb0 hs2 ho1
  go_wp2
  refine bodyPost_ret_by (results_ctt rfl _ _ (w.heap.size + 1) 0 rfl [.slice A2 n2 c2] _ (range1 (cell_of_one (one_setCell q3))) Try.underlying24 rfl (by kernel_rfl)) rfl ?_
  exact ⟨_, rfl, HO, HB1.setCell (by show w.heap.size ≤ w.heap.size + 1; omega) _⟩

theorem aNext_eq {l : List Trm} {u : Int} {t : List Int} (hu : 0 ≤ u) : nextE l u t = withE l (nextT u t) ∧ nextL l u t = withL l (nextT u t) ∧ nextI l u t = withI l (nextT u t) := by
  have h1 : nextE l u t = withE l (nextT u t) := if_neg (by omega)
  refine ⟨h1, ?_, ?_⟩
  · rw [nextL, h1]
    by_cases h : withE l (nextT u t) = 0
    · rw [if_pos h]
    · rw [if_neg h, withL, if_neg h]
  · rw [nextI, h1]
    by_cases h : withE l (nextT u t) = 0
    · rw [if_pos h]
    · rw [if_neg h, withI, if_neg h]
theorem aNext_no {l : List Trm} {u : Int} {t : List Int} (hu : ¬ (0 ≤ u ∧ u < l.length)) : nextE l u t = 1 ∧ nextL l u t = [] ∧ nextI l u t = 0 := by
  have h1 : nextE l u t = 1 := by
    unfold nextE
    split
    · rfl
    · rw [withE, if_neg]
      rintro ⟨-, h, -⟩
      exact hu ⟨by omega, h⟩
  exact ⟨h1, by rw [nextL, h1]; rfl, by rw [nextI, h1]; rfl⟩

set_option maxRecDepth 100000 in
set_option maxHeartbeats 2000000 in
theorem aNext_any (s1 : Array Value) (l : List Trm) (u : Int) (A : Option Addr) (n c : Nat) (t : List Int) (w : World) (g1 : lay_Arena.rep w (· < w.heap.size) l s1.toList) (hk : (Lit.int .i64 u).wf = true) (hr : Rd w w.heap.size .u8 A n c t) :
    Calls Try.prog 39 #[.agg s1, .int .i64 u, .slice A n c] w fun e w' => ∃ v', e = .returned (.tuple #[.agg #[v'], .int .i64 (nextI l u t), .int .i64 (nextE l u t)]) ∧ OwnL lay_Term w' w.heap.size (some w.heap.size) 62 v' (nextL l u t) ∧ Below w.heap.size w w' := by
  obtain ⟨A1, n1, c1, rfl, hA⟩ := agg_Arena g1
  clear g1
  have hb0 : Below w.heap.size w ((w.alloc (Obj.cells #[.slice A1 n1 c1] 24)).alloc (Obj.cells #[.slice none 0 0] 24)) := bel_alloc (bel_alloc (Below.refl _ _) _) _
  have hB2 := fun (W : World) (h : Below (w.heap.size + 2) ((w.alloc (Obj.cells #[.slice A1 n1 c1] 24)).alloc (Obj.cells #[.slice none 0 0] 24)) W) => two_blocks2 h
  have hz : ((w.alloc (Obj.cells #[.slice A1 n1 c1] 24)).alloc (Obj.cells #[.slice none 0 0] 24)).heap.size = w.heap.size + 2 := by simp
  have P := hid (fun (W : World) (h : Below w.heap.size w W) => Sl.call hA h)
  have R := hid (fun (W : World) (h : Below w.heap.size w W) => Sl.call hr.sl h)
  have HIT := hid (isTag_any _ l u _ (rep_Arena.2 ⟨_, _, _, rfl, P.out _ hb0⟩) hk)
  clear hA hr
  by_cases hu : 0 ≤ u ∧ u < l.length
  · obtain ⟨x1, x2, x3⟩ := aNext_eq (l := l) (t := t) hu.1
    rw [decide_eq_true hu.1, decide_eq_true hu.2, Bool.and_true] at HIT
    rw [x1, x2, x3]
    clear x1 x2 x3
    go_enter Try.func39, Try.ntmps39
    go_wp2_with fail
    generalize ((w.alloc (Obj.cells #[.slice A1 n1 c1] 24)).alloc (Obj.cells #[.slice none 0 0] 24)) = W0 at *
    refine HIT.out.mono ?_
    rintro e w1 ⟨rfl, hb1⟩
    obtain ⟨q2, q3⟩ := hB2 w1 (by rw [← hz]; exact hb1)
    have HB1 : Below w.heap.size w w1 := bel_call hb0 hb1
    have hz1 := hb1.size
    have c2 := cell_of_one q2
    clear hB2 hb1 hb0
    go_wp2_with fail
    refine (aWith_any _ _ l (nextT u t) w1 (rep_Arena.2 ⟨_, _, _, rfl, P.out _ HB1⟩) (rep_Term.2 ⟨_, _, _, rfl, (by decide : (Lit.int .u64 0).wf = true), hk, R.out _ HB1⟩) ⟨hu.2, by show -1 ≤ u; omega⟩).mono ?_
    rintro e w2 ⟨v2, rfl, ho2, hb2⟩
    obtain ⟨A2, n2, c2', rfl, hs2⟩ := ho2.read
    have Q3 := (hb2.block _ (lt_of_block q3)).trans q3
    have HB2 := bel_call HB1 hb2
    have c3 := cell_of_one Q3
    have f3 := free_of_one Q3
    have HO := hid ((ho2.setLow (b := w.heap.size + 1) (by omega) (by omega) 0 (.slice A2 n2 c2')).lows (base' := w.heap.size) (lo' := w.heap.size) (by omega) (by omega))
    have HB9 := hid (HB2.setCell (p := ⟨w.heap.size + 1, 0, none⟩) (by show w.heap.size ≤ w.heap.size + 1; omega) (.slice A2 n2 c2'))
    clear hs2 ho2 hb2
    go_wp2
    refine bodyPost_ret_by (results_ctt rfl _ _ (w.heap.size + 1) 0 rfl [.slice A2 n2 c2'] _ (range1 (cell_of_one (one_setCell Q3))) Try.underlying24 rfl (by kernel_rfl)) rfl ?_
    exact ⟨_, rfl, HO.out, HB9.out⟩
  · obtain ⟨x1, x2, x3⟩ := aNext_no (l := l) (t := t) hu
    have hff : (decide (0 ≤ u) && decide (u < (l.length : Int))) = false := by
      rw [Bool.and_eq_false_iff, decide_eq_false_iff_not, decide_eq_false_iff_not]
      by_cases h : 0 ≤ u
      · exact .inr fun h2 => hu ⟨h, h2⟩
      · exact .inl h
    rw [hff] at HIT
    rw [x1, x2, x3]
    clear x1 x2 x3 hff
    go_enter Try.func39, Try.ntmps39
    go_wp2_with fail
    generalize ((w.alloc (Obj.cells #[.slice A1 n1 c1] 24)).alloc (Obj.cells #[.slice none 0 0] 24)) = W0 at *
    refine HIT.out.mono ?_
    rintro e w1 ⟨rfl, hb1⟩
    obtain ⟨q2, q3⟩ := hB2 w1 (by rw [← hz]; exact hb1)
    have HB1 : Below w.heap.size w w1 := bel_call hb0 hb1
    have c3 := cell_of_one q3
    have f3 := free_of_one q3
    clear hB2 hb1 hb0
    go_wp2
    refine bodyPost_ret_by (results_ctt rfl _ _ (w.heap.size + 1) 0 rfl [.slice none 0 0] _ (range1 (cell_of_one (one_setCell q3))) Try.underlying24 rfl (by kernel_rfl)) rfl ?_
    exact ⟨_, rfl, OwnL.nil _ _ _ _ _, HB1.setCell (by show w.heap.size ≤ w.heap.size + 1; omega) _⟩
end Go.Proofs.Ytgiapfenalhleaa
namespace Go.Proofs.Ytgiapfenalhleaa
open Go.RowKit Go.WalkArith

/-- A tag as it is found: 0 where there is none. -/
def tagOf (a : Int) : Int := if 0 ≤ a then a else 0
theorem tag_seat (l : List Trm) (x : Trm) : (if x ∈ l then (plc x l : Int) else 0) = tagOf (seat l x) ∧ decide (x ∈ l) = decide (0 ≤ seat l x) := by
  unfold tagOf seat
  by_cases h : x ∈ l
  · simp [h]
  · simp [h]
theorem goTo_stop {l : List Trm} {ts : List (List Int)} {a : Int} {j : Nat} (h : ¬ 0 ≤ goTo l a (ts.take j)) : ¬ 0 ≤ goTo l a ts := by
  have e := goTo_append (l := l) (ts.take j) (ts.drop j) a
  rw [List.take_append_drop] at e
  rw [e, goTo_no _ (by omega)]
  exact h
theorem MapTo.lookS {w : World} {b : Nat} {l : List Trm} (h : MapTo w b l) (hn : l.Nodup) {x : Trm} (hx : OkTrm x) :
    (Instr.lookup 109 (.map (some b)) (keyV x) true).run Try.prog w = .ok (.tuple #[.int .i64 (tagOf (seat l x)), .bool (decide (0 ≤ seat l x))]) w := by
  rw [h.look hn hx, (tag_seat l x).1, (tag_seat l x).2]

set_option maxRecDepth 100000 in
set_option maxHeartbeats 2000000 in
theorem aFind_any (s1 : Array Value) (l : List Trm) (k : Int) (A : Option Addr) (n c : Nat) (t : List Int) (A2 : Option Addr) (n2 c2 : Nat) (ts : List (List Int)) (w : World) (g1 : lay_Arena.rep w (· < w.heap.size) l s1.toList) (hk : (Lit.int .u64 k).wf = true) (hr : Sl (Lay.int .u8) w (· < w.heap.size) A n c t) (hts : Sl lay_Txt w (· < w.heap.size) A2 n2 c2 ts) (hn2 : n2 ≤ 1000) :
    Calls Try.prog 45 #[.agg s1, .int .u64 k, .slice A n c, .slice A2 n2 c2] w fun e w' => e = .returned (.tuple #[.int .i64 (findI l k t ts), .int .i64 (findE l k t ts)]) ∧ Below w.heap.size w w' := by
  obtain ⟨A1, n1, c1, rfl, hA⟩ := agg_Arena g1
  clear g1
  have HL2 := hid hts.len
  have HLT := hid hr.len
  have hc1 := hA.cap
  unfold maxLen at hc1
  have hn1 : l.length = n1 := hA.len
  have hb0 : Below w.heap.size w (w.alloc (Obj.cells #[.slice A1 n1 c1] 24)) := bel_alloc (Below.refl _ _) _
  have PA := hid (fun (W : World) (h : Below w.heap.size w W) => Sl.call hA h)
  have PT := hid (fun (W : World) (h : Below w.heap.size w W) => Sl.call hr h)
  have PS := hid (fun (W : World) (h : Below w.heap.size w W) => Sl.call hts h)
  have HWT := hid hr.wfI
  clear hA hr hts
  have HPL := hid (places_any _ l _ (rep_Arena.2 ⟨_, _, _, rfl, PA.out _ hb0⟩))
  go_enter Try.func45, Try.ntmps45
  go_wp2_with fail
  refine HPL.out.mono ?_
  rintro e w1 ⟨⟨v, rfl, hmap⟩, hb1⟩
  have HB1 := bel_call hb0 hb1
  clear hb1 hb0 HPL
  by_cases hok : ArOk l
  rotate_left
  · have hE : findE l k t ts = 1 := if_neg hok
    have HI := hid (show findI l k t ts = 0 from if_neg (by rw [hE]; decide))
    have HE := hid hE
    rw [show arE l = 1 from if_neg hok]
    clear hE hmap
    go_wp2
    go_ret2
    exact ⟨by rw [HE.out, HI.out]; rfl, HB1⟩
  have har : arE l = 0 := if_pos hok
  obtain ⟨mb, rfl, hmt, -⟩ := hmap har
  rw [har]
  clear har hmap
  have HMT := hid hmt
  have HAL := hid (anyLong_one A n c t w1 (PT.out w1 HB1))
  clear hmt
  by_cases gl : 4096 < n
  · have hE : findE l k t ts = 4 := by
      rw [findE, if_pos hok, if_neg]
      intro hsh
      have := hsh t (by simp)
      rw [HLT.out] at this
      omega
    have HI := hid (show findI l k t ts = 0 from if_neg (by rw [hE]; decide))
    have HE := hid hE
    rw [decide_eq_true gl] at HAL
    clear hE
    go_wp2_with fail
    refine HAL.out.mono ?_
    rintro e w2 ⟨rfl, hb2⟩
    go_wp2
    go_ret2
    exact ⟨by rw [HE.out, HI.out]; rfl, bel_call HB1 hb2⟩
  rw [decide_eq_false gl] at HAL
  go_wp2_with fail
  refine HAL.out.mono ?_
  rintro e w2 ⟨rfl, hb2⟩
  have HB2 := bel_call HB1 hb2
  have HM2 := hid (HMT.out.below hb2)
  have HAN := hid (anyLong_any A2 n2 c2 _ ts w2 (PS.out w2 HB2))
  clear hb2 HAL HMT
  by_cases gs : shortT ts
  rotate_left
  · have hE : findE l k t ts = 4 := by
      rw [findE, if_pos hok, if_neg]
      intro hsh
      exact gs fun x hx => hsh x (by simp [hx])
    have HI := hid (show findI l k t ts = 0 from if_neg (by rw [hE]; decide))
    have HE := hid hE
    rw [longT_yes gs] at HAN
    clear hE
    go_wp2_with fail
    refine HAN.out.mono ?_
    rintro e w3 ⟨rfl, rfl⟩
    go_wp2
    go_ret2
    exact ⟨by rw [HE.out, HI.out]; rfl, HB2⟩
  rw [longT_no gs] at HAN
  have hsh : shortT (t :: ts) := fun x hx => by
    rcases List.mem_cons.1 hx with rfl | hx
    · rw [HLT.out]; omega
    · exact gs x hx
  have HFE := hid (show findE l k t ts = if 0 ≤ goTo l (seat l (rootT k t)) ts then 0 else 5 from by rw [findE, if_pos hok, if_pos hsh])
  have HGS := hid gs
  have HND := hid hok.nodup
  have HOT := hid (show OkTrm (rootT k t) from ⟨hk, (by decide : (Lit.int .i64 (-1)).wf = true), HWT.out, by show t.length ≤ 4096; rw [HLT.out]; omega⟩)
  clear hsh gs
  go_wp2_with fail
  refine HAN.out.mono ?_
  rintro e w3 ⟨rfl, rfl⟩
  clear HAN
  have HFO := hid (formOf_any #[.int .u64 k, .int .i64 (-1), .slice A n c] (rootT k t) w2 (rep_Term.2 ⟨A, n, c, rfl, hk, (by decide : (Lit.int .i64 (-1)).wf = true), PT.out _ HB2⟩))
  go_wp2_with fail
  refine HFO.out.mono ?_
  rintro e w3 ⟨rfl, hb3⟩
  have HB3 := bel_call HB2 hb3
  have HM3 := hid (HM2.out.below hb3)
  have hlook := HM3.out.lookS HND.out HOT.out
  have hbd0 := seat_bd (l := l) (rootT k t)
  clear hb3 HM2 HFO
  have HFI := hid (show findI l k t ts = if findE l k t ts = 0 then goTo l (seat l (rootT k t)) ts else 0 from rfl)
  have HSEED := hid (show seat l (rootT k t) = goTo l (seat l (rootT k t)) (ts.take 0) from by rw [List.take_zero]; rfl)
  generalize seat l (rootT k t) = sd at *
  go_wp2
  go_loopw [12, 13, 14] (fun tg th i wr => ∃ j : Nat, j ≤ n2 ∧ i = .int .i64 j ∧ tg = .int .i64 (tagOf (goTo l sd (ts.take j))) ∧ th = .bool (decide (0 ≤ goTo l sd (ts.take j))) ∧ MapTo wr mb l ∧ Below w.heap.size w wr) (fun _ _ i _ => n2 - (intOf i).toNat)
  case atStart => exact ⟨0, Nat.zero_le _, rfl, by rw [← HSEED.out], by rw [← HSEED.out], HM3.out, HB3⟩
  case round =>
    obtain ⟨j, hj, rfl, rfl, rfl, hmj, hbel⟩ := hrel
    have HMJ := hid hmj
    clear hmj hlook HSEED HM3 HB3
    have hgb := goTo_bd (l := l) (ts.take j) hbd0.1 hbd0.2
    rw [hn1] at hgb
    have HST := hid (fun h => goTo_stop (l := l) (ts := ts) (a := sd) (j := j) h)
    by_cases hlt : j < n2
    · obtain ⟨b1, o1, A', n', c', hx1, rfl, hb1, t1, hV1⟩ := txt_atA (PS.out wr hbel) hlt
      have HG := hid (goTo_take (l := l) (a := sd) hx1)
      generalize goTo l sd (ts.take j) = a at *
      by_cases ha : 0 ≤ a
      · have HG2 := hid (HG.out.trans (if_pos ha))
        have hwa : (Lit.int .i64 a).wf = true := wf_i64 (by omega)
        have hta : tagOf a = a := if_pos ha
        have hda : decide (0 ≤ a) = true := by simpa using ha
        have HOX := hid (show OkTrm (nextT a ts[j]) from ⟨(by decide : (Lit.int .u64 0).wf = true), hwa, hV1.wfI, HGS.out _ (List.getElem_mem hx1)⟩)
        have HFO := hid (formOf_any #[.int .u64 0, .int .i64 a, .slice A' n' c'] (nextT a ts[j]) wr (rep_Term.2 ⟨A', n', c', rfl, (by decide : (Lit.int .u64 0).wf = true), hwa, hV1⟩))
        clear HG hV1 HST
        rw [hta, hda]
        go_wp2_with fail
        refine HFO.out.mono ?_
        rintro e w5 ⟨rfl, hb5⟩
        have HM5 := hid (HMJ.out.below hb5)
        have hlook := HM5.out.lookS HND.out HOX.out
        go_wp2
        go_roundw
        case rel => exact ⟨j + 1, by omega, by go_num, by rw [HG2.out], by rw [HG2.out], HM5.out, bel_call hbel hb5⟩
        case measure => simp [intOf]; omega
      · have hda : decide (0 ≤ a) = false := by simpa using ha
        have hE := HFE.out.trans (if_neg (HST.out ha))
        have HI := hid (show findI l k t ts = 0 from if_neg (by rw [hE]; decide))
        have HE := hid hE
        rw [hda]
        clear hE HST HG hV1 ha
        go_wp2
        go_ret2
        exact ⟨by rw [HE.out, HI.out]; rfl, hbel⟩
    · have hti : ts.take j = ts := List.take_of_length_le (by rw [HL2.out]; omega)
      rw [hti] at hgb ⊢
      clear hti HST
      have hdj : decide ((j : Int) < (n2 : Int)) = false := by simp; omega
      by_cases ha : 0 ≤ goTo l sd ts
      · have hE := HFE.out.trans (if_pos ha)
        have HI := hid (show findI l k t ts = tagOf (goTo l sd ts) from by rw [HFI.out, if_pos hE, tagOf, if_pos ha])
        have HE := hid hE
        have hda : decide (0 ≤ goTo l sd ts) = true := by simpa using ha
        rw [hda]
        clear hE HFE ha hda
        generalize goTo l sd ts = a at *
        go_wp2
        go_ret2
        exact ⟨by rw [HE.out, HI.out]; rfl, hbel⟩
      · have hE := HFE.out.trans (if_neg ha)
        have HI := hid (show findI l k t ts = 0 from if_neg (by rw [hE]; decide))
        have HE := hid hE
        have hda : decide (0 ≤ goTo l sd ts) = false := by simpa using ha
        rw [hda]
        clear hE HFE ha hda
        generalize goTo l sd ts = a at *
        go_wp2
        go_ret2
        exact ⟨by rw [HE.out, HI.out]; rfl, hbel⟩
end Go.Proofs.Ytgiapfenalhleaa
