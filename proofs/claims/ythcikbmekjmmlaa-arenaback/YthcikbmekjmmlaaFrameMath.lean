/-
  Frames: the plain functions, and their laws.
-/
import Derived.Test.YthcikbmekjmmlaaTypes
namespace Go.Proofs.Ythcikbmekjmmlaa
open Go.RowKit Go.WalkArith

def longN (b : List Int) : Int := 256 * nth b 0 + nth b 1
def frameOf (b : List Int) : List Int := [(b.length : Int) / 256, (b.length : Int) % 256] ++ b
/-- A reader may be. -/
def RdrOk (r : Rdr) : Prop := ¬ (r.Bad = true ∧ 0 < r.B.length) ∧ ¬ (2 ≤ r.B.length ∧ (4096 < longN r.B ∨ longN r.B ≤ (r.B.length : Int) - 2))
instance (r : Rdr) : Decidable (RdrOk r) := by unfold RdrOk; infer_instance
def chkF (r : Rdr) : Int := if RdrOk r then 0 else 1
def octS (B : List Int) (c : Int) : Rdr × List (List Int) :=
  if 2 ≤ (B ++ [c]).length ∧ 4096 < longN (B ++ [c]) then (⟨[], true⟩, [])
  else if 2 ≤ (B ++ [c]).length ∧ ((B ++ [c]).length : Int) - 2 = longN (B ++ [c]) then (⟨[], false⟩, [(B ++ [c]).drop 2])
  else (⟨B ++ [c], false⟩, [])
def feedS : Rdr → List Int → Rdr × List (List Int)
  | r, [] => (r, [])
  | r, c :: xs => if r.Bad then (r, []) else ((feedS (octS r.B c).1 xs).1, (octS r.B c).2 ++ (feedS (octS r.B c).1 xs).2)
theorem feedS_nil (r : Rdr) : feedS r [] = (r, []) := by cases r; rfl
theorem feedS_bad {r : Rdr} (h : r.Bad = true) (xs : List Int) : feedS r xs = (r, []) := by
  cases xs with
  | nil => exact feedS_nil r
  | cons c xs => simp [feedS, h]
theorem feedS_cons {r : Rdr} (h : r.Bad = false) (c : Int) (xs : List Int) : feedS r (c :: xs) = ((feedS (octS r.B c).1 xs).1, (octS r.B c).2 ++ (feedS (octS r.B c).1 xs).2) := by simp [feedS, h]
theorem feedS_app (xs : List Int) : ∀ (r : Rdr) (ys : List Int), feedS r (xs ++ ys) = ((feedS (feedS r xs).1 ys).1, (feedS r xs).2 ++ (feedS (feedS r xs).1 ys).2) := by
  induction xs with
  | nil => intro r ys; simp [feedS_nil]
  | cons c xs ih =>
    intro r ys
    cases hb : r.Bad with
    | true => simp [feedS_bad hb]
    | false => rw [List.cons_append, feedS_cons hb, feedS_cons hb, ih]; simp
theorem feedS_one {r : Rdr} (h : r.Bad = false) (c : Int) : feedS r [c] = octS r.B c := by rw [feedS_cons h]; simp [feedS_nil]
theorem feedS_snoc {r : Rdr} (xs : List Int) (c : Int) (h : (feedS r xs).1.Bad = false) : feedS r (xs ++ [c]) = ((octS (feedS r xs).1.B c).1, (feedS r xs).2 ++ (octS (feedS r xs).1.B c).2) := by rw [feedS_app, feedS_one h]
theorem feedS_snoc_bad {r : Rdr} (xs : List Int) (c : Int) (h : (feedS r xs).1.Bad = true) : feedS r (xs ++ [c]) = feedS r xs := by rw [feedS_app, feedS_bad h]; simp

def Oct (xs : List Int) : Prop := ∀ x ∈ xs, 0 ≤ x ∧ x ≤ 255
theorem Oct.app {xs ys : List Int} (h : Oct xs) (h2 : Oct ys) : Oct (xs ++ ys) := fun x hx => by
  rcases List.mem_append.1 hx with hx | hx
  · exact h x hx
  · exact h2 x hx
theorem Oct.one {c : Int} (h : 0 ≤ c ∧ c ≤ 255) : Oct [c] := fun x hx => by simp at hx; subst hx; exact h
theorem Oct.nil : Oct [] := fun x hx => by simp at hx
theorem nth_app {xs ys : List Int} {j : Nat} (h : j < xs.length) : nth (xs ++ ys) j = nth xs j := by
  rw [nth_get h, nth_get (by rw [List.length_append]; omega), List.getElem_append_left h]
theorem nth_bd {xs : List Int} (h : Oct xs) (j : Nat) : 0 ≤ nth xs j ∧ nth xs j ≤ 255 := by
  rcases Nat.lt_or_ge j xs.length with hj | hj
  · exact h _ (nth_mem hj)
  · simp [nth, List.getD, List.getElem?_eq_none hj]
theorem longN_bd {xs : List Int} (h : Oct xs) : 0 ≤ longN xs ∧ longN xs ≤ 65535 := by
  have h0 := nth_bd h 0
  have h1 := nth_bd h 1
  unfold longN
  omega
theorem longN_app {xs ys : List Int} (h : 2 ≤ xs.length) : longN (xs ++ ys) = longN xs := by
  unfold longN
  rw [nth_app (by omega), nth_app (by omega)]

theorem octS_ok {B : List Int} {c : Int} (hw : Oct (B ++ [c])) (hB : RdrOk ⟨B, false⟩) : RdrOk (octS B c).1 := by
  have hl0 := longN_bd hw
  unfold octS
  split
  · exact ⟨by simp, by simp⟩
  · split
    · exact ⟨by simp, by simp⟩
    · rename_i h1 h2
      refine ⟨by simp, fun h => ?_⟩
      simp only at h
      rcases h.2 with h3 | h3
      · exact h1 ⟨h.1, h3⟩
      · have hB2 := hB.2
        simp only at hB2
        have h5 : ¬ ((B ++ [c]).length : Int) - 2 = longN (B ++ [c]) := fun e => h2 ⟨h.1, e⟩
        simp only [List.length_append, List.length_singleton] at h h3 h5
        rcases Nat.lt_or_ge B.length 2 with h4 | h4
        · omega
        · have hl := longN_app (ys := [c]) h4
          have h6 : ¬ (longN B ≤ (B.length : Int) - 2) := fun e => hB2 ⟨h4, .inr e⟩
          omega
theorem octS_oct {B : List Int} {c : Int} (hw : Oct (B ++ [c])) : Oct (octS B c).1.B ∧ ∀ t ∈ (octS B c).2, Oct t := by
  unfold octS
  split
  · exact ⟨Oct.nil, by simp⟩
  · split
    · exact ⟨Oct.nil, by intro t ht; simp at ht; subst ht; exact fun x hx => hw x (List.mem_of_mem_drop (i := 2) (by simpa using hx))⟩
    · exact ⟨hw, by simp⟩
theorem octS_bad {B : List Int} {c : Int} (h : (octS B c).1.Bad = true) : (octS B c).1.B = [] := by
  unfold octS at h ⊢
  split
  · rfl
  · split
    · rfl
    · rename_i h1 h2; rw [if_neg h1, if_neg h2] at h; simp at h
/-- The length of what waits. -/
theorem octS_len {B : List Int} {c : Int} : (octS B c).1.B.length ≤ B.length + 1 := by
  unfold octS
  split
  · simp
  · split <;> simp
theorem ok_bad {r : Rdr} (h : RdrOk r) (hb : r.Bad = true) : r.B = [] := by
  rcases Nat.eq_zero_or_pos r.B.length with h0 | h0
  · exact List.eq_nil_of_length_eq_zero h0
  · exact absurd ⟨hb, h0⟩ h.1
theorem ok_len {r : Rdr} (h : RdrOk r) : r.B.length ≤ 4097 := by
  have h2 := h.2
  rcases Nat.lt_or_ge r.B.length 2 with h4 | h4
  · omega
  · have h5 : ¬ 4096 < longN r.B := fun e => h2 ⟨h4, .inl e⟩
    have h6 : ¬ longN r.B ≤ (r.B.length : Int) - 2 := fun e => h2 ⟨h4, .inr e⟩
    omega
theorem feedS_ok (xs : List Int) : ∀ (r : Rdr), RdrOk r → Oct r.B → Oct xs → RdrOk (feedS r xs).1 ∧ Oct (feedS r xs).1.B ∧ ∀ t ∈ (feedS r xs).2, Oct t := by
  induction xs with
  | nil => intro r h1 h2 _; simp [feedS_nil]; exact ⟨h1, h2⟩
  | cons c xs ih =>
    intro r h1 h2 h3
    cases hb : r.Bad with
    | true => rw [feedS_bad hb]; exact ⟨h1, h2, by simp⟩
    | false =>
      have hc : Oct (r.B ++ [c]) := h2.app (Oct.one (h3 c (by simp)))
      have ho := octS_oct hc
      have hk := octS_ok hc (by have : r = ⟨r.B, false⟩ := by cases r; simp_all
                                rw [← this]; exact h1)
      obtain ⟨i1, i2, i3⟩ := ih _ hk ho.1 (fun x hx => h3 x (by simp [hx]))
      rw [feedS_cons hb]
      refine ⟨i1, i2, fun t ht => ?_⟩
      rcases List.mem_append.1 ht with ht | ht
      · exact ho.2 t ht
      · exact i3 t ht
/-- Fewer octets than are wanting: they wait. -/
def wantN (B : List Int) : Int := if B.length < 2 then 2 - B.length else longN B + 2 - B.length
theorem octS_wait {B : List Int} {c : Int} (hB : RdrOk ⟨B, false⟩) (h : 1 < wantN B) : octS B c = (⟨B ++ [c], false⟩, []) ∧ wantN (B ++ [c]) = wantN B - 1 := by
  have hB2 := hB.2
  simp only at hB2
  unfold wantN at h
  rcases Nat.lt_or_ge B.length 2 with h4 | h4
  · rw [if_pos h4] at h
    have h0 : B.length = 0 := by omega
    unfold octS wantN
    rw [if_neg (by simp; omega), if_neg (by simp; omega), if_pos (by simp; omega), if_pos h4]
    refine ⟨rfl, by simp; omega⟩
  · rw [if_neg (by omega)] at h
    have hl := longN_app (ys := [c]) h4
    have h5 : ¬ 4096 < longN B := fun e => hB2 ⟨h4, .inl e⟩
    unfold octS wantN
    rw [if_neg (by rw [hl]; omega), if_neg (by rw [hl]; simp; omega), if_neg (by simp; omega), if_neg (by omega), hl]
    refine ⟨rfl, by simp; omega⟩
theorem want_pos {B : List Int} (hB : RdrOk ⟨B, false⟩) : 1 ≤ wantN B := by
  have hB2 := hB.2
  simp only at hB2
  unfold wantN
  split
  · omega
  · rename_i h
    have h6 : ¬ longN B ≤ (B.length : Int) - 2 := fun e => hB2 ⟨by omega, .inr e⟩
    omega
theorem feedS_wait (xs : List Int) : ∀ (B : List Int), RdrOk ⟨B, false⟩ → Oct B → Oct xs → (xs.length : Int) < wantN B → feedS ⟨B, false⟩ xs = (⟨B ++ xs, false⟩, []) ∧ wantN (B ++ xs) = wantN B - xs.length := by
  induction xs with
  | nil => intro B _ _ _ _; simp [feedS_nil]
  | cons c xs ih =>
    intro B hB h2 h3 hl
    have hc : Oct (B ++ [c]) := h2.app (Oct.one (h3 c (by simp)))
    simp only [List.length_cons] at hl
    obtain ⟨e1, e2⟩ := octS_wait hB (by omega)
    have hk := octS_ok hc hB
    rw [e1] at hk
    obtain ⟨f1, f2⟩ := ih (B ++ [c]) hk hc (fun x hx => h3 x (by simp [hx])) (by omega)
    rw [feedS_cons rfl]
    simp only [e1, f1]
    refine ⟨by simp, ?_⟩
    rw [show B ++ c :: xs = B ++ [c] ++ xs by simp, f2, e2]
    simp
    omega
theorem octS_full {B : List Int} {c : Int} (hB : RdrOk ⟨B, false⟩) (h2 : 2 ≤ B.length) (h : wantN B = 1) : octS B c = (⟨[], false⟩, [(B ++ [c]).drop 2]) := by
  have hB2 := hB.2
  simp only at hB2
  unfold wantN at h
  rw [if_neg (by omega)] at h
  have hl := longN_app (ys := [c]) h2
  have h5 : ¬ 4096 < longN B := fun e => hB2 ⟨h2, .inl e⟩
  unfold octS
  rw [if_neg (by rw [hl]; omega), if_pos (by rw [hl]; simp; omega)]
theorem feedS_full {B xs : List Int} (hB : RdrOk ⟨B, false⟩) (hb : Oct B) (hx : Oct xs) (h2 : 2 ≤ B.length) (h : (xs.length : Int) = wantN B) : feedS ⟨B, false⟩ xs = (⟨[], false⟩, [(B ++ xs).drop 2]) := by
  have hp := want_pos hB
  rcases List.eq_nil_or_concat xs with rfl | ⟨ys, c, rfl⟩
  · simp at h; omega
  · rw [List.concat_eq_append] at *
    simp only [List.length_append, List.length_singleton] at h
    obtain ⟨e1, e2⟩ := feedS_wait ys B hB hb (fun x hx' => hx x (by simp [hx'])) (by omega)
    have hk := (feedS_ok ys ⟨B, false⟩ hB hb (fun x hx' => hx x (by simp [hx']))).1
    rw [e1] at hk
    rw [feedS_snoc ys c (by rw [e1]), e1]
    simp only
    rw [octS_full hk (by simp; omega) (by rw [e2]; omega)]
    simp
theorem octS_two {a c : Int} : octS [a] c = if 4096 < longN [a, c] then (⟨[], true⟩, []) else if longN [a, c] = 0 then (⟨[], false⟩, [[]]) else (⟨[a, c], false⟩, []) := by
  unfold octS
  by_cases h1 : 4096 < longN [a, c]
  · rw [if_pos (by simpa using h1), if_pos h1]
  · rw [if_neg (by simpa using h1), if_neg h1]
    by_cases h2 : longN [a, c] = 0
    · rw [if_pos (by simpa using h2.symm), if_pos h2]; rfl
    · rw [if_neg (by simp; exact fun e => h2 e.symm), if_neg h2]; rfl
theorem feedS_two {a c : Int} : feedS ⟨[], false⟩ [a, c] = octS [a] c := by
  rw [feedS_cons rfl]
  have e : octS [] a = (⟨[a], false⟩, []) := by unfold octS; rw [if_neg (by simp), if_neg (by simp)]; rfl
  simp only [e]
  rw [feedS_one rfl]
  simp
/-- A whole frame tells its text. -/
theorem feedS_frame {b : List Int} (hb : Oct b) (hl : b.length ≤ 4096) : feedS ⟨[], false⟩ (frameOf b) = (⟨[], false⟩, [b]) := by
  have hlong : longN [(b.length : Int) / 256, (b.length : Int) % 256] = b.length := by
    simp [longN, nth]; omega
  have hoct : Oct [(b.length : Int) / 256, (b.length : Int) % 256] := fun x hx => by simp at hx; omega
  unfold frameOf
  rw [feedS_app, feedS_two, octS_two, hlong, if_neg (by omega)]
  rcases Nat.eq_zero_or_pos b.length with h0 | h0
  · have : b = [] := List.eq_nil_of_length_eq_zero h0
    subst this
    simp [feedS_nil]
  · rw [if_neg (by omega)]
    have hk : RdrOk ⟨[(b.length : Int) / 256, (b.length : Int) % 256], false⟩ := ⟨by simp, fun h => by
      rcases h.2 with h3 | h3
      · change 4096 < longN [(b.length : Int) / 256, (b.length : Int) % 256] at h3
        omega
      · change longN [(b.length : Int) / 256, (b.length : Int) % 256] ≤ ((2 : Nat) : Int) - 2 at h3
        omega⟩
    simp only
    rw [feedS_full hk hoct hb (by simp) (by unfold wantN; simp [hlong])]
    simp
/-- Just as many octets as are wanting. -/
theorem feedS_just {B xs : List Int} (hB : RdrOk ⟨B, false⟩) (hb : Oct B) (hx : Oct xs) (h : (xs.length : Int) = wantN B) :
    ((feedS ⟨B, false⟩ xs).2.length = 1 ∧ (feedS ⟨B, false⟩ xs).1.B.length = 0) ∨ ((feedS ⟨B, false⟩ xs).2.length = 0 ∧ ((feedS ⟨B, false⟩ xs).1.Bad = true ∨ (feedS ⟨B, false⟩ xs).1.B.length = 2)) := by
  rcases Nat.lt_or_ge B.length 2 with h2 | h2
  · have key : ∀ a c : Int, ((octS [a] c).2.length = 1 ∧ (octS [a] c).1.B.length = 0) ∨ ((octS [a] c).2.length = 0 ∧ ((octS [a] c).1.Bad = true ∨ (octS [a] c).1.B.length = 2)) := by
      intro a c
      rw [octS_two]
      split
      · exact .inr ⟨rfl, .inl rfl⟩
      · split
        · exact .inl ⟨rfl, rfl⟩
        · exact .inr ⟨rfl, .inr rfl⟩
    unfold wantN at h
    rw [if_pos h2] at h
    match B, xs, h2, h with
    | [], [a, c], _, _ => rw [feedS_two]; exact key a c
    | [a], [c], _, _ => rw [feedS_one rfl]; exact key a c
    | [], [], _, h => simp at h
    | [], [_], _, h => simp at h
    | [], _ :: _ :: _ :: _, _, h => simp at h; omega
    | [_], [], _, h => simp at h
    | [_], _ :: _ :: _, _, h => simp at h; omega
  · rw [feedS_full hB hb hx h2 h]
    exact .inl ⟨rfl, rfl⟩

/-- What Feed, and Wants, tell. -/
def fdE (r : Rdr) (xs : List Int) : Int := if ¬ RdrOk r then 1 else if 65535 < xs.length then 4 else 0
def fdR (r : Rdr) (xs : List Int) : Rdr := if fdE r xs = 0 then (feedS r xs).1 else ⟨[], false⟩
def fdL (r : Rdr) (xs : List Int) : List (List Int) := if fdE r xs = 0 then (feedS r xs).2 else []
def waE (r : Rdr) : Int := chkF r
def waN (r : Rdr) : Int := if RdrOk r then (if r.Bad then 0 else wantN r.B) else 0
def ptE (b : List Int) : Int := if 4096 < b.length then 4 else 0
def ptO (b : List Int) : List Int := if 4096 < b.length then [] else frameOf b
end Go.Proofs.Ythcikbmekjmmlaa
