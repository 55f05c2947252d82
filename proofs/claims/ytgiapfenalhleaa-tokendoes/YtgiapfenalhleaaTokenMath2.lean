/-
  Tokens, plain: their octets, by the records of layer 2: what was put is got, and what is got, put, is what was read.
-/
import Derived.Test.YtgiapfenalhleaaTokenMath
import Derived.Test.YtgiapfenalhleaaTlvLaws
namespace Go.Proofs.Ytgiapfenalhleaa
open Go.RowKit Go.WalkArith

/-- The records of caveats, the first of type k. -/
def capR : Nat → List Cav → List Rec
  | _, [] => []
  | k, c :: l => ⟨(k : Int), putC c⟩ :: capR (k + 1) l
theorem capR_len : ∀ (k : Nat) (l : List Cav), (capR k l).length = l.length
  | _, [] => rfl
  | k, _ :: l => by simp [capR, capR_len (k + 1) l]
theorem capR_snoc : ∀ (k : Nat) (l : List Cav) (c : Cav), capR k (l ++ [c]) = capR k l ++ [⟨((k + l.length : Nat) : Int), putC c⟩]
  | k, [], c => by simp [capR]
  | k, d :: l, c => by
    simp only [List.cons_append, capR, capR_snoc (k + 1) l c, List.length_cons]
    rw [show k + 1 + l.length = k + (l.length + 1) by omega]
def recsT (t : Tok) : List Rec := ⟨1, oct t.Root⟩ :: ⟨2, oct t.Tag⟩ :: capR 16 t.L
def tpE (t : Tok) : Int := if TokOk t then 0 else 1
def tpO (t : Tok) : List Int := if TokOk t then octsR (recsT t) else []

/-- The types of records stand one behind the other. -/
def NumOk (l : List Rec) : Prop := ∀ (i : Nat) (h : i < l.length), l[i].T = 16 + (i : Int)
instance (l : List Rec) : Decidable (NumOk l) := inferInstanceAs (Decidable (∀ (i : Nat) (_ : i < l.length), _))
/-- The first error of caveats read. -/
def csE : List Rec → Int
  | [] => 0
  | r :: l => if (getC r.V).2 ≠ 0 then (getC r.V).2 else csE l
def csL (l : List Rec) : List Cav := l.map fun r => (getC r.V).1
/-- .. and of the records of a token. -/
noncomputable def rtE (l : List Rec) : Int :=
  if fE l 1 ≠ 0 ∨ fE l 2 ≠ 0 then 5 else if nE l 1 ≠ 0 then nE l 1 else if nE l 2 ≠ 0 then nE l 2
  else if 1048576 < nV l 2 ∨ 18 < l.length then 2 else if ¬ NumOk (l.drop 2) then 2 else if (l[0]?.map (·.T)) ≠ some 1 then 2 else csE (l.drop 2)
noncomputable def rtT (l : List Rec) : Tok := if rtE l = 0 then ⟨nV l 1, csL (l.drop 2), nV l 2⟩ else zeroT
noncomputable def tgtE (xs : List Int) : Int := if (getR xs).2 ≠ 0 then (getR xs).2 else rtE (getR xs).1
noncomputable def tgtT (xs : List Int) : Tok := if (getR xs).2 ≠ 0 then zeroT else rtT (getR xs).1

theorem csE_zero {l : List Rec} : csE l = 0 ↔ ∀ r ∈ l, (getC r.V).2 = 0 := by
  induction l with
  | nil => simp [csE]
  | cons r l ih =>
    unfold csE
    by_cases h : (getC r.V).2 = 0
    · simp [h, ih]
    · simp [h]
theorem getC_of_put {c : Cav} (hw : CavWf c) (hc : CavOk c) : getC (putC c) = (c, 0) := by
  have := getC_put hw hc []
  rw [List.append_nil] at this
  rw [this]
  simp [finC, hc]
theorem capR_cs : ∀ (k : Nat) (l : List Cav), CavsWf l → (∀ c ∈ l, CavOk c) → csE (capR k l) = 0 ∧ csL (capR k l) = l
  | _, [], _, _ => ⟨rfl, rfl⟩
  | k, c :: l, hw, hc => by
    have h := getC_of_put (hw c (by simp)) (hc c (by simp))
    have ih := capR_cs (k + 1) l (fun d hd => hw d (by simp [hd])) (fun d hd => hc d (by simp [hd]))
    constructor
    · unfold capR csE; simp [h, ih.1]
    · have := ih.2; unfold csL at this ⊢; simp [capR, h, this]
theorem capR_T : ∀ (k : Nat) (l : List Cav) (i : Nat) (h : i < (capR k l).length), ((capR k l)[i]).T = (k : Int) + (i : Int)
  | _, [], i, h => by simp [capR] at h
  | k, c :: l, 0, h => by simp [capR]
  | k, c :: l, i + 1, h => by
    have := capR_T (k + 1) l i (by simpa [capR] using h)
    simp only [capR, List.getElem_cons_succ, this]
    omega
theorem capR_back : ∀ (k : Nat) (l : List Rec), (∀ (i : Nat) (h : i < l.length), l[i].T = (k : Int) + (i : Int)) → (∀ r ∈ l, ∀ x ∈ r.V, 0 ≤ x ∧ x ≤ 255) → csE l = 0 → capR k (csL l) = l ∧ ∀ c ∈ csL l, CavOk c
  | _, [], _, _, _ => ⟨rfl, fun _ h => by simp [csL] at h⟩
  | k, r :: l, hT, hw, he => by
    have hz := csE_zero.1 he
    have h1 := hz r (by simp)
    have h2 := put_getC (hw r (by simp)) (c := (getC r.V).1) (by rw [← h1])
    have ih := capR_back (k + 1) l (fun i h => by have := hT (i + 1) (by simpa using h); simp at this; rw [this]; omega) (fun d hd => hw d (by simp [hd])) (csE_zero.2 fun d hd => hz d (by simp [hd]))
    have hk := hT 0 (by simp)
    simp at hk
    constructor
    · show Rec.mk (k : Int) (putC (getC r.V).1) :: capR (k + 1) (csL l) = r :: l
      rw [ih.1, h2.2.1, ← hk]
    · intro c hc
      rcases List.mem_cons.1 (show c ∈ (getC r.V).1 :: csL l from hc) with rfl | h
      · exact h2.1
      · exact ih.2 c h

theorem caps_all {l : List Cav} (h : CapsOk l) : ∀ c ∈ l, CavOk c := fun c hc => by
  have := h.2
  unfold cavsB at this
  simpa using List.all_eq_true.1 this c hc
theorem octs_bd8 : ∀ (l : List Int), (∀ n ∈ l, 0 ≤ n) → ∀ x ∈ octs l, 0 ≤ x ∧ x ≤ 255
  | [], _ => fun x hx => by simp [octs] at hx
  | n :: l, h => fun x hx => by
    rw [octs_cons] at hx
    rcases List.mem_append.1 hx with h1 | h1
    · exact oct_bd n (h n (by simp)) x h1
    · exact octs_bd8 l (fun m hm => h m (by simp [hm])) x h1
theorem putC_bd {c : Cav} (hw : CavWf c) : ∀ x ∈ putC c, 0 ≤ x ∧ x ≤ 255 := by
  unfold putC
  split
  · rename_i hc
    have hb := cav_bd hw
    have hk := hc.1
    refine octs_bd8 _ fun n hn => ?_
    unfold numsC at hn
    split at hn <;> simp at hn <;> omega
  · intro x hx; simp at hx
theorem putC_len8 (c : Cav) : (putC c).length ≤ 27 := by
  unfold putC
  split
  · have := octs_len_le (numsC c)
    have h2 : (numsC c).length ≤ 3 := by unfold numsC; split <;> simp
    omega
  · simp
theorem oct_len9 (n : Int) : (oct n).length ≤ 9 := by
  have := octs_len_le [n]
  rw [octs_cons] at this
  simp at this
  omega
theorem capR_mem : ∀ (k : Nat) (l : List Cav) (r : Rec), r ∈ capR k l → ∃ c ∈ l, r.V = putC c
  | _, [], r, h => by simp [capR] at h
  | k, c :: l, r, h => by
    rcases List.mem_cons.1 (show r ∈ (⟨(k : Int), putC c⟩ : Rec) :: capR (k + 1) l from h) with rfl | h
    · exact ⟨c, by simp, rfl⟩
    · obtain ⟨d, hd, e⟩ := capR_mem (k + 1) l r h
      exact ⟨d, by simp [hd], e⟩
theorem recs_small (t : Tok) : ∀ r ∈ recsT t, r.V.length ≤ 27 := fun r hr => by
  rcases List.mem_cons.1 hr with rfl | hr
  · have := oct_len9 t.Root; show (oct t.Root).length ≤ 27; omega
  rcases List.mem_cons.1 hr with rfl | hr
  · have := oct_len9 t.Tag; show (oct t.Tag).length ≤ 27; omega
  obtain ⟨c, -, e⟩ := capR_mem _ _ _ hr
  rw [e]; exact putC_len8 c
theorem recs_len (t : Tok) : (recsT t).length = t.L.length + 2 := by simp [recsT, capR_len]
theorem octsR_len45 : ∀ (l : List Rec), (∀ r ∈ l, r.V.length ≤ 27) → (octsR l).length ≤ l.length * 45
  | [], _ => by simp [octsR]
  | r :: l, h => by
    have h1 := octR_len r
    have h2 := h r (by simp)
    have ih := octsR_len45 l fun d hd => h d (by simp [hd])
    rw [octsR_cons, List.length_append, List.length_cons]
    omega
theorem recs_short {t : Tok} (h : TokOk t) : (octsR (recsT t)).length ≤ 65535 := by
  have := octsR_len45 _ (recs_small t)
  rw [recs_len] at this
  have := h.1.1
  omega
theorem recs_may {t : Tok} (h : TokOk t) : MayBe (recsT t) := by
  have hl := h.1.1
  refine ⟨by rw [recs_len]; omega, fun j hj _ => ⟨?_, fun hp => ?_⟩⟩
  · have := recs_small t _ (List.getElem_mem hj); omega
  · rw [recs_len] at hj
    match j, hp with
    | 1, _ => show (1 : Int) < 2; omega
    | 2, _ =>
      have := capR_T 16 t.L 0 (by rw [capR_len]; omega)
      show (2 : Int) < ((capR 16 t.L)[0]'(by rw [capR_len]; omega)).T
      omega
    | i + 3, _ =>
      have h1 := capR_T 16 t.L i (by rw [capR_len]; omega)
      have h2 := capR_T 16 t.L (i + 1) (by rw [capR_len]; omega)
      show ((capR 16 t.L)[i]'(by rw [capR_len]; omega)).T < ((capR 16 t.L)[i + 1]'(by rw [capR_len]; omega)).T
      omega
theorem recs_wf {t : Tok} (h : TokOk t) (hR : 0 ≤ t.Root) (hw : CavsWf t.L) : ∀ r ∈ recsT t, RecWf r := fun r hr => by
  have hl := h.1.1
  rcases List.mem_cons.1 hr with rfl | hr
  · exact ⟨⟨by show (0 : Int) ≤ 1; omega, by show (1 : Int) ≤ 18446744073709551615; omega⟩, oct_bd _ hR⟩
  rcases List.mem_cons.1 hr with rfl | hr
  · exact ⟨⟨by show (0 : Int) ≤ 2; omega, by show (2 : Int) ≤ 18446744073709551615; omega⟩, oct_bd _ h.2.1⟩
  obtain ⟨c, hc, e⟩ := capR_mem _ _ _ hr
  obtain ⟨i, hi, hri⟩ := List.getElem_of_mem hr
  have hT := capR_T 16 t.L i hi
  rw [hri] at hT
  rw [capR_len] at hi
  exact ⟨⟨by omega, by omega⟩, by rw [e]; exact putC_bd (hw c hc)⟩
theorem num_oct {n : Int} (h0 : 0 ≤ n) (hn : n ≤ 18446744073709551615) : numE (oct n) = 0 ∧ numV (oct n) = n := by
  have h := get_put h0 hn []
  rw [List.append_nil] at h
  unfold numE numV
  simp [h.1, h.2]
theorem tp_is {t : Tok} (h : TokOk t) : pE (recsT t) = 0 ∧ pO (recsT t) = octsR (recsT t) := by
  rw [pE_ok (recs_may h), pO_ok (recs_may h)]
  exact ⟨if_pos (recs_short h), if_pos (recs_short h)⟩
theorem fE_hit {l : List Rec} {k : Int} {r : Rec} (hm : MayBe l) (h : findR l k = some r) : fE l k = 0 ∧ nE l k = numE r.V ∧ nV l k = numV r.V := by
  have h1 : fE l k = 0 := by rw [fE_ok hm]; unfold foE; rw [h]; rfl
  have h2 : fV l k = r.V := by rw [fV_ok hm]; unfold foV; rw [h]; rfl
  refine ⟨h1, ?_, ?_⟩
  · unfold nE; rw [h1, h2]; rfl
  · unfold nV; rw [h1, h2]; rfl
/-- What was put is got. -/
theorem tget_put {t : Tok} (hw : CavsWf t.L) (hR : 0 ≤ t.Root ∧ t.Root ≤ 18446744073709551615) (h : TokOk t) : tgtE (octsR (recsT t)) = 0 ∧ tgtT (octsR (recsT t)) = t := by
  have hg := getR_put (recs_wf h hR.1 hw) (recs_may h) (recs_short h)
  have hm := recs_may h
  obtain ⟨a1, a2, a3⟩ := fE_hit (k := 1) (r := ⟨1, oct t.Root⟩) hm (by simp [findR, recsT])
  obtain ⟨b1, b2, b3⟩ := fE_hit (k := 2) (r := ⟨2, oct t.Tag⟩) hm (by simp [findR, recsT])
  have hT := h.2
  have hl := h.1.1
  obtain ⟨c1, c2⟩ := num_oct hR.1 hR.2
  obtain ⟨d1, d2⟩ := num_oct (n := t.Tag) hT.1 (by omega)
  obtain ⟨e1, e2⟩ := capR_cs 16 t.L hw (caps_all h.1)
  have hd : (recsT t).drop 2 = capR 16 t.L := rfl
  have hN : NumOk ((recsT t).drop 2) := fun i hi => by rw [hd] at hi; exact capR_T 16 t.L i hi
  have hE : rtE (recsT t) = 0 := by
    unfold rtE
    rw [a1, b1, a2, b2, b3, c1, d1, d2, recs_len, if_neg (by simp), if_neg (by simp), if_neg (by simp), if_neg (by omega), if_neg (by simpa using hN), if_neg (by simp [recsT]), hd]
    exact e1
  unfold tgtE tgtT
  rw [hg]
  refine ⟨by simpa using hE, ?_⟩
  rw [if_neg (by simp)]
  unfold rtT
  rw [if_pos hE, a3, b3, c2, d2, hd, e2]
theorem num_back {V : List Int} (hw : ∀ x ∈ V, 0 ≤ x ∧ x ≤ 255) (h : numE V = 0) : oct (numV V) = V ∧ 0 ≤ numV V ∧ numV V ≤ 18446744073709551615 := by
  unfold numE at h
  split at h
  · contradiction
  · rename_i hg
    have hg : getE V = 0 := by simpa using hg
    split at h
    · rename_i hl
      have h1 := put_get hw hg
      have hv : numV V = rdN V := by unfold numV; rw [if_neg (by simp [hg]), if_pos hl]
      rw [hv]
      refine ⟨?_, getE_rd hw hg⟩
      rw [hl, List.take_length] at h1
      exact h1.1
    · simp at h
/-- What is got, put, is what was read. -/
theorem put_tget {xs : List Int} (hw : ∀ x ∈ xs, 0 ≤ x ∧ x ≤ 255) (h : tgtE xs = 0) : TokOk (tgtT xs) ∧ octsR (recsT (tgtT xs)) = xs := by
  obtain ⟨l, e, hg⟩ : ∃ l e, getR xs = (l, e) := ⟨_, _, rfl⟩
  unfold tgtE at h
  unfold tgtT
  rw [hg] at h ⊢
  by_cases he : e = 0
  rotate_left
  · rw [if_pos he] at h; exact absurd h he
  subst he
  rw [if_neg (by simp)] at h
  rw [if_neg (by simp)]
  obtain ⟨hm, ho, -, hwf⟩ := getR_back hw hg
  simp only at h ⊢
  have h' := h
  unfold rtE at h'
  by_cases q1 : fE l 1 ≠ 0 ∨ fE l 2 ≠ 0
  · rw [if_pos q1] at h'; simp at h'
  rw [if_neg q1] at h'
  by_cases q2 : nE l 1 = 0
  rotate_left
  · rw [if_pos q2] at h'; exact absurd h' q2
  rw [if_neg (by simpa using q2)] at h'
  by_cases q3 : nE l 2 = 0
  rotate_left
  · rw [if_pos q3] at h'; exact absurd h' q3
  rw [if_neg (by simpa using q3)] at h'
  by_cases q4 : 1048576 < nV l 2 ∨ 18 < l.length
  · rw [if_pos q4] at h'; simp at h'
  rw [if_neg q4] at h'
  by_cases q5 : NumOk (l.drop 2)
  rotate_left
  · rw [if_pos q5] at h'; simp at h'
  rw [if_neg (by simpa using q5)] at h'
  by_cases q6 : (l[0]?.map (·.T)) = some 1
  rotate_left
  · rw [if_pos q6] at h'; simp at h'
  rw [if_neg (by simpa using q6)] at h'
  unfold rtT
  rw [if_pos h]
  have f2 : fE l 2 = 0 := by
    by_cases k : fE l 2 = 0
    · exact k
    · exact absurd (.inr k) q1
  rw [fE_ok hm] at f2
  match l, hm, ho, hwf, q2, q3, q4, q5, q6, h', f2 with
  | [], _, _, _, _, _, _, _, q6, _, _ => simp at q6
  | [a], _, _, _, _, _, _, _, q6, _, f2 =>
    simp at q6
    unfold foE findR at f2
    simp [q6] at f2
  | a :: b :: m, hm, ho, hwf, q2, q3, q4, q5, q6, h', f2 =>
    have hd : (a :: b :: m).drop 2 = m := rfl
    rw [hd] at q5 h'
    rw [hd]
    have ha : a.T = 1 := by simpa using q6
    have hb : b.T = 2 := by
      by_cases k : b.T = 2
      · exact k
      · exfalso
        have hn : findR (a :: b :: m) 2 = none := by
          unfold findR
          rw [List.find?_eq_none]
          intro r hr
          rcases List.mem_cons.1 hr with rfl | hr
          · simp [ha]
          rcases List.mem_cons.1 hr with rfl | hr
          · simpa using k
          obtain ⟨i, hi, rfl⟩ := List.getElem_of_mem hr
          have := q5 i hi
          simp; omega
        unfold foE at f2
        rw [hn] at f2
        simp at f2
    obtain ⟨-, a2, a3⟩ := fE_hit (k := 1) (r := a) hm (by simp [findR, ha])
    obtain ⟨-, b2, b3⟩ := fE_hit (k := 2) (r := b) hm (by simp [findR, ha, hb])
    rw [a2] at q2
    rw [b2] at q3
    obtain ⟨x1, x2, x3⟩ := num_back (hwf a (by simp)).2 q2
    obtain ⟨y1, y2, y3⟩ := num_back (hwf b (by simp)).2 q3
    obtain ⟨z1, z2⟩ := capR_back 16 m (fun i hi => q5 i hi) (fun r hr => (hwf r (by simp [hr])).2) h'
    rw [b3] at q4
    rw [a3, b3]
    have hlen : m.length ≤ 16 := by
      have := (not_or.1 q4).2
      simp at this
      omega
    refine ⟨⟨⟨by simpa [csL] using hlen, ?_⟩, y2, by have := (not_or.1 q4).1; show numV b.V ≤ 1048576; omega⟩, ?_⟩
    · unfold cavsB
      rw [List.all_eq_true]
      exact fun c hc => by simpa using z2 c hc
    · rw [← ho]
      show octsR ((⟨1, oct (numV a.V)⟩ : Rec) :: ⟨2, oct (numV b.V)⟩ :: capR 16 (csL m)) = _
      rw [x1, y1, z1, ← ha, ← hb]
end Go.Proofs.Ytgiapfenalhleaa
