/-
  Tokens, plain: which may be, what is minted, bound, and verified; that what was minted, and bound, is right by its key alone.
-/
import Derived.Test.YtgiapfenalhleaaCaveatMath
import Derived.Test.YtgiapfenalhleaaArenaLaws
namespace Go.Proofs.Ytgiapfenalhleaa
open Go.RowKit Go.WalkArith

def zeroT : Tok := ⟨0, [], 0⟩
def TokOk (t : Tok) : Prop := CapsOk t.L ∧ 0 ≤ t.Tag ∧ t.Tag ≤ 1048576
instance (t : Tok) : Decidable (TokOk t) := inferInstanceAs (Decidable (_ ∧ _ ∧ _))
def tkE (t : Tok) : Int := if TokOk t then 0 else 1
def txts (l : List Cav) : List (List Int) := l.map putC
noncomputable def mtE (l : List Trm) (root key : Int) : Int := withE l (rootT key (oct root))
noncomputable def mtL (l : List Trm) (root key : Int) : List Trm := withL l (rootT key (oct root))
noncomputable def mtT (l : List Trm) (root key : Int) : Tok := if mtE l root key = 0 then ⟨root, [], withI l (rootT key (oct root))⟩ else zeroT
def BindOk (l : List Trm) (t : Tok) (c : Cav) : Prop := CavOk c ∧ TokOk t ∧ ArOk l
noncomputable instance (l : List Trm) (t : Tok) (c : Cav) : Decidable (BindOk l t c) := Classical.propDecidable _
noncomputable def bdE (l : List Trm) (t : Tok) (c : Cav) : Int := if BindOk l t c then (if t.L.length = 16 then 7 else nextE l t.Tag (putC c)) else 1
noncomputable def bdL (l : List Trm) (t : Tok) (c : Cav) : List Trm := if bdE l t c = 0 then nextL l t.Tag (putC c) else []
noncomputable def bdT (l : List Trm) (t : Tok) (c : Cav) : Tok := if bdE l t c = 0 then ⟨t.Root, t.L ++ [c], nextI l t.Tag (putC c)⟩ else zeroT
def VerOk (l : List Trm) (t : Tok) : Prop := TokOk t ∧ ArOk l
noncomputable instance (l : List Trm) (t : Tok) : Decidable (VerOk l t) := Classical.propDecidable _
noncomputable def vfE (l : List Trm) (t : Tok) : Int := if VerOk l t then 0 else 1
noncomputable def rightB (l : List Trm) (key : Int) (t : Tok) : Bool := decide (findE l key (oct t.Root) (txts t.L) = 0 ∧ findI l key (oct t.Root) (txts t.L) = t.Tag)
noncomputable def vfV (l : List Trm) (key : Int) (t : Tok) : Bool := decide (VerOk l t) && rightB l key t

theorem vf_is {l : List Trm} {key : Int} {t : Tok} : (vfE l t = 0 ∧ vfV l key t = rightB l key t ∧ VerOk l t) ∨ (vfE l t = 1 ∧ vfV l key t = false ∧ ¬ VerOk l t) := by
  unfold vfE vfV
  by_cases h : VerOk l t
  · exact .inl ⟨if_pos h, by rw [decide_eq_true h]; rfl, h⟩
  · exact .inr ⟨if_neg h, by rw [decide_eq_false h]; rfl, h⟩
theorem bd_is {l : List Trm} {t : Tok} {c : Cav} : (bdE l t c = 0 ∧ BindOk l t c ∧ t.L.length < 16 ∧ nextE l t.Tag (putC c) = 0 ∧ bdL l t c = nextL l t.Tag (putC c) ∧ bdT l t c = ⟨t.Root, t.L ++ [c], nextI l t.Tag (putC c)⟩) ∨ (bdE l t c ≠ 0 ∧ bdL l t c = [] ∧ bdT l t c = zeroT) := by
  by_cases h : bdE l t c = 0
  · refine .inl ⟨h, ?_⟩
    unfold bdE at h
    by_cases k : BindOk l t c
    · rw [if_pos k] at h
      by_cases q : t.L.length = 16
      · rw [if_pos q] at h; cases h
      · rw [if_neg q] at h
        have e : bdE l t c = 0 := by unfold bdE; rw [if_pos k, if_neg q, h]
        exact ⟨k, by have := k.2.1.1.1; omega, h, if_pos e, if_pos e⟩
    · rw [if_neg k] at h; cases h
  · exact .inr ⟨h, if_neg h, if_neg h⟩

/-! ### What was minted, and bound -/
structure Bn where
  l : List Trm
  t : Tok
  e : Int
noncomputable def stepB (s : Bn) (c : Cav) : Bn := if s.e = 0 then ⟨bdL s.l s.t c, bdT s.l s.t c, bdE s.l s.t c⟩ else s
noncomputable def bnS (l : List Trm) (root key : Int) (cs : List Cav) : Bn := cs.foldl stepB ⟨mtL l root key, mtT l root key, mtE l root key⟩
theorem bnS_snoc (l : List Trm) (root key : Int) (cs : List Cav) (c : Cav) : bnS l root key (cs ++ [c]) = stepB (bnS l root key cs) c := by simp [bnS, List.foldl_append]
theorem mkS_snoc (l : List Trm) (k : Int) (t : List Int) (ts : List (List Int)) (u : List Int) : mkS l k t (ts ++ [u]) = stepM (mkS l k t ts) u := by simp [mkS, List.foldl_append]
/-- A token that is bound is as a tag that is made. -/
theorem bn_is (l : List Trm) (root key : Int) (cs : List Cav) : (bnS l root key cs).e = 0 → (mkS l key (oct root) (txts cs)).e = 0 ∧ (bnS l root key cs).l = (mkS l key (oct root) (txts cs)).l ∧ (bnS l root key cs).t = ⟨root, cs, (mkS l key (oct root) (txts cs)).i⟩ ∧ (∀ c ∈ cs, CavOk c) ∧ cs.length ≤ 16 := by
  refine snoc_ind (p := fun cs => (bnS l root key cs).e = 0 → (mkS l key (oct root) (txts cs)).e = 0 ∧ (bnS l root key cs).l = (mkS l key (oct root) (txts cs)).l ∧ (bnS l root key cs).t = ⟨root, cs, (mkS l key (oct root) (txts cs)).i⟩ ∧ (∀ c ∈ cs, CavOk c) ∧ cs.length ≤ 16) cs ?_ ?_
  · intro h
    have h' : mtE l root key = 0 := h
    exact ⟨h', rfl, if_pos h', by simp, by simp⟩
  · intro cs c ih h
    rw [bnS_snoc] at h ⊢
    by_cases h0 : (bnS l root key cs).e = 0
    · obtain ⟨i1, i2, i3, i4, i5⟩ := ih h0
      have hs : stepB (bnS l root key cs) c = ⟨bdL (bnS l root key cs).l (bnS l root key cs).t c, bdT (bnS l root key cs).l (bnS l root key cs).t c, bdE (bnS l root key cs).l (bnS l root key cs).t c⟩ := if_pos h0
      rw [hs] at h ⊢
      simp only at h ⊢
      rcases bd_is (l := (bnS l root key cs).l) (t := (bnS l root key cs).t) (c := c) with ⟨j1, j2, j3, j4, j5, j6⟩ | ⟨j1, -, -⟩
      · rw [i2, i3] at j4 j5 j6
        rw [i3] at j3
        have hm : stepM (mkS l key (oct root) (txts cs)) (putC c) = ⟨nextL (mkS l key (oct root) (txts cs)).l (mkS l key (oct root) (txts cs)).i (putC c), nextI (mkS l key (oct root) (txts cs)).l (mkS l key (oct root) (txts cs)).i (putC c), nextE (mkS l key (oct root) (txts cs)).l (mkS l key (oct root) (txts cs)).i (putC c)⟩ := if_pos i1
        have ht : txts (cs ++ [c]) = txts cs ++ [putC c] := by simp [txts]
        rw [ht, mkS_snoc, hm, i2, i3]
        refine ⟨j4, j5, j6, fun d hd => ?_, by simp at j3 ⊢; omega⟩
        rcases List.mem_append.1 hd with hd | hd
        · exact i4 d hd
        · simp at hd; subst hd; exact j2.1
      · exact absurd h j1
    · have hs : stepB (bnS l root key cs) c = bnS l root key cs := if_neg h0
      rw [hs] at h
      exact absurd h h0

/-! ### Octets tell numbers, and caveats, apart -/
theorem oct_inj {a b : Int} (ha : 0 ≤ a ∧ a ≤ 18446744073709551615) (hb : 0 ≤ b ∧ b ≤ 18446744073709551615) (h : oct a = oct b) : a = b := by
  have h1 := (get_put ha.1 ha.2 []).2
  have h2 := (get_put hb.1 hb.2 []).2
  rw [List.append_nil] at h1 h2
  rw [← h1, ← h2, h]
theorem putC_inj {c d : Cav} (hc : CavWf c) (hd : CavWf d) (h1 : CavOk c) (h2 : CavOk d) (h : putC c = putC d) : c = d := by
  have e1 := getC_put hc h1 []
  have e2 := getC_put hd h2 []
  rw [List.append_nil] at e1 e2
  have f1 : finC c [] = (c, 0) := if_pos ⟨rfl, h1⟩
  have f2 : finC d [] = (d, 0) := if_pos ⟨rfl, h2⟩
  rw [f1] at e1
  rw [f2] at e2
  rw [h, e2] at e1
  injection e1 with e _
  exact e.symm
def CavsWf (l : List Cav) : Prop := ∀ c ∈ l, CavWf c
theorem txts_inj : ∀ {a b : List Cav}, CavsWf a → CavsWf b → (∀ c ∈ a, CavOk c) → (∀ c ∈ b, CavOk c) → txts a = txts b → a = b
  | [], [], _, _, _, _, _ => rfl
  | [], d :: b, _, _, _, _, h => by simp [txts] at h
  | c :: a, [], _, _, _, _, h => by simp [txts] at h
  | c :: a, d :: b, h1, h2, h3, h4, h => by
    simp only [txts, List.map_cons, List.cons.injEq] at h
    rw [putC_inj (h1 c (by simp)) (h2 d (by simp)) (h3 c (by simp)) (h4 d (by simp)) h.1, txts_inj (fun x hx => h1 x (by simp [hx])) (fun x hx => h2 x (by simp [hx])) (fun x hx => h3 x (by simp [hx])) (fun x hx => h4 x (by simp [hx])) h.2]

/-! ### Right by its key alone -/
/-- What is found by a key, and texts, at a tag, was made that way. -/
theorem find_tag {l : List Trm} (h : ArOk l) {k : Int} {t : List Int} {ts : List (List Int)} {i : Nat} (hi : i < l.length) (he : findE l k t ts = 0) (hf : findI l k t ts = i) : pthK l i = k ∧ pthT l i = t :: ts := by
  have hsh : shortT (t :: ts) ∧ 0 ≤ goTo l (seat l (rootT k t)) ts := by
    unfold findE at he
    rw [if_pos h] at he
    by_cases q : shortT (t :: ts)
    · rw [if_pos q] at he
      by_cases p : 0 ≤ goTo l (seat l (rootT k t)) ts
      · exact ⟨q, p⟩
      · rw [if_neg p] at he; cases he
    · rw [if_neg q] at he; cases he
  have hg : goTo l (seat l (rootT k t)) ts = i := by
    rw [findI, if_pos he] at hf
    exact hf
  clear he hf
  have key : ∀ (us : List (List Int)) (j : Int) (T : List (List Int)), (0 ≤ j → ∃ m : Nat, j = m ∧ ∃ hm : m < l.length, pthK l m = k ∧ pthT l m = T) → 0 ≤ goTo l j us → ∃ m : Nat, goTo l j us = m ∧ ∃ hm : m < l.length, pthK l m = k ∧ pthT l m = T ++ us := by
    intro us
    induction us with
    | nil =>
      intro j T hj h0
      obtain ⟨m, e, hm, a, b⟩ := hj h0
      exact ⟨m, e, hm, a, by simpa using b⟩
    | cons u us ih =>
      intro j T hj h0
      rw [goTo] at h0 ⊢
      by_cases hj0 : 0 ≤ j
      · rw [if_pos hj0] at h0 ⊢
        obtain ⟨m, rfl, hm, a, b⟩ := hj hj0
        have := ih (seat l (nextT m u)) (T ++ [u]) (fun hs => by
          rcases seat_cases (l := l) (nextT m u) with ⟨q, -⟩ | ⟨p, hp, q, r⟩
          · omega
          · have hU : l[p].Up = m := by rw [r]; rfl
            have hT : l[p].Text = u := by rw [r]; rfl
            refine ⟨p, q, hp, ?_, ?_⟩
            · rw [pthK_next h hp (by omega), hU, Int.toNat_natCast, a]
            · rw [pthT_next h hp (by omega), hU, hT, Int.toNat_natCast, b]) h0
        simpa using this
      · rw [if_neg hj0] at h0
        rw [goTo_no us (by omega)] at h0
        exact absurd h0 hj0
  obtain ⟨m, e, hm, a, b⟩ := key ts (seat l (rootT k t)) [t] (fun hs => by
    rcases seat_cases (l := l) (rootT k t) with ⟨q, -⟩ | ⟨p, hp, q, r⟩
    · omega
    · have hU : l[p].Up = -1 := by rw [r]; rfl
      exact ⟨p, q, hp, by rw [pthK_root hp (by omega), r]; rfl, by rw [pthT_root hp (by omega), r]; rfl⟩) hsh.2
  rw [hg] at e
  have : m = i := by omega
  subst this
  exact ⟨a, by simpa using b⟩
theorem right_iff {l : List Trm} (h : ArOk l) {k : Int} {t : Tok} {i : Nat} (hi : i < l.length) (ht : t.Tag = i) : rightB l k t = true ↔ pthK l i = k ∧ pthT l i = oct t.Root :: txts t.L := by
  unfold rightB
  rw [decide_eq_true_iff, ht]
  constructor
  · rintro ⟨a, b⟩
    exact find_tag h hi a b
  · rintro ⟨a, b⟩
    exact find_same h hi a b
theorem right_no {l : List Trm} {k : Int} {t : Tok} (ht : (l.length : Int) ≤ t.Tag) : rightB l k t = false := by
  unfold rightB
  rw [decide_eq_false_iff_not]
  rintro ⟨a, b⟩
  rw [findI, if_pos a] at b
  have := (goTo_bd (l := l) (txts t.L) (seat_bd (l := l) (rootT k (oct t.Root))).1 (seat_bd (l := l) (rootT k (oct t.Root))).2).2
  omega
end Go.Proofs.Ytgiapfenalhleaa
