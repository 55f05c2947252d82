/-
  Tokens, plain: which may be, what is minted, bound, and verified; that what was minted, and bound, is right by its key alone.
  The contracts of the document's small answers of layer 7: caveats that may be, tokens that may be, tokens that are the same.
  SameBytes, SameNumbers.
-/
import Derived.Deep.QuietTactic
import Derived.Test.YtgiapfenalhleaaPack1
import Derived.Test.YtgiapfenalhleaaPack2
import Derived.Test.YtgiapfenalhleaaPack3
import Derived.Test.YtgiapfenalhleaaPack4
import Derived.Test.YtgiapfenalhleaaPack5
import Derived.Test.YtgiapfenalhleaaPack6
import Derived.Test.YtgiapfenalhleaaPack7
import Derived.Test.YtgiapfenalhleaaPack8
import Derived.Test.YtgiapfenalhleaaPack9
namespace Go.Proofs.Ytgiapfenalhleaa
open Go.RowKit Go.WalkArith

def zeroT : Tok := ⟨0, [], 0⟩
def TokOk (t : Tok) : Prop := CapsOk t.L ∧ 0 ≤ t.Tag ∧ t.Tag ≤ 1048576
instance (t : Tok) : Decidable (TokOk t) := inferInstanceAs (Decidable (_ ∧ _ ∧ _))
def tkE (t : Tok) : Int := if TokOk t then 0 else 1
def txts (l : List Cav) : List (List Int) := l.map putC
noncomputable def mtE (l : List Trm) (root key : Int) : Int := withE l (rootT key (oct root))
noncomputable def mtL (l : List Trm) (root key : Int) : List Trm := withL l (rootT key (oct root))
noncomputable def mtT (l : List Trm) (root key : Int) : Tok := if mtE l root key = 0 then ⟨root, [], withI l (rootT key (oct root))⟩ else zeroT
def BindOk (l : List Trm) (t : Tok) (c : Cav) : Prop := CavOk c ∧ TokOk t ∧ ArOk l
noncomputable instance (l : List Trm) (t : Tok) (c : Cav) : Decidable (BindOk l t c) := Classical.propDecidable _
noncomputable def bdE (l : List Trm) (t : Tok) (c : Cav) : Int := if BindOk l t c then (if t.L.length = 16 then 7 else nextE l t.Tag (putC c)) else 1
noncomputable def bdL (l : List Trm) (t : Tok) (c : Cav) : List Trm := if bdE l t c = 0 then nextL l t.Tag (putC c) else []
noncomputable def bdT (l : List Trm) (t : Tok) (c : Cav) : Tok := if bdE l t c = 0 then ⟨t.Root, t.L ++ [c], nextI l t.Tag (putC c)⟩ else zeroT
def VerOk (l : List Trm) (t : Tok) : Prop := TokOk t ∧ ArOk l
noncomputable instance (l : List Trm) (t : Tok) : Decidable (VerOk l t) := Classical.propDecidable _
noncomputable def vfE (l : List Trm) (t : Tok) : Int := if VerOk l t then 0 else 1
noncomputable def rightB (l : List Trm) (key : Int) (t : Tok) : Bool := decide (findE l key (oct t.Root) (txts t.L) = 0 ∧ findI l key (oct t.Root) (txts t.L) = t.Tag)
noncomputable def vfV (l : List Trm) (key : Int) (t : Tok) : Bool := decide (VerOk l t) && rightB l key t

theorem vf_is {l : List Trm} {key : Int} {t : Tok} : (vfE l t = 0 ∧ vfV l key t = rightB l key t ∧ VerOk l t) ∨ (vfE l t = 1 ∧ vfV l key t = false ∧ ¬ VerOk l t) := by
  unfold vfE vfV
  by_cases h : VerOk l t
  · exact .inl ⟨if_pos h, by rw [decide_eq_true h]; rfl, h⟩
  · exact .inr ⟨if_neg h, by rw [decide_eq_false h]; rfl, h⟩
theorem bd_is {l : List Trm} {t : Tok} {c : Cav} : (bdE l t c = 0 ∧ BindOk l t c ∧ t.L.length < 16 ∧ nextE l t.Tag (putC c) = 0 ∧ bdL l t c = nextL l t.Tag (putC c) ∧ bdT l t c = ⟨t.Root, t.L ++ [c], nextI l t.Tag (putC c)⟩) ∨ (bdE l t c ≠ 0 ∧ bdL l t c = [] ∧ bdT l t c = zeroT) := by
  by_cases h : bdE l t c = 0
  · refine .inl ⟨h, ?_⟩
    unfold bdE at h
    by_cases k : BindOk l t c
    · rw [if_pos k] at h
      by_cases q : t.L.length = 16
      · rw [if_pos q] at h; cases h
      · rw [if_neg q] at h
        have e : bdE l t c = 0 := by unfold bdE; rw [if_pos k, if_neg q, h]
        exact ⟨k, by have := k.2.1.1.1; omega, h, if_pos e, if_pos e⟩
    · rw [if_neg k] at h; cases h
  · exact .inr ⟨h, if_neg h, if_neg h⟩

/-! ### What was minted, and bound -/
structure Bn where
  l : List Trm
  t : Tok
  e : Int
noncomputable def stepB (s : Bn) (c : Cav) : Bn := if s.e = 0 then ⟨bdL s.l s.t c, bdT s.l s.t c, bdE s.l s.t c⟩ else s
noncomputable def bnS (l : List Trm) (root key : Int) (cs : List Cav) : Bn := cs.foldl stepB ⟨mtL l root key, mtT l root key, mtE l root key⟩
theorem bnS_snoc (l : List Trm) (root key : Int) (cs : List Cav) (c : Cav) : bnS l root key (cs ++ [c]) = stepB (bnS l root key cs) c := by simp [bnS, List.foldl_append]
theorem mkS_snoc (l : List Trm) (k : Int) (t : List Int) (ts : List (List Int)) (u : List Int) : mkS l k t (ts ++ [u]) = stepM (mkS l k t ts) u := by simp [mkS, List.foldl_append]
/-- A token that is bound is as a tag that is made. -/
theorem bn_is (l : List Trm) (root key : Int) (cs : List Cav) : (bnS l root key cs).e = 0 → (mkS l key (oct root) (txts cs)).e = 0 ∧ (bnS l root key cs).l = (mkS l key (oct root) (txts cs)).l ∧ (bnS l root key cs).t = ⟨root, cs, (mkS l key (oct root) (txts cs)).i⟩ ∧ (∀ c ∈ cs, CavOk c) ∧ cs.length ≤ 16 := by
  refine snoc_ind (p := fun cs => (bnS l root key cs).e = 0 → (mkS l key (oct root) (txts cs)).e = 0 ∧ (bnS l root key cs).l = (mkS l key (oct root) (txts cs)).l ∧ (bnS l root key cs).t = ⟨root, cs, (mkS l key (oct root) (txts cs)).i⟩ ∧ (∀ c ∈ cs, CavOk c) ∧ cs.length ≤ 16) cs ?_ ?_
  · intro h
    have h' : mtE l root key = 0 := h
    exact ⟨h', rfl, if_pos h', by simp, by simp⟩
  · intro cs c ih h
    rw [bnS_snoc] at h ⊢
    by_cases h0 : (bnS l root key cs).e = 0
    · obtain ⟨i1, i2, i3, i4, i5⟩ := ih h0
      have hs : stepB (bnS l root key cs) c = ⟨bdL (bnS l root key cs).l (bnS l root key cs).t c, bdT (bnS l root key cs).l (bnS l root key cs).t c, bdE (bnS l root key cs).l (bnS l root key cs).t c⟩ := if_pos h0
      rw [hs] at h ⊢
      simp only at h ⊢
      rcases bd_is (l := (bnS l root key cs).l) (t := (bnS l root key cs).t) (c := c) with ⟨j1, j2, j3, j4, j5, j6⟩ | ⟨j1, -, -⟩
      · rw [i2, i3] at j4 j5 j6
        rw [i3] at j3
        have hm : stepM (mkS l key (oct root) (txts cs)) (putC c) = ⟨nextL (mkS l key (oct root) (txts cs)).l (mkS l key (oct root) (txts cs)).i (putC c), nextI (mkS l key (oct root) (txts cs)).l (mkS l key (oct root) (txts cs)).i (putC c), nextE (mkS l key (oct root) (txts cs)).l (mkS l key (oct root) (txts cs)).i (putC c)⟩ := if_pos i1
        have ht : txts (cs ++ [c]) = txts cs ++ [putC c] := by simp [txts]
        rw [ht, mkS_snoc, hm, i2, i3]
        refine ⟨j4, j5, j6, fun d hd => ?_, by simp at j3 ⊢; omega⟩
        rcases List.mem_append.1 hd with hd | hd
        · exact i4 d hd
        · simp at hd; subst hd; exact j2.1
      · exact absurd h j1
    · have hs : stepB (bnS l root key cs) c = bnS l root key cs := if_neg h0
      rw [hs] at h
      exact absurd h h0

/-! ### Octets tell numbers, and caveats, apart -/
theorem oct_inj {a b : Int} (ha : 0 ≤ a ∧ a ≤ 18446744073709551615) (hb : 0 ≤ b ∧ b ≤ 18446744073709551615) (h : oct a = oct b) : a = b := by
  have h1 := (get_put ha.1 ha.2 []).2
  have h2 := (get_put hb.1 hb.2 []).2
  rw [List.append_nil] at h1 h2
  rw [← h1, ← h2, h]
theorem putC_inj {c d : Cav} (hc : CavWf c) (hd : CavWf d) (h1 : CavOk c) (h2 : CavOk d) (h : putC c = putC d) : c = d := by
  have e1 := getC_put hc h1 []
  have e2 := getC_put hd h2 []
  rw [List.append_nil] at e1 e2
  have f1 : finC c [] = (c, 0) := if_pos ⟨rfl, h1⟩
  have f2 : finC d [] = (d, 0) := if_pos ⟨rfl, h2⟩
  rw [f1] at e1
  rw [f2] at e2
  rw [h, e2] at e1
  injection e1 with e _
  exact e.symm
def CavsWf (l : List Cav) : Prop := ∀ c ∈ l, CavWf c
theorem txts_inj : ∀ {a b : List Cav}, CavsWf a → CavsWf b → (∀ c ∈ a, CavOk c) → (∀ c ∈ b, CavOk c) → txts a = txts b → a = b
  | [], [], _, _, _, _, _ => rfl
  | [], d :: b, _, _, _, _, h => by simp [txts] at h
  | c :: a, [], _, _, _, _, h => by simp [txts] at h
  | c :: a, d :: b, h1, h2, h3, h4, h => by
    simp only [txts, List.map_cons, List.cons.injEq] at h
    rw [putC_inj (h1 c (by simp)) (h2 d (by simp)) (h3 c (by simp)) (h4 d (by simp)) h.1, txts_inj (fun x hx => h1 x (by simp [hx])) (fun x hx => h2 x (by simp [hx])) (fun x hx => h3 x (by simp [hx])) (fun x hx => h4 x (by simp [hx])) h.2]

/-! ### Right by its key alone -/
/-- What is found by a key, and texts, at a tag, was made that way. -/
theorem find_tag {l : List Trm} (h : ArOk l) {k : Int} {t : List Int} {ts : List (List Int)} {i : Nat} (hi : i < l.length) (he : findE l k t ts = 0) (hf : findI l k t ts = i) : pthK l i = k ∧ pthT l i = t :: ts := by
  have hsh : shortT (t :: ts) ∧ 0 ≤ goTo l (seat l (rootT k t)) ts := by
    unfold findE at he
    rw [if_pos h] at he
    by_cases q : shortT (t :: ts)
    · rw [if_pos q] at he
      by_cases p : 0 ≤ goTo l (seat l (rootT k t)) ts
      · exact ⟨q, p⟩
      · rw [if_neg p] at he; cases he
    · rw [if_neg q] at he; cases he
  have hg : goTo l (seat l (rootT k t)) ts = i := by
    rw [findI, if_pos he] at hf
    exact hf
  clear he hf
  have key : ∀ (us : List (List Int)) (j : Int) (T : List (List Int)), (0 ≤ j → ∃ m : Nat, j = m ∧ ∃ hm : m < l.length, pthK l m = k ∧ pthT l m = T) → 0 ≤ goTo l j us → ∃ m : Nat, goTo l j us = m ∧ ∃ hm : m < l.length, pthK l m = k ∧ pthT l m = T ++ us := by
    intro us
    induction us with
    | nil =>
      intro j T hj h0
      obtain ⟨m, e, hm, a, b⟩ := hj h0
      exact ⟨m, e, hm, a, by simpa using b⟩
    | cons u us ih =>
      intro j T hj h0
      rw [goTo] at h0 ⊢
      by_cases hj0 : 0 ≤ j
      · rw [if_pos hj0] at h0 ⊢
        obtain ⟨m, rfl, hm, a, b⟩ := hj hj0
        have := ih (seat l (nextT m u)) (T ++ [u]) (fun hs => by
          rcases seat_cases (l := l) (nextT m u) with ⟨q, -⟩ | ⟨p, hp, q, r⟩
          · omega
          · have hU : l[p].Up = m := by rw [r]; rfl
            have hT : l[p].Text = u := by rw [r]; rfl
            refine ⟨p, q, hp, ?_, ?_⟩
            · rw [pthK_next h hp (by omega), hU, Int.toNat_natCast, a]
            · rw [pthT_next h hp (by omega), hU, hT, Int.toNat_natCast, b]) h0
        simpa using this
      · rw [if_neg hj0] at h0
        rw [goTo_no us (by omega)] at h0
        exact absurd h0 hj0
  obtain ⟨m, e, hm, a, b⟩ := key ts (seat l (rootT k t)) [t] (fun hs => by
    rcases seat_cases (l := l) (rootT k t) with ⟨q, -⟩ | ⟨p, hp, q, r⟩
    · omega
    · have hU : l[p].Up = -1 := by rw [r]; rfl
      exact ⟨p, q, hp, by rw [pthK_root hp (by omega), r]; rfl, by rw [pthT_root hp (by omega), r]; rfl⟩) hsh.2
  rw [hg] at e
  have : m = i := by omega
  subst this
  exact ⟨a, by simpa using b⟩
theorem right_iff {l : List Trm} (h : ArOk l) {k : Int} {t : Tok} {i : Nat} (hi : i < l.length) (ht : t.Tag = i) : rightB l k t = true ↔ pthK l i = k ∧ pthT l i = oct t.Root :: txts t.L := by
  unfold rightB
  rw [decide_eq_true_iff, ht]
  constructor
  · rintro ⟨a, b⟩
    exact find_tag h hi a b
  · rintro ⟨a, b⟩
    exact find_same h hi a b
theorem right_no {l : List Trm} {k : Int} {t : Tok} (ht : (l.length : Int) ≤ t.Tag) : rightB l k t = false := by
  unfold rightB
  rw [decide_eq_false_iff_not]
  rintro ⟨a, b⟩
  rw [findI, if_pos a] at b
  have := (goTo_bd (l := l) (txts t.L) (seat_bd (l := l) (rootT k (oct t.Root))).1 (seat_bd (l := l) (rootT k (oct t.Root))).2).2
  omega
end Go.Proofs.Ytgiapfenalhleaa
namespace Go.Proofs.Ytgiapfenalhleaa
open Go.RowKit Go.WalkArith

def fewC (l : List Cav) : Bool := decide (CapsOk l)
theorem fewC_no {l : List Cav} (h : ¬ CapsOk l) : fewC l = false := decide_eq_false h
theorem fewC_yes {l : List Cav} (h : CapsOk l) : fewC l = true := decide_eq_true h

set_option maxHeartbeats 1000000 in
theorem refFewC_any (A : Option Addr) (n c : Nat) (S : Nat → Prop) (l : List Cav) (w : World) (h : Sl lay_Caveat w S A n c l) (hS : ∀ b, S b → b < w.heap.size) :
    Calls Try.prog 48 #[.slice A n c] w fun e w' => e = .returned (.bool (fewC l)) ∧ Below w.heap.size w w' := by
  have HL := hid h.len
  have hcap := h.cap
  unfold maxLen at hcap
  go_enter Try.func48, Try.ntmps48
  go_wp2
  go_loopw [7] (fun i wr => ∃ j : Nat, j ≤ n ∧ i = .int .i64 j ∧ (l.take j).all (fun c => decide (CavOk c)) = true ∧ Below w.heap.size w wr) (fun i _ => n - (intOf i).toNat)
  case atStart => exact ⟨0, Nat.zero_le _, rfl, by simp, Below.refl _ _⟩
  case round =>
    obtain ⟨j, hj, rfl, hpre, hbel⟩ := hrel
    have HP := hid hpre
    clear hpre
    by_cases hlt : j < n
    · obtain ⟨b1, o1, hx1, rfl, hb1, t1, t2, t3, hw⟩ := cav_at h hlt
      have hb1' := hS b1 hb1
      have q1 := (hbel.cell (p := ⟨b1, o1 + j * 3, none⟩) hb1').trans t1
      have q2 := (hbel.cell (p := ⟨b1, o1 + j * 3 + 1, none⟩) hb1').trans t2
      have q3 := (hbel.cell (p := ⟨b1, o1 + j * 3 + 2, none⟩) hb1').trans t3
      have HT := hid (take_allC (p := fun c => decide (CavOk c)) hx1)
      have hba := bel_alloc hbel (Obj.cells #[.int .i64 l[j].Kind, .int .u64 l[j].A, .int .u64 l[j].B] 30)
      have HCK := hid (fun W => refCheckC_any #[.int .i64 l[j].Kind, .int .u64 l[j].A, .int .u64 l[j].B] (fun _ => True) l[j] W (rep_Caveat.2 ⟨rfl, hw⟩))
      clear t1 t2 t3
      rcases cavE_is (c := l[j]) with ⟨hE, hok⟩ | ⟨hE, hok⟩
      · rw [hE] at HCK
        have HN := hid (show (l.take (j + 1)).all (fun c => decide (CavOk c)) = true from by rw [HT.out, HP.out, decide_eq_true hok]; rfl)
        clear hE hok
        go_wp2_with fail
        refine (HCK.out _).mono ?_
        rintro e w2 ⟨rfl, hb2⟩
        go_wp2
        go_roundw
        case rel => exact ⟨j + 1, by omega, by go_num, HN.out, bel_call hba hb2⟩
        case measure => simp [intOf]; omega
      · rw [hE] at HCK
        have HN := hid (fewC_no (l := l) fun k => by have := cavsB_bad hx1 hok; rw [k.2] at this; cases this)
        clear hE hok
        go_wp2_with fail
        refine (HCK.out _).mono ?_
        rintro e w2 ⟨rfl, hb2⟩
        go_wp2
        go_ret
        exact ⟨ret_bool HN.out.symm, bel_call hba hb2⟩
    · have HTK := hid (show l.take j = l from List.take_of_length_le (by rw [HL.out]; omega))
      have HN := hid (show decide ((n : Int) ≤ 16) = fewC l from by
        have h1 := HP.out
        rw [HTK.out] at h1
        by_cases q : n ≤ 16
        · rw [decide_eq_true (by omega), fewC_yes ⟨by rw [HL.out]; exact q, h1⟩]
        · rw [decide_eq_false (by omega), fewC_no fun k => by have := k.1; rw [HL.out] at this; omega])
      go_wp2
      go_ret
      exact ⟨ret_bool HN.out, hbel⟩

set_option maxHeartbeats 1000000 in
theorem refCheckT_any (s : Array Value) (t : Tok) (w : World) (h : lay_Token.rep w (· < w.heap.size) t s.toList) :
    Calls Try.prog 22 #[.agg s] w fun e w' => e = .returned (.int .i64 (tkE t)) ∧ Below w.heap.size w w' := by
  obtain ⟨A, n, c, rfl, h1, h2, hL⟩ := agg_Token h
  clear h
  have bT := bounds_i64 h2
  have hb0 : Below w.heap.size w (w.alloc (Obj.cells #[.int .u64 t.Root, .slice A n c, .int .i64 t.Tag] 28)) := bel_alloc (Below.refl _ _) _
  have V0 := Var3.new w 28 (.int .u64 t.Root) (.slice A n c) (.int .i64 t.Tag)
  have HF := hid (refFewC_any _ _ _ _ t.L _ (Sl.call hL hb0) (fun _ h => h))
  clear hL h1 h2
  go_enter Try.func22, Try.ntmps22
  go_wp2_with fail
  refine HF.out.mono ?_
  rintro e w1 ⟨rfl, hb1⟩
  have V1 := V0.call hb1
  have k2 := V1.c2
  have HB1 := bel_call hb0 hb1
  clear hb1 hb0 V0 HF
  by_cases hc : CapsOk t.L
  rotate_left
  · rw [fewC_no hc]
    have HE := hid (show tkE t = 1 from if_neg fun k => hc k.1)
    clear hc V1
    go_wp2
    go_ret
    exact ⟨ret_num HE.out.symm, HB1⟩
  rw [fewC_yes hc]
  by_cases g1 : t.Tag < 0
  · have HE := hid (show tkE t = 1 from if_neg fun k => by have := k.2.1; omega)
    have d1 : decide (t.Tag < 0) = true := by simpa using g1
    clear hc V1
    generalize t.Tag = tg at *
    go_wp2
    go_ret
    exact ⟨ret_num HE.out.symm, HB1⟩
  have d1 : decide (t.Tag < 0) = false := by simpa using g1
  by_cases g2 : 1048576 < t.Tag
  · have HE := hid (show tkE t = 1 from if_neg fun k => by have := k.2.2; omega)
    have d2 : decide (1048576 < t.Tag) = true := by simpa using g2
    clear hc V1
    generalize t.Tag = tg at *
    go_wp2
    go_ret
    exact ⟨ret_num HE.out.symm, HB1⟩
  · have HE := hid (show tkE t = 0 from if_pos ⟨hc, by omega, by omega⟩)
    have d2 : decide (1048576 < t.Tag) = false := by simpa using g2
    clear hc V1
    generalize t.Tag = tg at *
    go_wp2
    go_ret
    exact ⟨ret_num HE.out.symm, HB1⟩

theorem drew_add (w : World) (m n : Nat) : (w.drewN m).drewN n = w.drewN (m + n) := by
  simp [World.drewN, Nat.add_assoc]
theorem take_sameV {l o : List Cav} {j : Nat} (hx : j < l.length) (hy : j < o.length) (h : l.take j = o.take j) (e : l[j] = o[j]) : l.take (j + 1) = o.take (j + 1) := by
  rw [List.take_succ_eq_append_getElem hx, List.take_succ_eq_append_getElem hy, h, e]

set_option maxRecDepth 100000 in
set_option maxHeartbeats 1000000 in
theorem refSameCavs_any (A1 A2 : Option Addr) (n1 c1 n2 c2 : Nat) (S : Nat → Prop) (l o : List Cav) (w : World) (h1 : Sl lay_Caveat w S A1 n1 c1 l) (h2 : Sl lay_Caveat w S A2 n2 c2 o) :
    Calls Try.prog 24 #[.slice A1 n1 c1, .slice A2 n2 c2] w fun e w' => e = .returned (.bool (decide (l = o))) ∧ ∃ m, w' = w.drewN m := by
  have K1 := hid h1.len
  have K2 := hid h2.len
  have k1 := h1.cap
  have k2 := h2.cap
  unfold maxLen at k1 k2
  by_cases hl : n1 = n2
  · subst hl
    have hne : ((n1 : Int) != (n1 : Int)) = false := by simp
    go_enter Try.func24, Try.ntmps24
    go_wp2
    go_loopw [13] (fun i wr => ∃ j : Nat, j ≤ n1 ∧ i = .int .i64 j ∧ l.take j = o.take j ∧ ∃ m, wr = w.drewN m) (fun i _ => n1 - (intOf i).toNat)
    case atStart => exact ⟨0, Nat.zero_le _, rfl, rfl, 0, rfl⟩
    case round =>
      obtain ⟨j, hj, rfl, hpre, m, hwr⟩ := hrel
      have HP := hid hpre
      have HW := hid hwr
      clear hpre hwr
      by_cases hlt : j < n1
      · obtain ⟨b1, o1, hx1, rfl, -, t1, t2, t3, w1⟩ := cav_at h1 hlt
        obtain ⟨b2, o2, hx2, rfl, -, u1, u2, u3, w2⟩ := cav_at h2 hlt
        have hne2 := run_neCav w1 w2
        clear w1 w2
        have q1 : wr.cell? ⟨b1, o1 + j * 3, none⟩ = some (.int .i64 l[j].Kind) := by rw [HW.out]; exact t1
        have q2 : wr.cell? ⟨b1, o1 + j * 3 + 1, none⟩ = some (.int .u64 l[j].A) := by rw [HW.out]; exact t2
        have q3 : wr.cell? ⟨b1, o1 + j * 3 + 2, none⟩ = some (.int .u64 l[j].B) := by rw [HW.out]; exact t3
        have p1 : wr.cell? ⟨b2, o2 + j * 3, none⟩ = some (.int .i64 o[j].Kind) := by rw [HW.out]; exact u1
        have p2 : wr.cell? ⟨b2, o2 + j * 3 + 1, none⟩ = some (.int .u64 o[j].A) := by rw [HW.out]; exact u2
        have p3 : wr.cell? ⟨b2, o2 + j * 3 + 2, none⟩ = some (.int .u64 o[j].B) := by rw [HW.out]; exact u3
        clear t1 t2 t3 u1 u2 u3
        by_cases he : l[j] = o[j]
        · have HN := hid (take_sameV hx1 hx2 HP.out he)
          rw [decide_eq_true he] at hne2
          clear he
          go_wp2_with fail
          go_quiet (fail)
          go_wp2
          go_roundw
          case rel => exact ⟨j + 1, by omega, by go_num, HN.out, m + _, by rw [HW.out]; exact drew_add w m _⟩
          case measure => simp [intOf]; omega
        · have HN := hid (show decide (l = o) = false from decide_eq_false fun e => he (by simp only [e]))
          rw [decide_eq_false he] at hne2
          clear he
          go_wp2_with fail
          go_quiet (fail)
          go_wp2
          go_ret
          exact ⟨ret_bool HN.out.symm, m + _, by rw [HW.out]; exact drew_add w m _⟩
      · have HN := hid (show decide (l = o) = true from by
          have := HP.out
          rw [List.take_of_length_le (by rw [K1.out]; omega), List.take_of_length_le (by rw [K2.out]; omega)] at this
          exact decide_eq_true this)
        go_wp2
        go_ret
        exact ⟨ret_bool HN.out.symm, m, HW.out⟩
  · have hne : ((n1 : Int) != (n2 : Int)) = true := by simp; omega
    have HN := hid (show decide (l = o) = false from decide_eq_false fun e => by rw [e] at K1; have a1 := K1.out; have a2 := K2.out; omega)
    go_enter Try.func24, Try.ntmps24
    go_wp2
    go_ret
    exact ⟨ret_bool HN.out.symm, 0, rfl⟩
end Go.Proofs.Ytgiapfenalhleaa
namespace Go.Proofs.Ytgiapfenalhleaa
open Go.RowKit Go.WalkArith

set_option maxHeartbeats 400000 in
theorem sameBytes_any (A1 A2 : Option Addr) (n1 c1 n2 c2 B1 B2 : Nat) (xs ys : List Int) (w : World) (h1 : Rd w B1 .u8 A1 n1 c1 xs) (h2 : Rd w B2 .u8 A2 n2 c2 ys) :
    Calls Try.prog 29 #[.slice A1 n1 c1, .slice A2 n2 c2] w fun e w' => e = .returned (.bool (decide (xs = ys))) ∧ w = w' := by
  have k1 := h1.str (P := Try.prog) Try.underlying46 Try.underlying5 Try.underlying9
  have k2 := h2.str (P := Try.prog) Try.underlying46 Try.underlying5 Try.underlying9
  go_enter Try.func29, Try.ntmps29
  go_wp2
  go_ret
  exact ⟨ret_bool (str_eq (wf_bytes h1.wf) (wf_bytes h2.wf)), rfl⟩
theorem take_same {xs ys : List Int} {j : Nat} (hx : j < xs.length) (hy : j < ys.length) (h : xs.take j = ys.take j) (e : nth xs j = nth ys j) : xs.take (j + 1) = ys.take (j + 1) := by
  rw [List.take_succ_eq_append_getElem hx, List.take_succ_eq_append_getElem hy, h, ← nth_get hx, ← nth_get hy, e]

end Go.Proofs.Ytgiapfenalhleaa
