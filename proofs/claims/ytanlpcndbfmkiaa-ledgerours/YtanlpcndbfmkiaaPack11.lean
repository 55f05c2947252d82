/-
  The words of what package ledger answers; the laws' own 'live' of layer 10 over them.
  The contract of the document's Few of layer 10, and the walk of LedgerOurs.
  The contracts of package money's small functions.
-/
import Derived.Test.YtanlpcndbfmkiaaPack1
import Derived.Test.YtanlpcndbfmkiaaPack2
import Derived.Test.YtanlpcndbfmkiaaPack3
import Derived.Test.YtanlpcndbfmkiaaPack4
import Derived.Test.YtanlpcndbfmkiaaPack5
import Derived.Test.YtanlpcndbfmkiaaPack6
import Derived.Test.YtanlpcndbfmkiaaPack7
import Derived.Test.YtanlpcndbfmkiaaPack8
import Derived.Test.YtanlpcndbfmkiaaPack9
import Derived.Test.YtanlpcndbfmkiaaPack10
namespace Go.Proofs.Ytanlpcndbfmkiaa
open Go.RowKit Go.WalkArith

/-- What package ledger answers. -/
structure LedgerSpec : Prop where
  check : ∀ (A : Option Addr) (n k : Nat) (l : List Chn) (w : World), Sl lay_Channel w (· < w.heap.size) A n k l →
    Calls Try.prog 30 #[.slice A n k] w fun e w' => e = .returned (.int .i64 (lgE l)) ∧ Below w.heap.size w w'
  same : ∀ (A A' : Option Addr) (n k n' k' : Nat) (l o : List Chn) (w : World), Sl lay_Channel w (· < w.heap.size) A n k l → Sl lay_Channel w (· < w.heap.size) A' n' k' o →
    Calls Try.prog 32 #[.slice A n k, .slice A' n' k'] w fun e w' => e = .returned (.bool (decide (l = o))) ∧ Below w.heap.size w w'
  get : ∀ (A : Option Addr) (n k : Nat) (l : List Chn) (id : Int) (w : World), Sl lay_Channel w (· < w.heap.size) A n k l → (Lit.int .u64 id).wf = true →
    Calls Try.prog 23 #[.slice A n k, .int .u64 id] w fun e w' => ∃ v, e = .returned (.tuple #[v, .int .i64 (gtE l id)]) ∧ OwnC w' w.heap.size v (gtC l id) ∧ Below w.heap.size w w'
  where_ : ∀ (A : Option Addr) (n k : Nat) (l : List Chn) (hold : Int) (w : World), Sl lay_Channel w (· < w.heap.size) A n k l → (Lit.int .u64 hold).wf = true →
    Calls Try.prog 25 #[.slice A n k, .int .u64 hold] w fun e w' => e = .returned (.tuple #[.int .u64 (whV l hold), .int .i64 (whE l hold)]) ∧ Below w.heap.size w w'
  ours : ∀ (A : Option Addr) (n k : Nat) (l : List Chn) (w : World), Sl lay_Channel w (· < w.heap.size) A n k l →
    Calls Try.prog 27 #[.slice A n k] w fun e w' => e = .returned (.tuple #[.int .u64 (oursN l), .int .u64 (oursH l), .int .i64 (lgE l)]) ∧ Below w.heap.size w w'
  open_ : ∀ (A : Option Addr) (n k : Nat) (l : List Chn) (s : Array Value) (c : Chn) (w : World), Sl lay_Channel w (· < w.heap.size) A n k l → lay_Channel.rep w (· < w.heap.size) c s.toList →
    Calls Try.prog 12 #[.slice A n k, .agg s] w fun e w' => ∃ v, e = .returned (.tuple #[v, .int .i64 (opE l c)]) ∧ OwnL lay_Channel w' w.heap.size (some w.heap.size) 26 v (opL l c) ∧ Below w.heap.size w w'
  close : ∀ (A : Option Addr) (n k : Nat) (l : List Chn) (id : Int) (w : World), Sl lay_Channel w (· < w.heap.size) A n k l → (Lit.int .u64 id).wf = true →
    Calls Try.prog 14 #[.slice A n k, .int .u64 id] w fun e w' => ∃ v, e = .returned (.tuple #[v, .int .i64 (lclE l id)]) ∧ OwnL lay_Channel w' w.heap.size (some w.heap.size) 26 v (lclL l id) ∧ Below w.heap.size w w'
  push : ∀ (A : Option Addr) (n k : Nat) (l : List Chn) (id m : Int) (w : World), Sl lay_Channel w (· < w.heap.size) A n k l → (Lit.int .u64 id).wf = true → (Lit.int .u64 m).wf = true →
    Calls Try.prog 16 #[.slice A n k, .int .u64 id, .int .u64 m] w fun e w' => ∃ v, e = .returned (.tuple #[v, .int .i64 (lpuE l id m)]) ∧ OwnL lay_Channel w' w.heap.size (some w.heap.size) 26 v (lpuL l id m) ∧ Below w.heap.size w w'
  hold : ∀ (A : Option Addr) (n k : Nat) (l : List Chn) (id hold m : Int) (w : World), Sl lay_Channel w (· < w.heap.size) A n k l → (Lit.int .u64 id).wf = true → (Lit.int .u64 hold).wf = true → (Lit.int .u64 m).wf = true →
    Calls Try.prog 18 #[.slice A n k, .int .u64 id, .int .u64 hold, .int .u64 m] w fun e w' => ∃ v, e = .returned (.tuple #[v, .int .i64 (lhoE l id hold m)]) ∧ OwnL lay_Channel w' w.heap.size (some w.heap.size) 26 v (lhoL l id hold m) ∧ Below w.heap.size w w'
  end_ : ∀ (A : Option Addr) (n k : Nat) (l : List Chn) (hold : Int) (paid : Bool) (w : World), Sl lay_Channel w (· < w.heap.size) A n k l → (Lit.int .u64 hold).wf = true →
    Calls Try.prog 20 #[.slice A n k, .int .u64 hold, .bool paid] w fun e w' => ∃ v, e = .returned (.tuple #[v, .int .u64 (enN l hold), .int .i64 (whE l hold)]) ∧ OwnL lay_Channel w' w.heap.size (some w.heap.size) 26 v (enL l hold paid) ∧ Below w.heap.size w w'
/-- What package channel answers of all, and whether two are the same (the laws of layer 10 ask it, too). -/
structure ChanTwo : Prop where
  same : ∀ (s t : Array Value) (c o : Chn) (w : World), lay_Channel.rep w (· < w.heap.size) c s.toList → lay_Channel.rep w (· < w.heap.size) o t.toList →
    Calls Try.prog 34 #[.agg s, .agg t] w fun e w' => e = .returned (.bool (decide (c = o))) ∧ Below w.heap.size w w'
  all : ∀ (s : Array Value) (c : Chn) (w : World), lay_Channel.rep w (· < w.heap.size) c s.toList →
    Calls Try.prog 42 #[.agg s] w fun e w' => e = .returned (.tuple #[.int .u64 (aaV c), .int .i64 (chE c)]) ∧ Below w.heap.size w w'

theorem size_lay_Channel : lay_Channel.size = 7 := rfl
/-- The j-th channel's cells. -/
theorem chn_at {w : World} {S : Nat → Prop} {A : Option Addr} {n c : Nat} {l : List Chn} (h : Sl lay_Channel w S A n c l) {j : Nat} (hj : j < n) :
    ∃ b off A' n' c', ∃ hx : j < l.length, A = some ⟨b, off, none⟩ ∧ S b ∧ w.cell? ⟨b, off + j * 7, none⟩ = some (.int .u64 l[j].Id) ∧ w.cell? ⟨b, off + j * 7 + 1, none⟩ = some (.int .u64 l[j].Local) ∧ w.cell? ⟨b, off + j * 7 + 2, none⟩ = some (.int .u64 l[j].Remote) ∧ w.cell? ⟨b, off + j * 7 + 3, none⟩ = some (.int .u64 l[j].Reserve) ∧ w.cell? ⟨b, off + j * 7 + 4, none⟩ = some (.int .u64 l[j].Most) ∧ w.cell? ⟨b, off + j * 7 + 5, none⟩ = some (.slice A' n' c') ∧ w.cell? ⟨b, off + j * 7 + 6, none⟩ = some (.bool l[j].Open) ∧ ChnWf l[j] ∧ Sl lay_Hold w S A' n' c' l[j].Holds := by
  obtain ⟨b, off, cs, hx, rfl, hb, hr, hc⟩ := h.at_ hj
  obtain ⟨A', n', c', rfl, hw, hs⟩ := rep_Channel.1 hr
  exact ⟨b, off, A', n', c', hx, rfl, hb, hc 0 _ rfl, hc 1 _ rfl, hc 2 _ rfl, hc 3 _ rfl, hc 4 _ rfl, hc 5 _ rfl, hc 6 _ rfl, hw, hs⟩
theorem sl_chns {w : World} {S : Nat → Prop} {A : Option Addr} {n c : Nat} {l : List Chn} (h : Sl lay_Channel w S A n c l) : ChnsWf l := fun x hx => by
  obtain ⟨j, hj, rfl⟩ := List.getElem_of_mem hx
  have hl := h.len
  obtain ⟨b, off, A', n', c', hx1, -, -, -, -, -, -, -, -, -, hw, hs⟩ := chn_at h (j := j) (by omega)
  exact ⟨hw, sl_hlds hs⟩

/-! ### The chapter's example -/
def egL (i : Int) : Chn := ⟨i, 10, 0, 0, 10, [], true⟩
theorem egL_ok (i : Int) : ChOk (egL i) := ⟨by show (0 : Int) ≤ mMax; decide, by show (10 : Int) ≤ mMax; decide, by simp [egL], by simp [egL], by simp [egL], List.Pairwise.nil, by simp [egL, numsH, allLe], by simp [egL, heldN, numsH, sumM], by show (10 : Int) ≤ mMax; decide, by show (0 : Int) ≤ mMax; decide, by simp [egL, heldN, numsH, sumM, mMax]⟩
theorem egL_all (i : Int) : aaV (egL i) = 10 := by
  unfold aaV
  rw [if_pos (egL_ok i)]
  simp [egL, heldN, numsH, sumM]
theorem eg_none : LgOk [] := ⟨by simp, by simp, List.Pairwise.nil, List.Pairwise.nil, by simp [sumC, sumM, mMax]⟩
theorem eg_one : opE [] (egL 1) = 0 ∧ opL [] (egL 1) = [egL 1] := by
  have hw : withC [] (egL 1) = [egL 1] := rfl
  have e : opE [] (egL 1) = 0 := by
    unfold opE
    rw [if_pos ⟨eg_none, egL_ok 1, rfl, rfl⟩, if_neg (by decide), if_neg (by simp), if_neg (by rw [hw]; simp [sumC, sumM, egL_all, mMax])]
  exact ⟨e, by unfold opL; rw [if_pos e, hw]⟩
theorem eg_two : opE [egL 1] (egL 2) = 0 ∧ opL [egL 1] (egL 2) = [egL 1, egL 2] := by
  have hw : withC [egL 1] (egL 2) = [egL 1, egL 2] := by decide
  have g : LgOk [egL 1] := by
    have := (op_is eg_one.1).2.2.2.2.2.2.2.2
    rwa [show withC [] (egL 1) = [egL 1] from rfl] at this
  have e : opE [egL 1] (egL 2) = 0 := by
    unfold opE
    rw [if_pos ⟨g, egL_ok 2, rfl, rfl⟩, if_neg (by decide), if_neg (by simp), if_neg (by rw [hw]; simp [sumC, sumM, egL_all, mMax])]
  exact ⟨e, by unfold opL; rw [if_pos e, hw]⟩
theorem eg_wf : ChnsWf [egL 1, egL 2] := fun c hc => by
  have h1 : ChnWf (egL 1) := ⟨by decide, by decide, by decide, by decide, by decide⟩
  have h2 : ChnWf (egL 2) := ⟨by decide, by decide, by decide, by decide, by decide⟩
  simp only [List.mem_cons, List.not_mem_nil, or_false] at hc
  rcases hc with rfl | rfl
  · exact ⟨h1, fun x hx => by simp [egL] at hx⟩
  · exact ⟨h2, fun x hx => by simp [egL] at hx⟩
theorem eg_hold : lhoE [egL 1, egL 2] 1 7 3 = 0 ∧ lhoE (lhoL [egL 1, egL 2] 1 7 3) 2 7 3 = 6 := by
  have g : LgOk [egL 1, egL 2] := by
    have := (op_is eg_two.1).2.2.2.2.2.2.2.2
    rwa [show withC [egL 1] (egL 2) = [egL 1, egL 2] from by decide] at this
  have g1 := gt_of g (c := egL 1) (by simp)
  have g2 := gt_of g (c := egL 2) (by simp)
  have i1 : (egL 1).Id = 1 := rfl
  have i2 : (egL 2).Id = 2 := rfl
  rw [i1] at g1
  rw [i2] at g2
  have hh : hoE (egL 1) 7 3 = 0 := by
    unfold hoE
    rw [if_pos ⟨egL_ok 1, by decide, by decide⟩, if_neg (by decide), if_neg (by decide), if_neg (by decide), if_neg (by decide), if_neg (by decide)]
  have e : lhoE [egL 1, egL 2] 1 7 3 = 0 := by
    unfold lhoE oneE
    rw [if_neg (fun k => k g1.1), g1.2]
    unfold lhE
    rw [if_neg (by decide)]
    exact hh
  refine ⟨e, ?_⟩
  obtain ⟨-, -, -, -, -, -, q⟩ := one_law eg_wf (by decide) (by decide) e
  rcases q 2 with q | ⟨q, -⟩
  · exact q
  · rw [g2.1] at q; cases q

set_option maxRecDepth 100000 in
set_option maxHeartbeats 1000000 in
theorem live10_any (HL : LedgerSpec) (w : World) : Calls Try.prog 9 #[] w fun e w' => e = .returned (.bool true) ∧ Below w.heap.size w w' := by
  have h1 : ChnWf (egL 1) := ⟨by decide, by decide, by decide, by decide, by decide⟩
  have h2 : ChnWf (egL 2) := ⟨by decide, by decide, by decide, by decide, by decide⟩
  have P1 := hid (fun (W : World) => (show lay_Channel.rep W (· < W.heap.size) (egL 1) #[.int .u64 1, .int .u64 10, .int .u64 0, .int .u64 0, .int .u64 10, .slice none 0 0, .bool true].toList from rep_Channel.2 ⟨none, 0, 0, rfl, h1, Sl.nil _ _ _⟩))
  have P2 := hid (fun (W : World) => (show lay_Channel.rep W (· < W.heap.size) (egL 2) #[.int .u64 2, .int .u64 10, .int .u64 0, .int .u64 0, .int .u64 10, .slice none 0 0, .bool true].toList from rep_Channel.2 ⟨none, 0, 0, rfl, h2, Sl.nil _ _ _⟩))
  obtain ⟨a1, a2⟩ := eg_one
  obtain ⟨a3, a4⟩ := eg_two
  obtain ⟨a5, a6⟩ := eg_hold
  have H1 := hid (HL.open_ none 0 0 [] _ (egL 1) w (Sl.nil _ _ _) (P1.out w))
  rw [a1, a2] at H1
  have E3 := hid (And.intro a3 a4)
  have E5 := hid (And.intro a5 a6)
  clear a1 a2 a3 a4 a5 a6
  go_enter Try.func9, Try.ntmps9
  go_wp2_with fail
  refine H1.out.mono ?_
  rintro e w1 ⟨v1, rfl, ho1, hb1⟩
  obtain ⟨A1, n1, c1, rfl, hs1⟩ := ho1.read
  go_wp2_with fail
  refine (HL.open_ A1 n1 c1 [egL 1] _ (egL 2) w1 hs1 (P2.out w1)).mono ?_
  rw [E3.out.1, E3.out.2]
  rintro e w2 ⟨v2, rfl, ho2, hb2⟩
  obtain ⟨A2, n2, c2, rfl, hs2⟩ := ho2.read
  go_wp2_with fail
  refine (HL.hold A2 n2 c2 [egL 1, egL 2] 1 7 3 w2 hs2 (by decide) (by decide) (by decide)).mono ?_
  rw [E5.out.1]
  rintro e w3 ⟨v3, rfl, ho3, hb3⟩
  obtain ⟨A3, n3, c3, rfl, hs3⟩ := ho3.read
  go_wp2_with fail
  refine (HL.hold A3 n3 c3 (lhoL [egL 1, egL 2] 1 7 3) 2 7 3 w3 hs3 (by decide) (by decide) (by decide)).mono ?_
  rw [E5.out.2]
  rintro e w4 ⟨v4, rfl, ho4, hb4⟩
  have HB := bel_call (bel_call (bel_call hb1 hb2) hb3) hb4
  clear ho1 ho2 ho3 ho4 hb1 hb2 hb3 hb4 hs1 hs2 hs3
  go_wp2
  go_ret
  exact ⟨rfl, HB⟩
end Go.Proofs.Ytanlpcndbfmkiaa
namespace Go.Proofs.Ytanlpcndbfmkiaa
open Go.RowKit Go.WalkArith

def fewL (l : List Chn) : Bool := decide ((∀ c ∈ l, c.Holds.length ≤ 20) ∧ l.length ≤ 34)

set_option maxRecDepth 100000 in
set_option maxHeartbeats 2000000 in
theorem refFew10_any (A : Option Addr) (n k : Nat) (l : List Chn) (w : World) (h : Sl lay_Channel w (· < w.heap.size) A n k l) :
    Calls Try.prog 10 #[.slice A n k] w fun e w' => e = .returned (.bool (fewL l)) ∧ Below w.heap.size w w' := by
  have HL := hid h.len
  have hcap := h.cap
  unfold maxLen at hcap
  go_enter Try.func10, Try.ntmps10
  go_wp2
  go_loopw [7] (fun i wr => ∃ j : Nat, j ≤ n ∧ i = .int .i64 j ∧ Hid (∀ c ∈ l.take j, c.Holds.length ≤ 20) ∧ Below w.heap.size w wr) (fun i _ => n - (intOf i).toNat)
  case atStart => exact ⟨0, Nat.zero_le _, rfl, hid (fun c hc => by simp at hc), Below.refl _ _⟩
  case round =>
  obtain ⟨j, hj, rfl, HP, hbel⟩ := hrel
  by_cases hlt : j < n
  · obtain ⟨b1, o1, A', n', c', hx1, rfl, hb1, t0, t1, t2, t3, t4, t5, t6, hw, hs⟩ := chn_at (Sl.call h hbel) hlt
    have hn := hs.len
    have hba := bel_alloc hbel (Obj.cells #[.int .u64 l[j].Id, .int .u64 l[j].Local, .int .u64 l[j].Remote, .int .u64 l[j].Reserve, .int .u64 l[j].Most, .slice A' n' c', .bool l[j].Open] 26)
    clear hs
    by_cases he : 20 < n'
    · have d1 : decide ((20 : Int) < (n' : Int)) = true := by simp; omega
      have HE := hid (show fewL l = false from decide_eq_false fun q => by have := q.1 l[j] (List.getElem_mem hx1); omega)
      clear he hn
      go_wp2
      go_ret
      exact ⟨ret_bool HE.out.symm, hba⟩
    · have d1 : decide ((20 : Int) < (n' : Int)) = false := by simp; omega
      have HN := hid (show ∀ c ∈ l.take (j + 1), c.Holds.length ≤ 20 from fun c hc => by
        rw [List.take_succ_eq_append_getElem hx1, List.mem_append, List.mem_singleton] at hc
        rcases hc with hc | rfl
        · exact HP.out c hc
        · omega)
      clear he hn
      go_wp2
      go_roundw
      case rel => exact ⟨j + 1, by omega, by go_num, HN, hba⟩
      case measure => simp [intOf]; omega
  · have HT := hid (show l.take j = l from List.take_of_length_le (by rw [HL.out]; omega))
    have HE := hid (show fewL l = decide ((n : Int) ≤ 34) from by
      unfold fewL
      have := HP.out
      rw [HT.out] at this
      by_cases q : n ≤ 34
      · rw [decide_eq_true (by exact ⟨this, by rw [HL.out]; exact q⟩), decide_eq_true (by omega)]
      · rw [decide_eq_false (fun k => q (by rw [← HL.out]; exact k.2)), decide_eq_false (by omega)])
    go_wp2
    go_ret
    exact ⟨ret_bool HE.out.symm, hbel⟩

theorem lho_nil {l : List Chn} {id hold n : Int} (h : lgE l ≠ 0 ∨ lhoE l id hold n ≠ 0) : lhoL l id hold n = [] := by
  refine one_no ?_
  rcases h with h | h
  · have g : ¬ LgOk l := fun k => h (if_pos k)
    have e : gtE l id = 1 := if_neg g
    unfold oneE
    rw [if_pos (by rw [e]; decide), e]
    decide
  · exact h

set_option maxRecDepth 100000 in
set_option maxHeartbeats 4000000 in
theorem ledgerOurs_walkH (HG : LedgerSpec) (A0 : Option Addr) (n0 c0 : Nat) (x0 : List Chn) (a1 a2 a3 : Int) (w : World) (r0 : Sl lay_Channel w (· < w.heap.size) A0 n0 c0 x0) (b1 : 0 ≤ a1 ∧ a1 ≤ 18446744073709551615) (b2 : 0 ≤ a2 ∧ a2 ≤ 18446744073709551615) (b3 : 0 ≤ a3 ∧ a3 ≤ 18446744073709551615) :
    Calls Try.prog 7 #[.slice A0 n0 c0, .int .u64 a1, .int .u64 a2, .int .u64 a3] w fun e w' => e = .returned (.bool true) ∧ Below w.heap.size w w' := by
  have V1 := wf_u64 b1
  have V2 := wf_u64 b2
  have V3 := wf_u64 b3
  have hw0 := sl_chns r0
  have K0 := hid (fun (W : World) (h : Below w.heap.size w W) => Sl.call r0 h)
  clear r0
  go_enter Try.func7, Try.ntmps7
  go_wp2_with fail
  refine (live10_any HG _).mono ?_
  rintro e w1 ⟨rfl, HB⟩
  go_wp2_with fail
  refine (refFew10_any _ _ _ x0 _ (K0.out _ HB)).mono ?_
  rintro e w2 ⟨rfl, hb⟩
  replace HB := bel_call HB hb
  clear hb
  cases hfew : fewL x0
  · go_wp2
    go_ret
    exact ⟨rfl, HB⟩
  clear hfew
  obtain ⟨ge, hge⟩ : ∃ z, lgE x0 = z := ⟨_, rfl⟩
  obtain ⟨on, hon⟩ : ∃ z, oursN x0 = z := ⟨_, rfl⟩
  obtain ⟨oh, hoh⟩ : ∃ z, oursH x0 = z := ⟨_, rfl⟩
  obtain ⟨fe, hfe⟩ : ∃ z, lhoE x0 a1 a2 a3 = z := ⟨_, rfl⟩
  obtain ⟨m, hm⟩ : ∃ z, lhoL x0 a1 a2 a3 = z := ⟨_, rfl⟩
  have QG := hid hge
  have QN := hid hon
  have QH := hid hoh
  have QE := hid hfe
  have QM := hid hm
  clear hge hon hoh hfe hm
  go_wp2_with fail
  refine (HG.ours _ _ _ x0 _ (K0.out _ HB)).mono ?_
  rw [QG.out, QN.out, QH.out]
  rintro e w3 ⟨rfl, hb⟩
  replace HB := bel_call HB hb
  clear hb
  go_wp2_with fail
  refine (HG.hold _ _ _ x0 a1 a2 a3 _ (K0.out _ HB) V1 V2 V3).mono ?_
  rw [QE.out, QM.out]
  rintro e w4 ⟨v4, rfl, ho4, hb⟩
  obtain ⟨A4, n4, c4, rfl, hs4⟩ := ho4.read
  replace HB := bel_call HB hb
  clear hb ho4
  by_cases g1 : ge = 0
  rotate_left
  · have d1 : (ge != 0) = true := by simpa using g1
    have hn4 : n4 = 0 := by rw [← hs4.len, ← QM.out, lho_nil (.inl (by rw [QG.out]; exact g1))]; rfl
    subst hn4
    clear g1 hs4
    go_wp2
    go_ret
    exact ⟨rfl, HB⟩
  subst g1
  by_cases g2 : fe = 0
  rotate_left
  · have d1 : (fe != 0) = true := by simpa using g2
    have hn4 : n4 = 0 := by rw [← hs4.len, ← QM.out, lho_nil (.inr (by rw [QE.out]; exact g2))]; rfl
    subst hn4
    clear g2 hs4
    go_wp2
    go_ret
    exact ⟨rfl, HB⟩
  subst g2
  obtain ⟨k0, -, -, -, -, -, k1, -, -, w1', -⟩ := lho_ok hw0 b3.1 QE.out
  obtain ⟨u1, u2, u3, u4, u5⟩ := ours_law hw0 b3.1 V2 QE.out
  obtain ⟨-, -, -, -, v5, v6, -⟩ := one_law hw0 b3.1 V2 QE.out
  rw [QM.out] at k1 w1' u1 u2 u3 u4 u5 v5 v6
  have on1 : on = ourS x0 := by rw [← QN.out]; exact if_pos k0
  have oh1 : oh = heldS x0 := by rw [← QH.out]; exact if_pos k0
  obtain ⟨bd1, bd2, bd3⟩ := ours_bd k0 hw0
  obtain ⟨bd4, bd5, bd6⟩ := ours_bd k1 (sl_chns hs4)
  have hmx : mMax = 4611686018427387904 := rfl
  obtain ⟨p, hp⟩ : ∃ z, enL m a2 true = z := ⟨_, rfl⟩
  rw [hp] at u3 u4 u5
  have QP := hid hp
  clear hp
  have R1 := hid (show lgE m = 0 ∧ oursN m = on - a3 ∧ oursH m = oh + a3 from ⟨if_pos k1, by rw [on1, ← u1]; exact if_pos k1, by rw [oh1, ← u2]; exact if_pos k1⟩)
  have R2 := hid (show lgE p = 0 ∧ oursN p = on - a3 ∧ oursH p = oh from ⟨if_pos u3, by rw [on1, ← u4]; exact if_pos u3, by rw [oh1, ← u5]; exact if_pos u3⟩)
  have R3 := hid (show whE m a2 = 0 ∧ enN m a2 = a3 ∧ enL m a2 false = x0 from ⟨w1', v5, v6⟩)
  have w1e : IntKind.u64.wrap (on - a3) = on - a3 := IntWalk.u64_in _ (by rw [on1]; omega)
  have w2e : IntKind.u64.wrap (oh + a3) = oh + a3 := IntWalk.u64_in _ (by rw [oh1]; omega)
  have t1 : (a3 == a3) = true := by simp
  have t2 : (on - a3 == on - a3) = true := by simp
  have t3 : (oh + a3 == oh + a3) = true := by simp
  have t4 : (on == on) = true := by simp
  have t5 : (oh == oh) = true := by simp
  clear u1 u2 u3 u4 u5 v5 v6 k0 k1 w1' on1 oh1 bd1 bd2 bd3 bd4 bd5 bd6 hmx
  have HM := Below.refl w4.heap.size w4
  go_wp2_with fail
  refine (HG.ours _ _ _ m _ (Sl.call hs4 HM)).mono ?_
  rw [R1.out.1, R1.out.2.1, R1.out.2.2]
  rintro e w5 ⟨rfl, hb⟩
  replace HB := bel_call HB hb
  replace HM := bel_call HM hb
  clear hb
  go_wp2_with fail
  refine (HG.end_ _ _ _ m a2 false _ (Sl.call hs4 HM) V2).mono ?_
  rw [R3.out.1, R3.out.2.1, R3.out.2.2]
  rintro e w6 ⟨v6, rfl, ho6, hb⟩
  obtain ⟨A6, n6, c6, rfl, hs6⟩ := ho6.read
  replace HB := bel_call HB hb
  replace HM := bel_call HM hb
  have HX := Below.refl w6.heap.size w6
  clear hb ho6
  go_wp2_with fail
  refine (HG.end_ _ _ _ m a2 true _ (Sl.call hs4 HM) V2).mono ?_
  rw [R3.out.1, R3.out.2.1, QP.out]
  rintro e w7 ⟨v7, rfl, ho7, hb⟩
  obtain ⟨A7, n7, c7, rfl, hs7⟩ := ho7.read
  replace HB := bel_call HB hb
  replace HX := bel_call HX hb
  have HY := Below.refl w7.heap.size w7
  clear hb ho7
  go_wp2_with fail
  refine (HG.ours _ _ _ x0 _ (Sl.call hs6 HX)).mono ?_
  rw [QG.out, QN.out, QH.out]
  rintro e w8 ⟨rfl, hb⟩
  replace HB := bel_call HB hb
  replace HY := bel_call HY hb
  clear hb
  go_wp2_with fail
  refine (HG.ours _ _ _ p _ (Sl.call hs7 HY)).mono ?_
  rw [R2.out.1, R2.out.2.1, R2.out.2.2]
  rintro e w9 ⟨rfl, hb⟩
  replace HB := bel_call HB hb
  clear hb HX HY HM hs4 hs6 hs7
  go_wp2
  go_ret
  exact ⟨rfl, HB⟩
end Go.Proofs.Ytanlpcndbfmkiaa
namespace Go.Proofs.Ytanlpcndbfmkiaa
open Go.RowKit Go.WalkArith

theorem above1_any (x m : Int) (b : Nat) (w : World) (hc : w.cell? ⟨b, 0, none⟩ = some (.int .u64 m)) :
    Calls Try.prog 98 #[.int .u64 x, .pointer (some ⟨b, 0, none⟩)] w fun e w' => e = .returned (.bool (decide (m < x))) ∧ w = w' := by
  go_enter Try.func98, Try.ntmps98
  go_wp2
  go_ret
  exact ⟨rfl, rfl⟩

set_option maxHeartbeats 1000000 in
theorem indexAbove_any (A : Option Addr) (n c B : Nat) (xs : List Int) (m : Int) (b : Nat) (w : World) (hr : Rd w B .u64 A n c xs) (hc : w.cell? ⟨b, 0, none⟩ = some (.int .u64 m)) :
    Calls Try.prog 99 #[.slice A n c, .func (.func 98) #[] #[.pointer (some ⟨b, 0, none⟩)]] w fun e w' => ∃ r : Int, e = .returned (.int .i64 r) ∧ decide (0 ≤ r) = !(allLe m xs) ∧ w = w' := by
  have hcap := hr.cap
  unfold maxLen at hcap
  have HL := hid hr.len
  go_enter Try.func99, Try.ntmps99
  go_wp2
  go_loop [8] (fun i => ∃ j : Nat, j ≤ n ∧ i = .int .i64 j ∧ allLe m (xs.take j) = true) (fun i => n - (intOf i).toNat)
  case atStart => exact ⟨0, Nat.zero_le _, rfl, rfl⟩
  case round =>
    obtain ⟨j, hj, rfl, hpre⟩ := hrel
    have HP := hid hpre
    clear hpre
    by_cases hlt : j < n
    · obtain ⟨b1, o1, rfl, hb1, hc1⟩ := hr.at_ (by omega)
      have q1 := hc1 j hlt
      clear hc1
      by_cases he : m < nth xs j
      · have HN := hid (allLe_bad (by rw [HL.out]; exact hlt) he)
        have hd : decide (m < nth xs j) = true := decide_eq_true he
        clear he
        generalize nth xs j = x at *
        go_wp2_with (go_at_call 98; go_must (refine (above1_any x m b _ hc).mono ?_; rintro e w' ⟨rfl, rfl⟩))
        go_ret
        exact ⟨_, rfl, by rw [HN.out]; simp, rfl⟩
      · have HN := hid (allLe_take (by rw [HL.out]; exact hlt) HP.out (by omega : nth xs j ≤ m))
        have hd : decide (m < nth xs j) = false := decide_eq_false he
        clear he
        generalize nth xs j = x at *
        go_wp2_with (go_at_call 98; go_must (refine (above1_any x m b _ hc).mono ?_; rintro e w' ⟨rfl, rfl⟩))
        go_round
        case rel => exact ⟨j + 1, by omega, by go_num, HN.out⟩
        case measure => simp [intOf]; omega
    · have HN := hid (allLe_all (by rw [HL.out]; omega) HP.out)
      go_wp2
      go_ret
      exact ⟨_, rfl, by rw [HN.out]; simp, rfl⟩

set_option maxHeartbeats 1000000 in
theorem containsAbove_any (A : Option Addr) (n c B : Nat) (xs : List Int) (m : Int) (b : Nat) (w : World) (hr : Rd w B .u64 A n c xs) (hc : w.cell? ⟨b, 0, none⟩ = some (.int .u64 m)) :
    Calls Try.prog 97 #[.slice A n c, .func (.func 98) #[] #[.pointer (some ⟨b, 0, none⟩)]] w fun e w' => e = .returned (.bool (!(allLe m xs))) ∧ w = w' := by
  go_enter Try.func97, Try.ntmps97
  go_wp2_with (go_at_call 99; go_must (refine (indexAbove_any _ _ _ _ xs m b _ hr hc).mono ?_; rintro e w' ⟨r, rfl, hk, rfl⟩))
  go_ret
  exact ⟨rfl, rfl⟩

set_option maxHeartbeats 1000000 in
theorem anyAbove_any (A : Option Addr) (n c B : Nat) (xs : List Int) (m : Int) (w : World) (hr : Rd w B .u64 A n c xs) (hB : B ≤ w.heap.size) :
    Calls Try.prog 92 #[.int .u64 m, .slice A n c] w fun e w' => e = .returned (.bool (!(allLe m xs))) ∧ Below w.heap.size w w' := by
  have hr' := hr.alloc hB (.cells #[.int .u64 m] 23)
  have hc : (w.alloc (.cells #[.int .u64 m] 23)).cell? ⟨w.heap.size, 0, none⟩ = some (.int .u64 m) := by rw [World.cell?_alloc_at] <;> rfl
  go_enter Try.func92, Try.ntmps92
  go_wp2_with (go_at_call 97; go_must (refine (containsAbove_any _ _ _ _ xs m _ _ hr' hc).mono ?_; rintro e w' ⟨rfl, rfl⟩))
  go_ret
  exact ⟨rfl, bel_alloc (Below.refl _ _) _⟩

set_option maxHeartbeats 1000000 in
theorem mCheck_any (A : Option Addr) (n c B : Nat) (xs : List Int) (w : World) (hr : Rd w B .u64 A n c xs) (hB : B ≤ w.heap.size) :
    Calls Try.prog 81 #[.slice A n c] w fun e w' => e = .returned (.int .i64 (chkM xs)) ∧ Below w.heap.size w w' := by
  by_cases h : allLe mMax xs = true
  · have H := hid (show chkM xs = 0 from if_pos h)
    have h' : (!(allLe 4611686018427387904 xs)) = false := by change (!(allLe mMax xs)) = false; rw [h]; rfl
    clear h
    go_enter Try.func81, Try.ntmps81
    go_wp2_with (go_at_call 92; go_must (refine (anyAbove_any _ _ _ _ xs _ _ hr hB).mono ?_; rw [h']; rintro e w' ⟨rfl, hb⟩))
    go_ret
    exact ⟨ret_num H.out.symm, hb⟩
  · have H := hid (show chkM xs = 1 from if_neg h)
    have h' : (!(allLe 4611686018427387904 xs)) = true := by change (!(allLe mMax xs)) = true; simpa using h
    clear h
    go_enter Try.func81, Try.ntmps81
    go_wp2_with (go_at_call 92; go_must (refine (anyAbove_any _ _ _ _ xs _ _ hr hB).mono ?_; rw [h']; rintro e w' ⟨rfl, hb⟩))
    go_ret
    exact ⟨ret_num H.out.symm, hb⟩

end Go.Proofs.Ytanlpcndbfmkiaa
