/-
  The words of what package ledger answers; the laws' own 'live' of layer 10 over them.
-/
import Derived.Test.YtanlpcndbfmkiaaLedgerLaws
import Derived.Test.YtanlpcndbfmkiaaChannelSpec
namespace Go.Proofs.Ytanlpcndbfmkiaa
open Go.RowKit Go.WalkArith

/-- What package ledger answers. -/
structure LedgerSpec : Prop where
  check : ∀ (A : Option Addr) (n k : Nat) (l : List Chn) (w : World), Sl lay_Channel w (· < w.heap.size) A n k l →
    Calls Try.prog 30 #[.slice A n k] w fun e w' => e = .returned (.int .i64 (lgE l)) ∧ Below w.heap.size w w'
  same : ∀ (A A' : Option Addr) (n k n' k' : Nat) (l o : List Chn) (w : World), Sl lay_Channel w (· < w.heap.size) A n k l → Sl lay_Channel w (· < w.heap.size) A' n' k' o →
    Calls Try.prog 32 #[.slice A n k, .slice A' n' k'] w fun e w' => e = .returned (.bool (decide (l = o))) ∧ Below w.heap.size w w'
  get : ∀ (A : Option Addr) (n k : Nat) (l : List Chn) (id : Int) (w : World), Sl lay_Channel w (· < w.heap.size) A n k l → (Lit.int .u64 id).wf = true →
    Calls Try.prog 23 #[.slice A n k, .int .u64 id] w fun e w' => ∃ v, e = .returned (.tuple #[v, .int .i64 (gtE l id)]) ∧ OwnC w' w.heap.size v (gtC l id) ∧ Below w.heap.size w w'
  where_ : ∀ (A : Option Addr) (n k : Nat) (l : List Chn) (hold : Int) (w : World), Sl lay_Channel w (· < w.heap.size) A n k l → (Lit.int .u64 hold).wf = true →
    Calls Try.prog 25 #[.slice A n k, .int .u64 hold] w fun e w' => e = .returned (.tuple #[.int .u64 (whV l hold), .int .i64 (whE l hold)]) ∧ Below w.heap.size w w'
  ours : ∀ (A : Option Addr) (n k : Nat) (l : List Chn) (w : World), Sl lay_Channel w (· < w.heap.size) A n k l →
    Calls Try.prog 27 #[.slice A n k] w fun e w' => e = .returned (.tuple #[.int .u64 (oursN l), .int .u64 (oursH l), .int .i64 (lgE l)]) ∧ Below w.heap.size w w'
  open_ : ∀ (A : Option Addr) (n k : Nat) (l : List Chn) (s : Array Value) (c : Chn) (w : World), Sl lay_Channel w (· < w.heap.size) A n k l → lay_Channel.rep w (· < w.heap.size) c s.toList →
    Calls Try.prog 12 #[.slice A n k, .agg s] w fun e w' => ∃ v, e = .returned (.tuple #[v, .int .i64 (opE l c)]) ∧ OwnL lay_Channel w' w.heap.size (some w.heap.size) 26 v (opL l c) ∧ Below w.heap.size w w'
  close : ∀ (A : Option Addr) (n k : Nat) (l : List Chn) (id : Int) (w : World), Sl lay_Channel w (· < w.heap.size) A n k l → (Lit.int .u64 id).wf = true →
    Calls Try.prog 14 #[.slice A n k, .int .u64 id] w fun e w' => ∃ v, e = .returned (.tuple #[v, .int .i64 (lclE l id)]) ∧ OwnL lay_Channel w' w.heap.size (some w.heap.size) 26 v (lclL l id) ∧ Below w.heap.size w w'
  push : ∀ (A : Option Addr) (n k : Nat) (l : List Chn) (id m : Int) (w : World), Sl lay_Channel w (· < w.heap.size) A n k l → (Lit.int .u64 id).wf = true → (Lit.int .u64 m).wf = true →
    Calls Try.prog 16 #[.slice A n k, .int .u64 id, .int .u64 m] w fun e w' => ∃ v, e = .returned (.tuple #[v, .int .i64 (lpuE l id m)]) ∧ OwnL lay_Channel w' w.heap.size (some w.heap.size) 26 v (lpuL l id m) ∧ Below w.heap.size w w'
  hold : ∀ (A : Option Addr) (n k : Nat) (l : List Chn) (id hold m : Int) (w : World), Sl lay_Channel w (· < w.heap.size) A n k l → (Lit.int .u64 id).wf = true → (Lit.int .u64 hold).wf = true → (Lit.int .u64 m).wf = true →
    Calls Try.prog 18 #[.slice A n k, .int .u64 id, .int .u64 hold, .int .u64 m] w fun e w' => ∃ v, e = .returned (.tuple #[v, .int .i64 (lhoE l id hold m)]) ∧ OwnL lay_Channel w' w.heap.size (some w.heap.size) 26 v (lhoL l id hold m) ∧ Below w.heap.size w w'
  end_ : ∀ (A : Option Addr) (n k : Nat) (l : List Chn) (hold : Int) (paid : Bool) (w : World), Sl lay_Channel w (· < w.heap.size) A n k l → (Lit.int .u64 hold).wf = true →
    Calls Try.prog 20 #[.slice A n k, .int .u64 hold, .bool paid] w fun e w' => ∃ v, e = .returned (.tuple #[v, .int .u64 (enN l hold), .int .i64 (whE l hold)]) ∧ OwnL lay_Channel w' w.heap.size (some w.heap.size) 26 v (enL l hold paid) ∧ Below w.heap.size w w'
/-- What package channel answers of all, and whether two are the same (the laws of layer 10 ask it, too). -/
structure ChanTwo : Prop where
  same : ∀ (s t : Array Value) (c o : Chn) (w : World), lay_Channel.rep w (· < w.heap.size) c s.toList → lay_Channel.rep w (· < w.heap.size) o t.toList →
    Calls Try.prog 34 #[.agg s, .agg t] w fun e w' => e = .returned (.bool (decide (c = o))) ∧ Below w.heap.size w w'
  all : ∀ (s : Array Value) (c : Chn) (w : World), lay_Channel.rep w (· < w.heap.size) c s.toList →
    Calls Try.prog 42 #[.agg s] w fun e w' => e = .returned (.tuple #[.int .u64 (aaV c), .int .i64 (chE c)]) ∧ Below w.heap.size w w'

theorem size_lay_Channel : lay_Channel.size = 7 := rfl
/-- The j-th channel's cells. -/
theorem chn_at {w : World} {S : Nat → Prop} {A : Option Addr} {n c : Nat} {l : List Chn} (h : Sl lay_Channel w S A n c l) {j : Nat} (hj : j < n) :
    ∃ b off A' n' c', ∃ hx : j < l.length, A = some ⟨b, off, none⟩ ∧ S b ∧ w.cell? ⟨b, off + j * 7, none⟩ = some (.int .u64 l[j].Id) ∧ w.cell? ⟨b, off + j * 7 + 1, none⟩ = some (.int .u64 l[j].Local) ∧ w.cell? ⟨b, off + j * 7 + 2, none⟩ = some (.int .u64 l[j].Remote) ∧ w.cell? ⟨b, off + j * 7 + 3, none⟩ = some (.int .u64 l[j].Reserve) ∧ w.cell? ⟨b, off + j * 7 + 4, none⟩ = some (.int .u64 l[j].Most) ∧ w.cell? ⟨b, off + j * 7 + 5, none⟩ = some (.slice A' n' c') ∧ w.cell? ⟨b, off + j * 7 + 6, none⟩ = some (.bool l[j].Open) ∧ ChnWf l[j] ∧ Sl lay_Hold w S A' n' c' l[j].Holds := by
  obtain ⟨b, off, cs, hx, rfl, hb, hr, hc⟩ := h.at_ hj
  obtain ⟨A', n', c', rfl, hw, hs⟩ := rep_Channel.1 hr
  exact ⟨b, off, A', n', c', hx, rfl, hb, hc 0 _ rfl, hc 1 _ rfl, hc 2 _ rfl, hc 3 _ rfl, hc 4 _ rfl, hc 5 _ rfl, hc 6 _ rfl, hw, hs⟩
theorem sl_chns {w : World} {S : Nat → Prop} {A : Option Addr} {n c : Nat} {l : List Chn} (h : Sl lay_Channel w S A n c l) : ChnsWf l := fun x hx => by
  obtain ⟨j, hj, rfl⟩ := List.getElem_of_mem hx
  have hl := h.len
  obtain ⟨b, off, A', n', c', hx1, -, -, -, -, -, -, -, -, -, hw, hs⟩ := chn_at h (j := j) (by omega)
  exact ⟨hw, sl_hlds hs⟩

/-! ### The chapter's example -/
def egL (i : Int) : Chn := ⟨i, 10, 0, 0, 10, [], true⟩
theorem egL_ok (i : Int) : ChOk (egL i) := ⟨by show (0 : Int) ≤ mMax; decide, by show (10 : Int) ≤ mMax; decide, by simp [egL], by simp [egL], by simp [egL], List.Pairwise.nil, by simp [egL, numsH, allLe], by simp [egL, heldN, numsH, sumM], by show (10 : Int) ≤ mMax; decide, by show (0 : Int) ≤ mMax; decide, by simp [egL, heldN, numsH, sumM, mMax]⟩
theorem egL_all (i : Int) : aaV (egL i) = 10 := by
  unfold aaV
  rw [if_pos (egL_ok i)]
  simp [egL, heldN, numsH, sumM]
theorem eg_none : LgOk [] := ⟨by simp, by simp, List.Pairwise.nil, List.Pairwise.nil, by simp [sumC, sumM, mMax]⟩
theorem eg_one : opE [] (egL 1) = 0 ∧ opL [] (egL 1) = [egL 1] := by
  have hw : withC [] (egL 1) = [egL 1] := rfl
  have e : opE [] (egL 1) = 0 := by
    unfold opE
    rw [if_pos ⟨eg_none, egL_ok 1, rfl, rfl⟩, if_neg (by decide), if_neg (by simp), if_neg (by rw [hw]; simp [sumC, sumM, egL_all, mMax])]
  exact ⟨e, by unfold opL; rw [if_pos e, hw]⟩
theorem eg_two : opE [egL 1] (egL 2) = 0 ∧ opL [egL 1] (egL 2) = [egL 1, egL 2] := by
  have hw : withC [egL 1] (egL 2) = [egL 1, egL 2] := by decide
  have g : LgOk [egL 1] := by
    have := (op_is eg_one.1).2.2.2.2.2.2.2.2
    rwa [show withC [] (egL 1) = [egL 1] from rfl] at this
  have e : opE [egL 1] (egL 2) = 0 := by
    unfold opE
    rw [if_pos ⟨g, egL_ok 2, rfl, rfl⟩, if_neg (by decide), if_neg (by simp), if_neg (by rw [hw]; simp [sumC, sumM, egL_all, mMax])]
  exact ⟨e, by unfold opL; rw [if_pos e, hw]⟩
theorem eg_wf : ChnsWf [egL 1, egL 2] := fun c hc => by
  have h1 : ChnWf (egL 1) := ⟨by decide, by decide, by decide, by decide, by decide⟩
  have h2 : ChnWf (egL 2) := ⟨by decide, by decide, by decide, by decide, by decide⟩
  simp only [List.mem_cons, List.not_mem_nil, or_false] at hc
  rcases hc with rfl | rfl
  · exact ⟨h1, fun x hx => by simp [egL] at hx⟩
  · exact ⟨h2, fun x hx => by simp [egL] at hx⟩
theorem eg_hold : lhoE [egL 1, egL 2] 1 7 3 = 0 ∧ lhoE (lhoL [egL 1, egL 2] 1 7 3) 2 7 3 = 6 := by
  have g : LgOk [egL 1, egL 2] := by
    have := (op_is eg_two.1).2.2.2.2.2.2.2.2
    rwa [show withC [egL 1] (egL 2) = [egL 1, egL 2] from by decide] at this
  have g1 := gt_of g (c := egL 1) (by simp)
  have g2 := gt_of g (c := egL 2) (by simp)
  have i1 : (egL 1).Id = 1 := rfl
  have i2 : (egL 2).Id = 2 := rfl
  rw [i1] at g1
  rw [i2] at g2
  have hh : hoE (egL 1) 7 3 = 0 := by
    unfold hoE
    rw [if_pos ⟨egL_ok 1, by decide, by decide⟩, if_neg (by decide), if_neg (by decide), if_neg (by decide), if_neg (by decide), if_neg (by decide)]
  have e : lhoE [egL 1, egL 2] 1 7 3 = 0 := by
    unfold lhoE oneE
    rw [if_neg (fun k => k g1.1), g1.2]
    unfold lhE
    rw [if_neg (by decide)]
    exact hh
  refine ⟨e, ?_⟩
  obtain ⟨-, -, -, -, -, -, q⟩ := one_law eg_wf (by decide) (by decide) e
  rcases q 2 with q | ⟨q, -⟩
  · exact q
  · rw [g2.1] at q; cases q

set_option maxRecDepth 100000 in
set_option maxHeartbeats 1000000 in
theorem live10_any (HL : LedgerSpec) (w : World) : Calls Try.prog 9 #[] w fun e w' => e = .returned (.bool true) ∧ Below w.heap.size w w' := by
  have h1 : ChnWf (egL 1) := ⟨by decide, by decide, by decide, by decide, by decide⟩
  have h2 : ChnWf (egL 2) := ⟨by decide, by decide, by decide, by decide, by decide⟩
  have P1 := hid (fun (W : World) => (show lay_Channel.rep W (· < W.heap.size) (egL 1) #[.int .u64 1, .int .u64 10, .int .u64 0, .int .u64 0, .int .u64 10, .slice none 0 0, .bool true].toList from rep_Channel.2 ⟨none, 0, 0, rfl, h1, Sl.nil _ _ _⟩))
  have P2 := hid (fun (W : World) => (show lay_Channel.rep W (· < W.heap.size) (egL 2) #[.int .u64 2, .int .u64 10, .int .u64 0, .int .u64 0, .int .u64 10, .slice none 0 0, .bool true].toList from rep_Channel.2 ⟨none, 0, 0, rfl, h2, Sl.nil _ _ _⟩))
  obtain ⟨a1, a2⟩ := eg_one
  obtain ⟨a3, a4⟩ := eg_two
  obtain ⟨a5, a6⟩ := eg_hold
  have H1 := hid (HL.open_ none 0 0 [] _ (egL 1) w (Sl.nil _ _ _) (P1.out w))
  rw [a1, a2] at H1
  have E3 := hid (And.intro a3 a4)
  have E5 := hid (And.intro a5 a6)
  clear a1 a2 a3 a4 a5 a6
  go_enter Try.func9, Try.ntmps9
  go_wp2_with fail
  refine H1.out.mono ?_
  rintro e w1 ⟨v1, rfl, ho1, hb1⟩
  obtain ⟨A1, n1, c1, rfl, hs1⟩ := ho1.read
  go_wp2_with fail
  refine (HL.open_ A1 n1 c1 [egL 1] _ (egL 2) w1 hs1 (P2.out w1)).mono ?_
  rw [E3.out.1, E3.out.2]
  rintro e w2 ⟨v2, rfl, ho2, hb2⟩
  obtain ⟨A2, n2, c2, rfl, hs2⟩ := ho2.read
  go_wp2_with fail
  refine (HL.hold A2 n2 c2 [egL 1, egL 2] 1 7 3 w2 hs2 (by decide) (by decide) (by decide)).mono ?_
  rw [E5.out.1]
  rintro e w3 ⟨v3, rfl, ho3, hb3⟩
  obtain ⟨A3, n3, c3, rfl, hs3⟩ := ho3.read
  go_wp2_with fail
  refine (HL.hold A3 n3 c3 (lhoL [egL 1, egL 2] 1 7 3) 2 7 3 w3 hs3 (by decide) (by decide) (by decide)).mono ?_
  rw [E5.out.2]
  rintro e w4 ⟨v4, rfl, ho4, hb4⟩
  have HB := bel_call (bel_call (bel_call hb1 hb2) hb3) hb4
  clear ho1 ho2 ho3 ho4 hb1 hb2 hb3 hb4 hs1 hs2 hs3
  go_wp2
  go_ret
  exact ⟨rfl, HB⟩
end Go.Proofs.Ytanlpcndbfmkiaa
