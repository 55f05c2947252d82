/-
  The contract of the document's Few of layer 10, and the walk of LedgerOurs.
-/
import Derived.Test.YtanlpcndbfmkiaaLedgerSpec
namespace Go.Proofs.Ytanlpcndbfmkiaa
open Go.RowKit Go.WalkArith

def fewL (l : List Chn) : Bool := decide ((∀ c ∈ l, c.Holds.length ≤ 20) ∧ l.length ≤ 34)

set_option maxRecDepth 100000 in
set_option maxHeartbeats 2000000 in
theorem refFew10_any (A : Option Addr) (n k : Nat) (l : List Chn) (w : World) (h : Sl lay_Channel w (· < w.heap.size) A n k l) :
    Calls Try.prog 10 #[.slice A n k] w fun e w' => e = .returned (.bool (fewL l)) ∧ Below w.heap.size w w' := by
  have HL := hid h.len
  have hcap := h.cap
  unfold maxLen at hcap
  go_enter Try.func10, Try.ntmps10
  go_wp2
  go_loopw [7] (fun i wr => ∃ j : Nat, j ≤ n ∧ i = .int .i64 j ∧ Hid (∀ c ∈ l.take j, c.Holds.length ≤ 20) ∧ Below w.heap.size w wr) (fun i _ => n - (intOf i).toNat)
  case atStart => exact ⟨0, Nat.zero_le _, rfl, hid (fun c hc => by simp at hc), Below.refl _ _⟩
  case round =>
  obtain ⟨j, hj, rfl, HP, hbel⟩ := hrel
  by_cases hlt : j < n
  · obtain ⟨b1, o1, A', n', c', hx1, rfl, hb1, t0, t1, t2, t3, t4, t5, t6, hw, hs⟩ := chn_at (Sl.call h hbel) hlt
    have hn := hs.len
    have hba := bel_alloc hbel (Obj.cells #[.int .u64 l[j].Id, .int .u64 l[j].Local, .int .u64 l[j].Remote, .int .u64 l[j].Reserve, .int .u64 l[j].Most, .slice A' n' c', .bool l[j].Open] 26)
    clear hs
    by_cases he : 20 < n'
    · have d1 : decide ((20 : Int) < (n' : Int)) = true := by simp; omega
      have HE := hid (show fewL l = false from decide_eq_false fun q => by have := q.1 l[j] (List.getElem_mem hx1); omega)
      clear he hn
      go_wp2
      go_ret
      exact ⟨ret_bool HE.out.symm, hba⟩
    · have d1 : decide ((20 : Int) < (n' : Int)) = false := by simp; omega
      have HN := hid (show ∀ c ∈ l.take (j + 1), c.Holds.length ≤ 20 from fun c hc => by
        rw [List.take_succ_eq_append_getElem hx1, List.mem_append, List.mem_singleton] at hc
        rcases hc with hc | rfl
        · exact HP.out c hc
        · omega)
      clear he hn
      go_wp2
      go_roundw
      case rel => exact ⟨j + 1, by omega, by go_num, HN, hba⟩
      case measure => simp [intOf]; omega
  · have HT := hid (show l.take j = l from List.take_of_length_le (by rw [HL.out]; omega))
    have HE := hid (show fewL l = decide ((n : Int) ≤ 34) from by
      unfold fewL
      have := HP.out
      rw [HT.out] at this
      by_cases q : n ≤ 34
      · rw [decide_eq_true (by exact ⟨this, by rw [HL.out]; exact q⟩), decide_eq_true (by omega)]
      · rw [decide_eq_false (fun k => q (by rw [← HL.out]; exact k.2)), decide_eq_false (by omega)])
    go_wp2
    go_ret
    exact ⟨ret_bool HE.out.symm, hbel⟩

theorem lho_nil {l : List Chn} {id hold n : Int} (h : lgE l ≠ 0 ∨ lhoE l id hold n ≠ 0) : lhoL l id hold n = [] := by
  refine one_no ?_
  rcases h with h | h
  · have g : ¬ LgOk l := fun k => h (if_pos k)
    have e : gtE l id = 1 := if_neg g
    unfold oneE
    rw [if_pos (by rw [e]; decide), e]
    decide
  · exact h

set_option maxRecDepth 100000 in
set_option maxHeartbeats 4000000 in
theorem ledgerOurs_walkH (HG : LedgerSpec) (A0 : Option Addr) (n0 c0 : Nat) (x0 : List Chn) (a1 a2 a3 : Int) (w : World) (r0 : Sl lay_Channel w (· < w.heap.size) A0 n0 c0 x0) (b1 : 0 ≤ a1 ∧ a1 ≤ 18446744073709551615) (b2 : 0 ≤ a2 ∧ a2 ≤ 18446744073709551615) (b3 : 0 ≤ a3 ∧ a3 ≤ 18446744073709551615) :
    Calls Try.prog 7 #[.slice A0 n0 c0, .int .u64 a1, .int .u64 a2, .int .u64 a3] w fun e w' => e = .returned (.bool true) ∧ Below w.heap.size w w' := by
  have V1 := wf_u64 b1
  have V2 := wf_u64 b2
  have V3 := wf_u64 b3
  have hw0 := sl_chns r0
  have K0 := hid (fun (W : World) (h : Below w.heap.size w W) => Sl.call r0 h)
  clear r0
  go_enter Try.func7, Try.ntmps7
  go_wp2_with fail
  refine (live10_any HG _).mono ?_
  rintro e w1 ⟨rfl, HB⟩
  go_wp2_with fail
  refine (refFew10_any _ _ _ x0 _ (K0.out _ HB)).mono ?_
  rintro e w2 ⟨rfl, hb⟩
  replace HB := bel_call HB hb
  clear hb
  cases hfew : fewL x0
  · go_wp2
    go_ret
    exact ⟨rfl, HB⟩
  clear hfew
  obtain ⟨ge, hge⟩ : ∃ z, lgE x0 = z := ⟨_, rfl⟩
  obtain ⟨on, hon⟩ : ∃ z, oursN x0 = z := ⟨_, rfl⟩
  obtain ⟨oh, hoh⟩ : ∃ z, oursH x0 = z := ⟨_, rfl⟩
  obtain ⟨fe, hfe⟩ : ∃ z, lhoE x0 a1 a2 a3 = z := ⟨_, rfl⟩
  obtain ⟨m, hm⟩ : ∃ z, lhoL x0 a1 a2 a3 = z := ⟨_, rfl⟩
  have QG := hid hge
  have QN := hid hon
  have QH := hid hoh
  have QE := hid hfe
  have QM := hid hm
  clear hge hon hoh hfe hm
  go_wp2_with fail
  refine (HG.ours _ _ _ x0 _ (K0.out _ HB)).mono ?_
  rw [QG.out, QN.out, QH.out]
  rintro e w3 ⟨rfl, hb⟩
  replace HB := bel_call HB hb
  clear hb
  go_wp2_with fail
  refine (HG.hold _ _ _ x0 a1 a2 a3 _ (K0.out _ HB) V1 V2 V3).mono ?_
  rw [QE.out, QM.out]
  rintro e w4 ⟨v4, rfl, ho4, hb⟩
  obtain ⟨A4, n4, c4, rfl, hs4⟩ := ho4.read
  replace HB := bel_call HB hb
  clear hb ho4
  by_cases g1 : ge = 0
  rotate_left
  · have d1 : (ge != 0) = true := by simpa using g1
    have hn4 : n4 = 0 := by rw [← hs4.len, ← QM.out, lho_nil (.inl (by rw [QG.out]; exact g1))]; rfl
    subst hn4
    clear g1 hs4
    go_wp2
    go_ret
    exact ⟨rfl, HB⟩
  subst g1
  by_cases g2 : fe = 0
  rotate_left
  · have d1 : (fe != 0) = true := by simpa using g2
    have hn4 : n4 = 0 := by rw [← hs4.len, ← QM.out, lho_nil (.inr (by rw [QE.out]; exact g2))]; rfl
    subst hn4
    clear g2 hs4
    go_wp2
    go_ret
    exact ⟨rfl, HB⟩
  subst g2
  obtain ⟨k0, -, -, -, -, -, k1, -, -, w1', -⟩ := lho_ok hw0 b3.1 QE.out
  obtain ⟨u1, u2, u3, u4, u5⟩ := ours_law hw0 b3.1 V2 QE.out
  obtain ⟨-, -, -, -, v5, v6, -⟩ := one_law hw0 b3.1 V2 QE.out
  rw [QM.out] at k1 w1' u1 u2 u3 u4 u5 v5 v6
  have on1 : on = ourS x0 := by rw [← QN.out]; exact if_pos k0
  have oh1 : oh = heldS x0 := by rw [← QH.out]; exact if_pos k0
  obtain ⟨bd1, bd2, bd3⟩ := ours_bd k0 hw0
  obtain ⟨bd4, bd5, bd6⟩ := ours_bd k1 (sl_chns hs4)
  have hmx : mMax = 4611686018427387904 := rfl
  obtain ⟨p, hp⟩ : ∃ z, enL m a2 true = z := ⟨_, rfl⟩
  rw [hp] at u3 u4 u5
  have QP := hid hp
  clear hp
  have R1 := hid (show lgE m = 0 ∧ oursN m = on - a3 ∧ oursH m = oh + a3 from ⟨if_pos k1, by rw [on1, ← u1]; exact if_pos k1, by rw [oh1, ← u2]; exact if_pos k1⟩)
  have R2 := hid (show lgE p = 0 ∧ oursN p = on - a3 ∧ oursH p = oh from ⟨if_pos u3, by rw [on1, ← u4]; exact if_pos u3, by rw [oh1, ← u5]; exact if_pos u3⟩)
  have R3 := hid (show whE m a2 = 0 ∧ enN m a2 = a3 ∧ enL m a2 false = x0 from ⟨w1', v5, v6⟩)
  have w1e : IntKind.u64.wrap (on - a3) = on - a3 := IntWalk.u64_in _ (by rw [on1]; omega)
  have w2e : IntKind.u64.wrap (oh + a3) = oh + a3 := IntWalk.u64_in _ (by rw [oh1]; omega)
  have t1 : (a3 == a3) = true := by simp
  have t2 : (on - a3 == on - a3) = true := by simp
  have t3 : (oh + a3 == oh + a3) = true := by simp
  have t4 : (on == on) = true := by simp
  have t5 : (oh == oh) = true := by simp
  clear u1 u2 u3 u4 u5 v5 v6 k0 k1 w1' on1 oh1 bd1 bd2 bd3 bd4 bd5 bd6 hmx
  have HM := Below.refl w4.heap.size w4
  go_wp2_with fail
  refine (HG.ours _ _ _ m _ (Sl.call hs4 HM)).mono ?_
  rw [R1.out.1, R1.out.2.1, R1.out.2.2]
  rintro e w5 ⟨rfl, hb⟩
  replace HB := bel_call HB hb
  replace HM := bel_call HM hb
  clear hb
  go_wp2_with fail
  refine (HG.end_ _ _ _ m a2 false _ (Sl.call hs4 HM) V2).mono ?_
  rw [R3.out.1, R3.out.2.1, R3.out.2.2]
  rintro e w6 ⟨v6, rfl, ho6, hb⟩
  obtain ⟨A6, n6, c6, rfl, hs6⟩ := ho6.read
  replace HB := bel_call HB hb
  replace HM := bel_call HM hb
  have HX := Below.refl w6.heap.size w6
  clear hb ho6
  go_wp2_with fail
  refine (HG.end_ _ _ _ m a2 true _ (Sl.call hs4 HM) V2).mono ?_
  rw [R3.out.1, R3.out.2.1, QP.out]
  rintro e w7 ⟨v7, rfl, ho7, hb⟩
  obtain ⟨A7, n7, c7, rfl, hs7⟩ := ho7.read
  replace HB := bel_call HB hb
  replace HX := bel_call HX hb
  have HY := Below.refl w7.heap.size w7
  clear hb ho7
  go_wp2_with fail
  refine (HG.ours _ _ _ x0 _ (Sl.call hs6 HX)).mono ?_
  rw [QG.out, QN.out, QH.out]
  rintro e w8 ⟨rfl, hb⟩
  replace HB := bel_call HB hb
  replace HY := bel_call HY hb
  clear hb
  go_wp2_with fail
  refine (HG.ours _ _ _ p _ (Sl.call hs7 HY)).mono ?_
  rw [R2.out.1, R2.out.2.1, R2.out.2.2]
  rintro e w9 ⟨rfl, hb⟩
  replace HB := bel_call HB hb
  clear hb HX HY HM hs4 hs6 hs7
  go_wp2
  go_ret
  exact ⟨rfl, HB⟩
end Go.Proofs.Ytanlpcndbfmkiaa
