/-
  The contracts of package tlv's Check, Same, and what they call.
  The contracts of package tlv's Put, place, Find, Number.
  The contracts of package tlv's place, Find, Number.
  The contracts of package tlv's next and Get.
-/
import Derived.Test.YtgiapfenalhleaaStd
import Derived.Test.YtgiapfenalhleaaTlvRefWith
import Derived.Test.YtgiapfenalhleaaTlvWithLaws
import Derived.Test.YtgiapfenalhleaaRet
namespace Go.Proofs.Ytgiapfenalhleaa
open Go.RowKit Go.WalkArith

set_option maxHeartbeats 1000000 in
theorem rises_any (A : Option Addr) (n c : Nat) (S : Nat → Prop) (l : List Rec) (t : Int) (w : World) (hr : Sl lay_Record w S A n c l) (h0 : 0 ≤ t) :
    Calls Try.prog 94 #[.slice A n c, .int .u64 t] w fun e w' => e = .returned (.bool (decide (lastT l < t))) ∧ w = w' := by
  have hcap := hr.cap
  unfold maxLen at hcap
  have HL := hid hr.len
  rcases Nat.eq_zero_or_pos n with hz | hz
  · subst hz
    have hl : l = [] := List.eq_nil_of_length_eq_zero HL.out
    have HD := hid (show decide (lastT l < t) = true from by subst hl; exact decide_eq_true (show (-1 : Int) < t by omega))
    clear hl
    go_enter Try.func94, Try.ntmps94
    go_wp2
    go_ret
    exact ⟨ret_bool HD.out.symm, rfl⟩
  · obtain ⟨b, off, A', n', c', hx, rfl, hb, h1, h2, hT, hV⟩ := rec_at hr (j := n - 1) (by omega)
    obtain ⟨h', hlt⟩ := lastT_at (acc := l) (by rw [HL.out]; exact hz)
    have hidx : lastT l = l[n - 1].T := by rw [hlt]; simp only [HL.out]
    rw [hidx]
    generalize l[n - 1].T = x at *
    have hnz : ((n : Int) == 0) = false := by simp; omega
    have wj : IntKind.i64.wrap ((n : Int) - 1) = (n : Int) - 1 := IntWalk.i64_in _ (by omega)
    have tj : ((n : Int) - 1).toNat = n - 1 := by omega
    have pj : (0 : Int) ≤ (n : Int) - 1 := by omega
    have lj : (n : Int) - 1 < (n : Int) := by omega
    clear h2 hV
    go_enter Try.func94, Try.ntmps94
    go_wp2
    go_ret
    exact ⟨rfl, rfl⟩

theorem lastT_take {l : List Rec} {j : Nat} (hx : j < l.length) (hj : 0 < j) : lastT (l.take j) = l[j - 1].T := by
  have hl : (l.take j).length = j := by rw [List.length_take]; omega
  obtain ⟨h', e⟩ := lastT_at (acc := l.take j) (by omega)
  rw [e]
  simp only [hl, List.getElem_take]
theorem ris_step {l : List Rec} {j : Nat} (hx : j < l.length) (h : ChkTo l j) (hv : l[j].V.length ≤ 4096) (hr : lastT (l.take j) < l[j].T) : ChkTo l (j + 1) := fun i hi hi1 => by
  by_cases hij : i < j
  · exact h i hi hij
  · obtain rfl : i = j := by omega
    exact ⟨hv, fun h0 => by rw [lastT_take hx h0] at hr; exact hr⟩
theorem ris_no {l : List Rec} {j : Nat} (hx : j < l.length) (h0 : 0 ≤ l[j].T) (hr : ¬ lastT (l.take j) < l[j].T) : ¬ MayBe l := fun h => by
  rcases Nat.eq_zero_or_pos j with hj | hj
  · subst hj
    apply hr
    have : lastT (l.take 0) = -1 := by simp [lastT]
    omega
  · rw [lastT_take hx hj] at hr
    exact hr ((h.2 j hx hx).2 hj)

theorem Try.elemRec : Try.prog.elem 81 = 83 := by kernel_rfl

set_option maxRecDepth 100000 in
set_option maxHeartbeats 1000000 in
theorem tlvCheck_any (A : Option Addr) (n c : Nat) (l : List Rec) (w : World) (hr : Sl lay_Record w (· < w.heap.size) A n c l) :
    Calls Try.prog 79 #[.slice A n c] w fun e w' => e = .returned (.int .i64 (chk l)) ∧ Below w.heap.size w w' := by
  have hcap := hr.cap
  unfold maxLen at hcap
  have HL := hid hr.len
  by_cases g0 : 64 < n
  · have HC := hid (chk_no (l := l) fun h => by have := h.1; rw [HL.out] at this; omega)
    have g0' : (64 : Int) < n := by omega
    go_enter Try.func79, Try.ntmps79
    go_wp2
    go_ret
    exact ⟨ret_num HC.out.symm, Below.refl _ _⟩
  have d0 : decide ((64 : Int) < (n : Int)) = false := by simp; omega
  go_enter Try.func79, Try.ntmps79
  go_wp2
  go_loopw [10] (fun i wr => ∃ j : Nat, j ≤ n ∧ i = .int .i64 j ∧ ChkTo l j ∧ Below w.heap.size w wr) (fun i _ => n - (intOf i).toNat)
  case atStart => exact ⟨0, Nat.zero_le _, rfl, fun _ _ h => absurd h (by omega), Below.refl _ _⟩
  case round =>
    obtain ⟨j, hj, rfl, hto, hbel⟩ := hrel
    have HT := hid hto
    clear hto
    by_cases hlt : j < n
    · obtain ⟨b, off, A', n', c', hx, rfl, hb, h1, h2, hTb, hV⟩ := rec_at hr hlt
      have q1 := (hbel.cell (p := ⟨b, off + j * 2, none⟩) hb).trans h1
      have q2 := (hbel.cell (p := ⟨b, off + j * 2 + 1, none⟩) hb).trans h2
      have hbb : b < wr.heap.size := Nat.lt_of_lt_of_le hb hbel.size
      have HX := hid hV.len
      have hcv := hV.cap
      unfold maxLen at hcv
      clear h1 h2
      by_cases g1 : 4096 < n'
      · have HC := hid (chk_no (l := l) fun h => by have := (h.2 j hx hx).1; rw [HX.out] at this; omega)
        have g1' : (4096 : Int) < n' := by omega
        have d1 : decide ((4096 : Int) < (n' : Int)) = true := by simp; omega
        go_wp2_with fail
        go_quiet (fail)
        go_wp2
        go_ret
        exact ⟨ret_num HC.out.symm, by (repeat (first | exact Below.refl _ _ | refine Below.drew ?_ | refine bel_drewN ?_ _ | refine bel_alloc ?_ _ | refine bel_call ?_ (by assumption)))⟩
      have d1 : decide ((4096 : Int) < (n' : Int)) = false := by simp; omega
      have hV4 : l[j].V.length ≤ 4096 := by rw [HX.out]; omega
      have RT := hid ((hr.upto hj).keep fun _ hp => (hbel.alloc hbel.size (Obj.cells #[.int .u64 l[j].T, .slice A' n' c'] 83)).cell hp)
      have hup := run_uptoL (P := Try.prog) 81 83 .i64 Try.underlying81 Try.elemRec Try.infoRec (some ⟨b, off, none⟩) n c j (by omega)
      by_cases g3 : lastT (l.take j) < l[j].T
      · have HN := hid (ris_step hx HT.out hV4 g3)
        have hd : decide (lastT (l.take j) < l[j].T) = true := decide_eq_true g3
        clear g3 hV4
        generalize l[j].T = x at *
        generalize l.take j = lt at *
        go_wp2_with fail
        go_quiet ((go_at_call 94; exact Calls.quiet_of_same ((rises_any _ _ _ _ lt x _ (RT.out.drewN _) hTb.1).mono fun _ _ h => ⟨h.1, h.2.symm⟩)))
        go_wp2
        go_roundw
        case rel => exact ⟨j + 1, by omega, by go_num, HN.out, by (repeat (first | exact Below.refl _ _ | refine Below.drew ?_ | refine bel_drewN ?_ _ | refine bel_alloc ?_ _ | refine bel_call ?_ (by assumption)))⟩
        case measure => simp [intOf]; omega
      · have HC := hid (chk_no (ris_no hx hTb.1 g3))
        have hd : decide (lastT (l.take j) < l[j].T) = false := decide_eq_false g3
        clear g3 hV4
        generalize l[j].T = x at *
        generalize l.take j = lt at *
        go_wp2_with fail
        go_quiet ((go_at_call 94; exact Calls.quiet_of_same ((rises_any _ _ _ _ lt x _ (RT.out.drewN _) hTb.1).mono fun _ _ h => ⟨h.1, h.2.symm⟩)))
        go_wp2
        go_ret
        exact ⟨ret_num HC.out.symm, by (repeat (first | exact Below.refl _ _ | refine Below.drew ?_ | refine bel_drewN ?_ _ | refine bel_alloc ?_ _ | refine bel_call ?_ (by assumption)))⟩
    · have HC := hid (chk_ok (l := l) ⟨by rw [HL.out]; omega, fun i hi _ => HT.out i hi (by rw [HL.out] at hi; omega)⟩)
      go_wp2
      go_ret
      exact ⟨ret_num HC.out.symm, hbel⟩

end Go.Proofs.Ytgiapfenalhleaa
namespace Go.Proofs.Ytgiapfenalhleaa
open Go.RowKit Go.WalkArith

set_option maxRecDepth 100000 in
set_option maxHeartbeats 2000000 in
theorem tlvPut_ok (A : Option Addr) (n c : Nat) (l : List Rec) (w : World) (hr : Sl lay_Record w (· < w.heap.size) A n c l) (hm : MayBe l) :
    Calls Try.prog 51 #[.slice A n c] w fun e w' => ∃ v', e = .returned (.tuple #[v', .int .i64 (putE l)]) ∧ Own w' w.heap.size 5 .u8 v' (putO l) ∧ Below w.heap.size w w' := by
  have hcap := hr.cap
  unfold maxLen at hcap
  have HL := hid hr.len
  have hn64 : n ≤ 64 := by rw [← HL.out]; exact hm.1
  have HM := hid hm
  have HC := hid (chk_ok hm)
  clear hm
  go_enter Try.func51, Try.ntmps51
  go_wp2_with (go_at_call 79; go_must (refine (tlvCheck_any _ _ _ _ _ hr).mono ?_; rw [HC.out]; rintro e w1 ⟨rfl, hb1⟩))
  go_loopw [5, 15] (fun u i wr => ∃ j : Nat, j ≤ n ∧ i = .int .i64 j ∧ Own wr w.heap.size 5 .u8 u (octsR (l.take j)) ∧ Below w.heap.size w wr) (fun _ i _ => n - (intOf i).toNat)
  case atStart => exact ⟨0, Nat.zero_le _, rfl, Own.nil _ _ _ _, hb1⟩
  case round =>
    obtain ⟨j, hj, rfl, hown, hbel⟩ := hrel
    have hsz := hbel.size
    have hlen := octsR_len (l := l.take j) fun r h => HM.out.small r (List.mem_of_mem_take h)
    have hlt64 : (l.take j).length ≤ 64 := Nat.le_trans (List.length_take_le _ _) (by omega)
    by_cases hlt : j < n
    · obtain ⟨b, off, A', n', c', hx, rfl, hb, h1, h2, hT, hV⟩ := rec_at hr hlt
      have q1 := (hbel.cell (p := ⟨b, off + j * 2, none⟩) hb).trans h1
      have q2 := (hbel.cell (p := ⟨b, off + j * 2 + 1, none⟩) hb).trans h2
      have R := (hV.rd (B := w.heap.size) fun _ h => h).below hbel
      have HT := hid (octsR_take hx)
      have hVl := hid hV.len
      have hn' : n' ≤ 4096 := by rw [← hVl.out]; exact HM.out.small _ (List.getElem_mem hx)
      have hWT := wf_u64 hT
      have hWN : (Lit.int .u64 (n' : Int)).wf = true := wf_u64 (by omega)
      have hR : octR l[j] = octs [l[j].T, (n' : Int)] ++ l[j].V := by simp [octR, octs, hVl.out]
      have HR := hid hR
      have ho2 := octs_len_le [l[j].T, (n' : Int)]
      have ho3 : (octs [l[j].T, (n' : Int)]).length ≤ 18 := by simpa using ho2
      have hol : (octsR (l.take j)).length ≤ 263296 := by omega
      clear h1 h2 hV hR ho2 hlen
      generalize l[j].T = x at *
      generalize l[j].V = xs at *
      have HNN := hid (hown.not_new (Nat.le_refl _))
      go_wp2_with (first | (go_at_call 34; go_must (refine (put_any _ _ _ [x, (n' : Int)] _ (Rd.lit2 ?_ ?_ hWT hWN) (by omega)).mono ?_; go_simp; go_simp; rintro e w2 ⟨v2, rfl, hown2, hb2⟩; obtain ⟨A2, n2, c2, rfl, hr2⟩ := hown2.formN; have hl2 : n2 ≤ 18 := (by rw [← hr2.len]; exact ho3); have hz2 : w.heap.size ≤ w2.heap.size := by (have h9 := hb2.size; simp at h9; omega))) | (at_builtin; refine wpList_cat rfl (.tmp 19) (.tmp 27) 46 rfl w.heap.size 5 .u8 1 Try.underlying46 Try.infoU8 u5 (octsR (l.take j)) _ A2 n2 c2 (octs [x, (n' : Int)]) rfl rfl (((hown.alloc _).alloc _).below_all hb2) hr2 hz2 (by omega) (by omega) ?_; intro v3 w3 hown3 hext3; have q5 := var_kept (i := 1) hb2 hext3 HNN.out rfl) | (at_builtin; go_must (refine wpList_cat rfl (.tmp 29) (.tmp 31) 46 rfl w.heap.size 5 .u8 1 Try.underlying46 Try.infoU8 v3 (octsR (l.take j) ++ octs [x, (n' : Int)]) _ A' n' c' xs rfl rfl hown3 (R.below (bel3 hsz hb2 (((hown.alloc _).alloc _).below_all hb2) hext3)) (Nat.le_trans hz2 hext3.size) (by rw [List.length_append]; omega) (by rw [List.length_append]; omega) ?_; intro v4 w4 hown4 hext4)))
      go_roundw
      case rel => exact ⟨j + 1, by omega, by go_num, by rw [HT.out, HR.out, ← List.append_assoc]; exact hown4, (hbel.trans (bel3 hsz hb2 (((hown.alloc _).alloc _).below_all hb2) hext3)).trans (hown3.below hext4 (Nat.le_trans hz2 hext3.size))⟩
      case measure => simp [intOf]; omega
    · have HE := hid (show l.take j = l from List.take_of_length_le (by rw [HL.out]; omega))
      rw [HE.out] at hown hlen
      obtain ⟨A4, c4, rfl, hr4⟩ := hown.form
      have hl4 : (octsR l).length ≤ 263296 := by rw [HL.out] at hlen; omega
      by_cases hbig : (octsR l).length ≤ 65535
      · have HO := hid (show putO l = octsR l from if_pos hbig)
        have HPE := hid (show putE l = 0 from if_pos hbig)
        have d5 : decide ((65535 : Int) < ((octsR l).length : Nat)) = false := by simp; omega
        go_wp2
        go_ret2
        exact ⟨_, by rw [HPE.out]; rfl, by rw [HO.out]; exact hown, hbel⟩
      · have HO := hid (show putO l = [] from if_neg hbig)
        have HPE := hid (show putE l = 4 from if_neg hbig)
        have d5 : decide ((65535 : Int) < ((octsR l).length : Nat)) = true := by simp; omega
        go_wp2
        go_ret2
        exact ⟨_, by rw [HPE.out]; rfl, by rw [HO.out]; exact Own.nil _ _ _ _, hbel⟩

set_option maxHeartbeats 400000 in
theorem tlvPut_no (A : Option Addr) (n c : Nat) (l : List Rec) (w : World) (hr : Sl lay_Record w (· < w.heap.size) A n c l) (hm : ¬ MayBe l) :
    Calls Try.prog 51 #[.slice A n c] w fun e w' => e = .returned (.tuple #[.slice none 0 0, .int .i64 1]) ∧ Below w.heap.size w w' := by
  have HC := hid (chk_no hm)
  go_enter Try.func51, Try.ntmps51
  go_wp2_with (go_at_call 79; go_must (refine (tlvCheck_any _ _ _ _ _ hr).mono ?_; rw [HC.out]; rintro e w1 ⟨rfl, hb1⟩))
  go_ret2
  exact ⟨rfl, hb1⟩

theorem tlvPut_any (A : Option Addr) (n c : Nat) (l : List Rec) (w : World) (hr : Sl lay_Record w (· < w.heap.size) A n c l) :
    Calls Try.prog 51 #[.slice A n c] w fun e w' => ∃ v', e = .returned (.tuple #[v', .int .i64 (pE l)]) ∧ Own w' w.heap.size 5 .u8 v' (pO l) ∧ Below w.heap.size w w' := by
  by_cases hm : MayBe l
  · rw [pE_ok hm, pO_ok hm]; exact tlvPut_ok A n c l w hr hm
  · rw [pE_no hm, pO_no hm]
    exact (tlvPut_no A n c l w hr hm).mono fun e w' h => ⟨_, h.1, Own.nil _ _ _ _, h.2⟩
theorem refPutR_any (A : Option Addr) (n c : Nat) (l : List Rec) (w : World) (hr : Sl lay_Record w (· < w.heap.size) A n c l) :
    Calls Try.prog 52 #[.slice A n c] w fun e w' => ∃ v', e = .returned (.tuple #[v', .int .i64 (pE l)]) ∧ Own w' w.heap.size 5 .u8 v' (pO l) ∧ Below w.heap.size w w' := by
  by_cases hm : MayBe l
  · rw [pE_ok hm, pO_ok hm]; exact refPutR_ok A n c l w hr hm
  · rw [pE_no hm, pO_no hm]
    exact (refPutR_no A n c l w hr hm).mono fun e w' h => ⟨_, h.1, Own.nil _ _ _ _, h.2⟩

/-- How two numbers stand to each other. -/
def cmpI (x y : Int) : Int := if x < y then -1 else if y < x then 1 else 0
theorem isNaN_any (x : Int) (w : World) : Calls Try.prog 108 #[.int .u64 x] w fun e w' => e = .returned (.bool false) ∧ w = w' := by
  have h : (x != x) = false := by simp
  go_enter Try.func108, Try.ntmps108
  go_wp2
  go_ret
  exact ⟨rfl, rfl⟩
theorem compare_any (x y : Int) (w : World) : Calls Try.prog 105 #[.int .u64 x, .int .u64 y] w fun e w' => e = .returned (.int .i64 (cmpI x y)) ∧ w = w' := by
  go_enter Try.func105, Try.ntmps105
  go_wp2_with (go_at_call 108; refine (isNaN_any _ _).mono ?_; rintro e w' ⟨rfl, rfl⟩)
  all_goals (go_ret; exact ⟨ret_num (by unfold cmpI; (repeat' split) <;> omega), rfl⟩)
theorem place1_any (s : Array Value) (S : Nat → Prop) (r : Rec) (t : Int) (w : World) (hs : lay_Record.rep w S r s.toList) :
    Calls Try.prog 104 #[.agg s, .int .u64 t] w fun e w' => e = .returned (.int .i64 (cmpI r.T t)) ∧ Below w.heap.size w w' := by
  obtain ⟨A1, n1, c1, hc1, hT1, hV1⟩ := rep_Record.1 hs
  obtain rfl : s = #[.int .u64 r.T, .slice A1 n1 c1] := Array.ext' hc1
  go_enter Try.func104, Try.ntmps104
  go_wp2_with (go_at_call 105; refine (compare_any _ _ _).mono ?_; rintro e w' ⟨rfl, rfl⟩)
  go_ret
  exact ⟨rfl, by (repeat (first | exact Below.refl _ _ | refine Below.drew ?_ | refine bel_drewN ?_ _ | refine bel_alloc ?_ _ | refine bel_call ?_ (by assumption)))⟩
end Go.Proofs.Ytgiapfenalhleaa
namespace Go.Proofs.Ytgiapfenalhleaa
open Go.RowKit Go.WalkArith

/-- The type of the k-th record, or -1. -/
def tAt (l : List Rec) (k : Nat) : Int := ((l[k]?).map (·.T)).getD (-1)
/-- Ahead of place k are the lesser types, and from there on no lesser ones. -/
def AtT (l : List Rec) (t : Int) (k : Nat) : Prop := k ≤ l.length ∧ (∀ (i : Nat) (h : i < l.length), i < k → l[i].T < t) ∧ ∀ (i : Nat) (h : i < l.length), k ≤ i → t ≤ l[i].T
/-- What a search knows of its two ends. -/
def Ends (l : List Rec) (t : Int) (i j : Nat) : Prop := i ≤ j ∧ j ≤ l.length ∧ (∀ (k : Nat) (h : k < l.length), k < i → l[k].T < t) ∧ ∀ (k : Nat) (h : k < l.length), j ≤ k → t ≤ l[k].T
theorem tAt_get {l : List Rec} {k : Nat} (h : k < l.length) : tAt l k = l[k].T := by simp [tAt, List.getElem?_eq_getElem h]
theorem tAt_out {l : List Rec} {k : Nat} (h : l.length ≤ k) : tAt l k = -1 := by simp [tAt, List.getElem?_eq_none h]
theorem Ends.up {l : List Rec} {t : Int} {i j m : Nat} (h : Ends l t i j) (hr : Rises l) (hm : m < j) (hi : i ≤ m) (hx : m < l.length) (hlt : l[m].T < t) : Ends l t (m + 1) j := by
  refine ⟨by omega, h.2.1, fun k hk hkm => ?_, h.2.2.2⟩
  rcases Nat.lt_or_ge k m with h1 | h1
  · have := List.pairwise_iff_getElem.1 hr k m hk hx h1
    omega
  · obtain rfl : k = m := by omega
    exact hlt
theorem Ends.down {l : List Rec} {t : Int} {i j m : Nat} (h : Ends l t i j) (hr : Rises l) (hi : i ≤ m) (hx : m < l.length) (hlt : ¬ l[m].T < t) : Ends l t i m := by
  refine ⟨hi, by omega, h.2.2.1, fun k hk hmk => ?_⟩
  rcases Nat.lt_or_ge m k with h1 | h1
  · have := List.pairwise_iff_getElem.1 hr m k hx hk h1
    omega
  · obtain rfl : k = m := by omega
    omega
theorem AtT.lt {l : List Rec} {t : Int} {k : Nat} (h : AtT l t k) : ltT l t = l.take k := by
  unfold ltT
  conv => lhs; rw [← List.take_append_drop k l]
  rw [List.filter_append, List.filter_eq_self.2, List.filter_eq_nil_iff.2, List.append_nil]
  · intro r hr
    obtain ⟨i, hi, rfl⟩ := List.getElem_of_mem hr
    rw [List.getElem_drop]
    rw [List.length_drop] at hi
    have := h.2.2 (k + i) (by omega) (by omega)
    simpa using this
  · intro r hr
    obtain ⟨i, hi, rfl⟩ := List.getElem_of_mem hr
    rw [List.getElem_take]
    rw [List.length_take] at hi
    have := h.2.1 i (by omega) (by omega)
    simpa using this
theorem AtT.gt {l : List Rec} {t : Int} {k : Nat} (h : AtT l t k) (hr : Rises l) : gtT l t = l.drop (if tAt l k = t then k + 1 else k) := by
  have key : ∀ m, k ≤ m → (∀ (i : Nat) (h : i < l.length), i < m → ¬ t < l[i].T) → (∀ (i : Nat) (h : i < l.length), m ≤ i → t < l[i].T) → gtT l t = l.drop m := by
    intro m hm h1 h2
    unfold gtT
    conv => lhs; rw [← List.take_append_drop m l]
    rw [List.filter_append, List.filter_eq_nil_iff.2, List.filter_eq_self.2, List.nil_append]
    · intro r hr
      obtain ⟨i, hi, rfl⟩ := List.getElem_of_mem hr
      rw [List.getElem_drop]
      rw [List.length_drop] at hi
      have := h2 (m + i) (by omega) (by omega)
      simpa using this
    · intro r hr
      obtain ⟨i, hi, rfl⟩ := List.getElem_of_mem hr
      rw [List.getElem_take]
      rw [List.length_take] at hi
      have := h1 i (by omega) (by omega)
      simpa using this
  split
  · rename_i he
    rcases Nat.lt_or_ge k l.length with hk | hk
    · rw [tAt_get hk] at he
      refine key (k + 1) (by omega) (fun i hi hik => ?_) fun i hi hik => ?_
      · rcases Nat.lt_or_ge i k with h1 | h1
        · have := h.2.1 i hi h1; omega
        · obtain rfl : i = k := by omega
          omega
      · have := List.pairwise_iff_getElem.1 hr k i hk hi (by omega)
        omega
    · refine key (k + 1) (by omega) (fun i hi hik => ?_) fun i hi hik => by omega
      have := h.2.1 i hi (by omega); omega
  · rename_i he
    refine key k (Nat.le_refl _) (fun i hi hik => by have := h.2.1 i hi hik; omega) fun i hi hik => ?_
    rcases Nat.lt_or_ge k i with h1 | h1
    · have h2 := List.pairwise_iff_getElem.1 hr k i (by omega) hi h1
      have h3 := h.2.2 k (by omega) (Nat.le_refl _)
      omega
    · obtain rfl : i = k := by omega
      rw [tAt_get hi] at he
      have h3 := h.2.2 i hi (Nat.le_refl _)
      omega
theorem AtT.find {l : List Rec} {t : Int} {k : Nat} (h : AtT l t k) (hk : k < l.length) (he : tAt l k = t) : findR l t = some l[k] :=
  NoT.hit (fun i hi hik => by have := h.2.1 i hi hik; omega) hk (by rw [← he, tAt_get hk])
theorem AtT.none {l : List Rec} {t : Int} {k : Nat} (h : AtT l t k) (hr : Rises l) (he : tAt l k ≠ t) : findR l t = Option.none := by
  refine NoT.none fun i hi _ => ?_
  rcases Nat.lt_or_ge i k with h1 | h1
  · have := h.2.1 i hi h1; omega
  · rcases Nat.lt_or_ge k i with h2 | h2
    · have h4 := List.pairwise_iff_getElem.1 hr k i (by omega) hi h2
      have h3 := h.2.2 k (by omega) (Nat.le_refl _)
      omega
    · obtain rfl : i = k := by omega
      rwa [tAt_get hi] at he

set_option maxRecDepth 100000 in
set_option maxHeartbeats 1000000 in
theorem search_any (A : Option Addr) (n c : Nat) (l : List Rec) (t : Int) (w : World) (hr : Sl lay_Record w (· < w.heap.size) A n c l) (hn : n ≤ 64) (hR : Rises l) (h0 : 0 ≤ t) :
    Calls Try.prog 103 #[.slice A n c, .int .u64 t, .func (.func 104) #[] #[]] w fun e w' => ∃ k : Nat, e = .returned (.tuple #[.int .i64 k, .bool (decide (tAt l k = t))]) ∧ AtT l t k ∧ Below w.heap.size w w' := by
  have HL := hid hr.len
  have HR := hid hR
  clear hR
  go_enter Try.func103, Try.ntmps103
  go_wp2
  go_loopw [9, 10] (fun u v wr => ∃ i j : Nat, u = .int .i64 i ∧ v = .int .i64 j ∧ Ends l t i j ∧ Below w.heap.size w wr) (fun u v _ => (intOf v).toNat - (intOf u).toNat)
  case atStart => exact ⟨0, n, rfl, rfl, ⟨Nat.zero_le _, by rw [HL.out]; exact Nat.le_refl _, fun _ _ h => absurd h (by omega), fun k h1 h2 => by rw [HL.out] at h1; omega⟩, Below.refl _ _⟩
  case round =>
    obtain ⟨i, j, rfl, rfl, he, hbel⟩ := hrel
    have hij := he.1
    have hjn : j ≤ n := by rw [← HL.out]; exact he.2.1
    have HE := hid he
    clear he
    by_cases hlt : i < j
    · have hmj : (i + j) / 2 < j := by omega
      have him : i ≤ (i + j) / 2 := by omega
      obtain ⟨b, off, A', n', c', hx, rfl, hb, h1, h2, hTb, hV⟩ := rec_at hr (j := (i + j) / 2) (by omega)
      have q1 := (hbel.cell (p := ⟨b, off + (i + j) / 2 * 2, none⟩) hb).trans h1
      have q2 := (hbel.cell (p := ⟨b, off + (i + j) / 2 * 2 + 1, none⟩) hb).trans h2
      have wm : IntKind.i64.wrap ((i : Int) + (j : Int)) = (i : Int) + (j : Int) := IntWalk.i64_in _ (by omega)
      clear h1 h2
      have PR := hid (show lay_Record.rep wr (· < w.heap.size) l[(i + j) / 2] #[.int .u64 l[(i + j) / 2].T, .slice A' n' c'].toList from rep_Record.2 ⟨A', n', c', rfl, wf_u64 hTb, hV.keep fun _ hp => hbel.cell hp⟩)
      have HUP := hid (fun hc => HE.out.up HR.out hmj him hx hc)
      have HDN := hid (fun hc => HE.out.down HR.out him hx hc)
      generalize hG : l[(i + j) / 2] = r at *
      clear hG
      go_wp2_with fail
      with_reducible refine (place1_any _ _ r t _ PR.out).mono ?_
      rintro e w2 ⟨rfl, hb2⟩
      have HB := hbel.trans (hb2.mono hbel.size)
      by_cases hc : r.T < t
      · have hcm : cmpI r.T t = -1 := by unfold cmpI; rw [if_pos hc]
        have HN := hid (HUP.out hc)
        rw [hcm]
        clear hc hcm
        go_wp2
        go_roundw
        case rel => exact ⟨(i + j) / 2 + 1, j, by go_num, rfl, HN.out, HB⟩
        case measure => simp [intOf]; omega
      · have hcm : decide (cmpI r.T t < 0) = false := by unfold cmpI; simp [hc]; split <;> omega
        have HN := hid (HDN.out (by omega))
        clear hc
        go_wp2
        go_roundw
        case rel => exact ⟨i, (i + j) / 2, rfl, by go_num, HN.out, HB⟩
        case measure => simp [intOf]; omega
    · obtain rfl : i = j := by omega
      have HA := hid (show AtT l t i from ⟨HE.out.2.1, HE.out.2.2.1, HE.out.2.2.2⟩)
      by_cases hin : i < n
      · obtain ⟨b, off, A', n', c', hx, rfl, hb, h1, h2, hTb, hV⟩ := rec_at hr (j := i) hin
        have q1 := (hbel.cell (p := ⟨b, off + i * 2, none⟩) hb).trans h1
        have q2 := (hbel.cell (p := ⟨b, off + i * 2 + 1, none⟩) hb).trans h2
        have PR := hid (show lay_Record.rep wr (· < w.heap.size) l[i] #[.int .u64 l[i].T, .slice A' n' c'].toList from rep_Record.2 ⟨A', n', c', rfl, wf_u64 hTb, hV.keep fun _ hp => hbel.cell hp⟩)
        have HT := hid (show (cmpI l[i].T t == 0) = decide (tAt l i = t) from by
          rw [tAt_get hx]
          unfold cmpI
          by_cases h : l[i].T = t
          · simp [h]
          · rw [decide_eq_false h]
            split
            · rfl
            · split
              · rfl
              · omega)
        clear h1 h2
        go_wp2_with fail
        with_reducible refine (place1_any _ _ l[i] t _ PR.out).mono ?_
        rintro e w2 ⟨rfl, hb2⟩
        have HB := hbel.trans (hb2.mono hbel.size)
        generalize cmpI l[i].T t = cc at *
        go_wp2
        go_ret2
        exact ⟨i, by rw [← HT.out]; rfl, HA.out, HB⟩
      · have hin' : decide ((i : Int) < (n : Int)) = false := by simp; omega
        have HT := hid (show decide (tAt l i = t) = false from decide_eq_false (by rw [tAt_out (by rw [HL.out]; omega)]; omega))
        go_wp2
        go_ret2
        exact ⟨i, by rw [HT.out]; rfl, HA.out, hbel⟩
theorem place_any (A : Option Addr) (n c : Nat) (l : List Rec) (t : Int) (w : World) (hr : Sl lay_Record w (· < w.heap.size) A n c l) (hn : n ≤ 64) (hR : Rises l) (h0 : 0 ≤ t) :
    Calls Try.prog 96 #[.slice A n c, .int .u64 t] w fun e w' => ∃ k : Nat, e = .returned (.tuple #[.int .i64 k, .bool (decide (tAt l k = t))]) ∧ AtT l t k ∧ Below w.heap.size w w' := by
  go_enter Try.func96, Try.ntmps96
  go_wp2_with fail
  with_reducible refine (search_any _ _ _ l t _ hr hn hR h0).mono ?_
  rintro e w2 ⟨k, rfl, hk, hb2⟩
  have HK := hid hk
  clear hk
  obtain ⟨dd, hdd⟩ : ∃ d, decide (tAt l k = t) = d := ⟨_, rfl⟩
  rw [hdd]
  have HD := hid hdd
  clear hdd
  go_wp2
  go_ret2
  exact ⟨k, by rw [HD.out]; rfl, HK.out, hb2⟩

set_option maxRecDepth 100000 in
set_option maxHeartbeats 1000000 in
theorem tlvFind_any (A : Option Addr) (n c : Nat) (l : List Rec) (t : Int) (w : World) (hr : Sl lay_Record w (· < w.heap.size) A n c l) (h0 : 0 ≤ t) :
    Calls Try.prog 82 #[.slice A n c, .int .u64 t] w fun e w' => ∃ v', e = .returned (.tuple #[v', .int .i64 (fE l t)]) ∧ Own w' w.heap.size 5 .u8 v' (fV l t) ∧ Below w.heap.size w w' := by
  have HL := hid hr.len
  by_cases hm : MayBe l
  case neg =>
    have HC := hid (chk_no hm)
    rw [fE_no hm, fV_no hm]
    go_enter Try.func82, Try.ntmps82
    go_wp2_with (go_at_call 79; go_must (refine (tlvCheck_any _ _ _ _ _ hr).mono ?_; rw [HC.out]; rintro e w1 ⟨rfl, hb1⟩))
    go_ret2
    exact ⟨_, rfl, Own.nil _ _ _ _, hb1⟩
  have HC := hid (chk_ok hm)
  have HM := hid hm
  have hn64 : n ≤ 64 := by rw [← HL.out]; exact hm.1
  rw [fE_ok hm, fV_ok hm]
  clear hm
  go_enter Try.func82, Try.ntmps82
  go_wp2_with (go_at_call 79; go_must (refine (tlvCheck_any _ _ _ _ _ hr).mono ?_; rw [HC.out]; rintro e w1 ⟨rfl, hb1⟩))
  with_reducible refine (place_any _ _ _ l t _ (hr.call hb1) hn64 HM.out.rises h0).mono ?_
  rintro e w2 ⟨k, rfl, hk, hb2⟩
  have HB := bel_call hb1 hb2
  have HK := hid hk
  clear hk
  by_cases he : tAt l k = t
  · have hkl : k < l.length := by
      rcases Nat.lt_or_ge k l.length with h | h
      · exact h
      · rw [tAt_out h] at he; omega
    have hkn : k < n := by rw [← HL.out]; exact hkl
    have HF := hid (HK.out.find hkl he)
    have HV := hid (show foV l t = l[k].V from by unfold foV; rw [HF.out]; rfl)
    have HE := hid (show foE l t = 0 from by unfold foE; rw [HF.out]; rfl)
    rw [decide_eq_true he]
    obtain ⟨b, off, A', n', c', hx, rfl, hb, h1, h2, hTb, hV⟩ := rec_at hr (j := k) hkn
    have q2 := (HB.cell (p := ⟨b, off + k * 2 + 1, none⟩) hb).trans h2
    have R := hid ((hV.rd (B := w.heap.size) fun _ h => h).below HB)
    have hn' : n' ≤ 4096 := by rw [← hV.len]; exact HM.out.small _ (List.getElem_mem hx)
    clear h1 h2 hV he
    go_wp2_with fail
    with_reducible refine (clone_any _ _ _ _ l[k].V _ R.out HB.size (by omega)).mono ?_
    rintro e w3 ⟨v3, rfl, hown3, hb3⟩
    go_wp2
    go_ret2
    exact ⟨_, by rw [HE.out]; rfl, by rw [HV.out]; exact hown3.weaken HB.size, bel_call HB hb3⟩
  · have HF := hid (HK.out.none HM.out.rises he)
    have HV := hid (show foV l t = [] from by unfold foV; rw [HF.out]; rfl)
    have HE := hid (show foE l t = 5 from by unfold foE; rw [HF.out]; rfl)
    rw [decide_eq_false he]
    clear he
    go_wp2
    go_ret2
    exact ⟨_, by rw [HE.out]; rfl, by rw [HV.out]; exact Own.nil _ _ _ _, HB⟩

set_option maxRecDepth 100000 in
set_option maxHeartbeats 1000000 in
theorem tlvNumber_any (A : Option Addr) (n c : Nat) (l : List Rec) (t : Int) (w : World) (hr : Sl lay_Record w (· < w.heap.size) A n c l) (h0 : 0 ≤ t) :
    Calls Try.prog 83 #[.slice A n c, .int .u64 t] w fun e w' => e = .returned (.tuple #[.int .u64 (nV l t), .int .i64 (nE l t)]) ∧ Below w.heap.size w w' := by
  unfold nV nE
  have HF := tlvFind_any A n c l t w hr h0
  generalize fE l t = e at *
  generalize fV l t = xs at *
  by_cases he : e = 0
  case neg =>
    rw [if_pos he, if_pos he]
    have hb : (e != 0) = true := by simpa using he
    clear he
    go_enter Try.func83, Try.ntmps83
    go_wp2_with (go_at_call 82; go_must (refine HF.mono ?_; rintro e w1 ⟨v1, rfl, hown1, hb1⟩))
    go_ret2
    exact ⟨rfl, hb1⟩
  subst he
  rw [if_neg (by simp), if_neg (by simp)]
  unfold numV numE
  by_cases he : getE xs = 0
  case neg =>
    rw [if_pos he, if_pos he]
    have HE := hid he
    have hb : (getE xs != 0) = true := by simpa using he
    clear he
    go_enter Try.func83, Try.ntmps83
    go_wp2_with (go_at_call 82; go_must (refine HF.mono ?_; rintro e w1 ⟨v1, rfl, hown1, hb1⟩; obtain ⟨A1, n1, c1, rfl, hr1⟩ := hown1.formN))
    with_reducible refine (get_bad _ _ _ _ xs _ hr1 HE.out).mono ?_
    rintro e w2 ⟨rfl, hb2⟩
    go_wp2
    go_ret2
    exact ⟨rfl, bel_call hb1 hb2⟩
  have hne : ¬ (getE xs ≠ 0) := by simp [he]
  rw [if_neg hne, if_neg hne]
  have HE := hid he
  clear he hne
  by_cases hkk : (oct (rdN xs)).length = xs.length
  all_goals
    have HK := hid hkk
    first | rw [if_pos hkk, if_pos hkk] | rw [if_neg hkk, if_neg hkk]
    clear hkk
    go_enter Try.func83, Try.ntmps83
    go_wp2_with (go_at_call 82; go_must (refine HF.mono ?_; rintro e w1 ⟨v1, rfl, hown1, hb1⟩; obtain ⟨A1, n1, c1, rfl, hr1⟩ := hown1.formN))
    obtain ⟨m, k, hX, hK, hk1, hk9, hkn, hm, -⟩ := num_at hr1 HE.out
    have HL := hid hr1.len
    have X := hid hX
    have K := hid hK
    clear hX hK
    with_reducible refine (get_ok _ _ _ _ xs _ hr1 HE.out).mono ?_
    rw [K.out, X.out]
    rintro e w2 ⟨rfl, hb2⟩
  · have hkk : k = n1 := by rw [← K.out, HK.out, HL.out]
    subst hkk
    go_wp2
    go_ret2
    exact ⟨by rw [X.out]; rfl, bel_call hb1 hb2⟩
  · have hkk : k < n1 := by have h1 : k ≠ n1 := fun h => HK.out (by rw [K.out, HL.out, h]); omega
    have hne : decide ((k : Int) < (n1 : Int)) = true := by simp; omega
    go_wp2
    go_ret2
    exact ⟨rfl, bel_call hb1 hb2⟩
end Go.Proofs.Ytgiapfenalhleaa
namespace Go.Proofs.Ytgiapfenalhleaa
open Go.RowKit Go.WalkArith

/-- A record that is none, in a block of its own. -/
def zRec : Obj := .cells #[.int .u64 0, .slice none 0 0] 83
theorem zfacts (w W : World) (h : Below (w.heap.size + 2) ((w.alloc zRec).alloc zRec) W) :
    W.cell? ⟨w.heap.size, 0, none⟩ = some (.int .u64 0) ∧ W.cell? ⟨w.heap.size, 1, none⟩ = some (.slice none 0 0) ∧ W.cell? ⟨w.heap.size + 1, 0, none⟩ = some (.int .u64 0) ∧ W.cell? ⟨w.heap.size + 1, 1, none⟩ = some (.slice none 0 0) ∧
    W.frozen? ⟨w.heap.size, 0, none⟩ = false ∧ W.frozen? ⟨w.heap.size, 1, none⟩ = false := by
  have e1 : W.heap[w.heap.size]? = some zRec := (h.block _ (by omega)).trans (by rw [Below.heap_alloc _ _ _ (by simp)]; exact heap_alloc_new _ _)
  have e2 : W.heap[w.heap.size + 1]? = some zRec := (h.block _ (by omega)).trans (alloc2_new _ _ _)
  refine ⟨?_, ?_, ?_, ?_, ?_, ?_⟩ <;> simp [World.cell?, World.frozen?, e1, e2, zRec]
theorem zbel (w : World) : Below w.heap.size w ((w.alloc zRec).alloc zRec) := bel_alloc (bel_alloc (Below.refl _ _) _) _
theorem set2 {w : World} {b : Nat} {u v x y : Value} (z0 : w.cell? ⟨b, 0, none⟩ = some u) (z1 : w.cell? ⟨b, 1, none⟩ = some v) :
    ((w.setCell ⟨b, 0, none⟩ x).setCell ⟨b, 1, none⟩ y).cell? ⟨b, 0, none⟩ = some x ∧ ((w.setCell ⟨b, 0, none⟩ x).setCell ⟨b, 1, none⟩ y).cell? ⟨b, 1, none⟩ = some y := by
  constructor <;> go_simp
theorem zsize (w : World) : ((w.alloc zRec).alloc zRec).heap.size = w.heap.size + 2 := by simp

set_option maxRecDepth 100000 in
set_option maxHeartbeats 1000000 in
theorem next_64 (A A' : Option Addr) (n c n' c' : Nat) (acc : List Rec) (ys : List Int) (w : World) (hu : Sl lay_Record w (· < w.heap.size) A n c acc) (h64 : acc.length = 64) :
    Calls Try.prog 81 #[.slice A n c, .slice A' n' c'] w fun e w' => e = .returned (.tuple #[.agg #[.int .u64 0, .slice none 0 0], .slice none 0 0, .int .i64 (stepE ys acc)]) ∧ Below w.heap.size w w' := by
  have hn : n = 64 := by rw [← hu.len, h64]
  have HE := hid (stepE_64 (ys := ys) h64)
  subst hn
  clear h64 hu
  go_enter Try.func81, Try.ntmps81
  go_wp2
  refine bodyPost_ret_by (results_ctt rfl _ _ w.heap.size 0 rfl [.int .u64 0, .slice none 0 0] _ (range2 ?_ ?_) Try.underlying83 rfl (by kernel_rfl)) rfl ?_
  · go_simp
  · go_simp
  · exact ⟨by rw [HE.out]; rfl, by (repeat (first | exact Below.refl _ _ | refine Below.drew ?_ | refine bel_drewN ?_ _ | refine bel_alloc ?_ _ | refine bel_call ?_ (by assumption)))⟩

set_option maxRecDepth 100000 in
set_option maxHeartbeats 1000000 in
theorem next_no (A A' : Option Addr) (n c n' c' : Nat) (acc : List Rec) (ys : List Int) (w : World) (hu : Sl lay_Record w (· < w.heap.size) A n c acc) (hr : Rd w w.heap.size .u8 A' n' c' ys) (h64 : acc.length ≠ 64) (he : getE ys ≠ 0) :
    Calls Try.prog 81 #[.slice A n c, .slice A' n' c'] w fun e w' => e = .returned (.tuple #[.agg #[.int .u64 0, .slice none 0 0], .slice none 0 0, .int .i64 (stepE ys acc)]) ∧ Below w.heap.size w w' := by
  have hn : ((n : Int) == 64) = false := by have := hu.len; simp; omega
  have HE := hid (stepE_1 h64 he)
  have HE1 := hid he
  have hne : (getE ys != 0) = true := by simpa using he
  have hb0 := zbel w
  have RR := hid ((hr.below hb0))
  have HZ := hid (zfacts w)
  have hz := zsize w
  unfold zRec at hb0 RR HZ hz
  clear h64 hu he hr
  go_enter Try.func81, Try.ntmps81
  go_wp2_with fail
  with_reducible refine (get_bad _ _ _ _ ys _ RR.out HE1.out).mono ?_
  rintro e w2 ⟨rfl, hb2⟩
  obtain ⟨z0, z1, y0, y1, f0, f1⟩ := HZ.out _ (by rw [hz] at hb2; exact hb2)
  go_wp2
  refine bodyPost_ret_by (results_ctt rfl _ _ w.heap.size 0 rfl [.int .u64 0, .slice none 0 0] _ (range2 (set2 z0 z1).1 (set2 z0 z1).2) Try.underlying83 rfl (by kernel_rfl)) rfl ?_
  exact ⟨by rw [HE.out]; rfl, ((hb0.trans (hb2.mono hb0.size)).setCell (Nat.le_refl _) _).setCell (Nat.le_refl _) _⟩
set_option maxRecDepth 100000 in
set_option maxHeartbeats 2000000 in
theorem next_go (A A' : Option Addr) (n c n' c' : Nat) (acc : List Rec) (ys : List Int) (w : World) (B : Nat) (hB : B ≤ w.heap.size) (hu : Sl lay_Record w (· < w.heap.size) A n c acc) (hr : Rd w B .u8 A' n' c' ys) (h64 : acc.length ≠ 64) (he1 : getE ys = 0) :
    Calls Try.prog 81 #[.slice A n c, .slice A' n' c'] w fun e w' => (stepE ys acc ≠ 0 ∧ e = .returned (.tuple #[.agg #[.int .u64 0, .slice none 0 0], .slice none 0 0, .int .i64 (stepE ys acc)]) ∧ Below w.heap.size w w') ∨
      (stepE ys acc = 0 ∧ ∃ (v : Value) (A2 : Option Addr) (n2 c2 : Nat), e = .returned (.tuple #[.agg #[.int .u64 (stepRec ys).T, v], .slice A2 n2 c2, .int .i64 0]) ∧ Own w' w.heap.size 5 .u8 v (stepRec ys).V ∧ Rd w' B .u8 A2 n2 c2 (stepRest ys) ∧ n2 < n' ∧ (0 ≤ (stepRec ys).T ∧ (stepRec ys).T ≤ 18446744073709551615) ∧ Below w.heap.size w w') := by
  have hn : ((n : Int) == 64) = false := by have := hu.len; simp; omega
  obtain ⟨x1, k1, hX1, hK1, hk1', hk19, hk1, hx1b, hR1⟩ := num_at hr he1
  have hcap := hr.cap
  unfold maxLen at hcap
  have hb0 := zbel w
  have RR := hid (hr.below (hb0.mono hB))
  have RR1 := hid (hR1.below (hb0.mono hB))
  have UU := hid (hu.keep fun _ hp => hb0.cell hp)
  have HZ := hid (zfacts w)
  have hz := zsize w
  have H64 := hid h64
  have HE1 := hid he1
  have X1 := hid hX1
  have K1 := hid hK1
  have hsl1 := run_from (P := Try.prog) 46 5 Try.underlying46 Try.elemU8 Try.infoU8 A' n' c' k1 hk1
  have HT := hid (show (stepRec ys).T = (x1 : Int) from hX1)
  unfold zRec at hb0 RR HZ hz UU RR1
  clear h64 hu he1 hr hX1 hK1 hR1
  go_enter Try.func81, Try.ntmps81
  go_wp2_with fail
  with_reducible refine (get_ok _ _ _ _ ys _ RR.out HE1.out).mono ?_
  rw [K1.out, X1.out]
  generalize (w.alloc (Obj.cells #[.int .u64 0, .slice none 0 0] 83)).alloc (Obj.cells #[.int .u64 0, .slice none 0 0] 83) = W0 at *
  rintro e w2 ⟨rfl, hb2⟩
  have U2 := hid (UU.out.keep fun _ hp => hb2.cell (Nat.lt_of_lt_of_le hp hb0.size))
  by_cases h3 : lastT acc < (x1 : Int)
  case neg =>
    have HE := hid (stepE_2 H64.out HE1.out (by rw [X1.out]; omega))
    have hd : decide (lastT acc < (x1 : Int)) = false := decide_eq_false h3
    clear h3
    obtain ⟨z0, z1, y0, y1, f0, f1⟩ := HZ.out _ (by rw [hz] at hb2; exact hb2)
    have HB := hb2
    go_wp2_with (go_at_call 94; go_must (refine (rises_any _ _ _ _ acc _ _ U2.out (by omega)).mono ?_; rw [hd]; rintro e w3 ⟨rfl, rfl⟩))
    refine bodyPost_ret_by (results_ctt rfl _ _ w.heap.size 0 rfl [.int .u64 0, .slice none 0 0] _ (range2 (set2 z0 z1).1 (set2 z0 z1).2) Try.underlying83 rfl (by kernel_rfl)) rfl ?_
    exact .inl ⟨by rw [HE.out]; decide, by rw [HE.out]; rfl, ((hb0.trans (HB.mono hb0.size)).setCell (Nat.le_refl _) _).setCell (Nat.le_refl _) _⟩
  have H3N := hid (show lastT acc < rdN ys from by rw [X1.out]; exact h3)
  have hd : decide (lastT acc < (x1 : Int)) = true := decide_eq_true h3
  clear h3
  have R1 := RR1.out.below (hb2.mono (Nat.le_trans hB hb0.size))
  have hR1 := hid R1
  by_cases he2 : getE (rest1 ys) = 0
  case neg =>
    have HE := hid (stepE_3 H64.out HE1.out H3N.out he2)
    have HE2 := hid he2
    have hne : (getE (rest1 ys) != 0) = true := by simpa using he2
    clear he2
    go_wp2_with (go_at_call 94; go_must (refine (rises_any _ _ _ _ acc _ _ U2.out (by omega)).mono ?_; rw [hd]; rintro e w3 ⟨rfl, rfl⟩))
    with_reducible refine (get_bad _ _ _ _ (rest1 ys) _ R1 HE2.out).mono ?_
    rintro e w3 ⟨rfl, hb3⟩
    have HB := bel_call hb2 hb3
    obtain ⟨z0, z1, y0, y1, f0, f1⟩ := HZ.out _ (by rw [hz] at HB; exact HB)
    go_wp2
    refine bodyPost_ret_by (results_ctt rfl _ _ w.heap.size 0 rfl [.int .u64 0, .slice none 0 0] _ (range2 (set2 z0 z1).1 (set2 z0 z1).2) Try.underlying83 rfl (by kernel_rfl)) rfl ?_
    exact .inl ⟨by rw [HE.out]; exact HE2.out, by rw [HE.out]; rfl, ((hb0.trans (HB.mono hb0.size)).setCell (Nat.le_refl _) _).setCell (Nat.le_refl _) _⟩
  obtain ⟨m, k2, hX2, hK2, hk2', hk29, hk2, hm1, hR2⟩ := num_at R1 he2
  have HE2 := hid he2
  have X2 := hid hX2
  have K2 := hid hK2
  have HR2 := hid hR2
  have hsl2 := run_from (P := Try.prog) 46 5 Try.underlying46 Try.elemU8 Try.infoU8 (cutA A' c' k1) (n' - k1) (c' - k1) k2 hk2
  have HRN := hid (show recN ys = m from by unfold recN; rw [hX2]; rfl)
  have HL2 := hid (show (rest2 ys).length = n' - k1 - k2 from hR2.len)
  clear he2 hX2 hK2 hR2
  go_wp2_with (go_at_call 94; go_must (refine (rises_any _ _ _ _ acc _ _ U2.out (by omega)).mono ?_; rw [hd]; rintro e w3 ⟨rfl, rfl⟩))
  with_reducible refine (get_ok _ _ _ _ (rest1 ys) _ R1 HE2.out).mono ?_
  rw [K2.out, X2.out]
  rintro e w3 ⟨rfl, hb3⟩
  have HB := bel_call hb2 hb3
  obtain ⟨z0, z1, y0, y1, f0, f1⟩ := HZ.out _ (by rw [hz] at HB; exact HB)
  by_cases h5 : 4096 < m
  · have HE := hid (stepE_4 H64.out HE1.out H3N.out HE2.out (by rw [X2.out]; omega))
    have h5' : (4096 : Int) < (m : Int) := by omega
    go_wp2
    refine bodyPost_ret_by (results_ctt rfl _ _ w.heap.size 0 rfl [.int .u64 0, .slice none 0 0] _ (range2 (set2 z0 z1).1 (set2 z0 z1).2) Try.underlying83 rfl (by kernel_rfl)) rfl ?_
    exact .inl ⟨by rw [HE.out]; decide, by rw [HE.out]; rfl, ((hb0.trans (HB.mono hb0.size)).setCell (Nat.le_refl _) _).setCell (Nat.le_refl _) _⟩
  have hm4 : m ≤ 4096 := by omega
  have d5 : decide ((4096 : Int) < (m : Int)) = false := by simp; omega
  by_cases h6 : n' - k1 - k2 < m
  · have HE := hid (stepE_5 H64.out HE1.out H3N.out HE2.out (by rw [X2.out]; omega) (by rw [HRN.out, HL2.out]; exact h6))
    have h6' : ((n' - k1 - k2 : Nat) : Int) < (m : Int) := by omega
    go_wp2
    refine bodyPost_ret_by (results_ctt rfl _ _ w.heap.size 0 rfl [.int .u64 0, .slice none 0 0] _ (range2 (set2 z0 z1).1 (set2 z0 z1).2) Try.underlying83 rfl (by kernel_rfl)) rfl ?_
    exact .inl ⟨by rw [HE.out]; decide, by rw [HE.out]; rfl, ((hb0.trans (HB.mono hb0.size)).setCell (Nat.le_refl _) _).setCell (Nat.le_refl _) _⟩
  have h6' : m ≤ n' - k1 - k2 := by omega
  have h6'' : decide (((n' - k1 - k2 : Nat) : Int) < (m : Int)) = false := by simp; omega
  have hup := run_uptoK (P := Try.prog) 46 5 .u64 Try.underlying46 Try.elemU8 Try.infoU8 (cutA (cutA A' c' k1) (c' - k1) k2) (n' - k1 - k2) (c' - k1 - k2) m (by have := HR2.out.cap; omega)
  have hfr := run_fromK (P := Try.prog) 46 5 .u64 Try.underlying46 Try.elemU8 Try.infoU8 (cutA (cutA A' c' k1) (c' - k1) k2) (n' - k1 - k2) (c' - k1 - k2) m h6'
  have HS := hid (stepE_6 H64.out HE1.out H3N.out HE2.out (by rw [X2.out]; omega) (by rw [HRN.out, HL2.out]; exact h6'))
  have hzz : W0.heap.size ≤ w3.heap.size := HB.size
  have R2 := HR2.out.below (hb3.mono (Nat.le_trans hB (Nat.le_trans hb0.size hb2.size)))
  have RU := hid (R2.upto h6')
  have RF := hid (R2.cut h6')
  have hgw : w.heap.size ≤ w3.heap.size := Nat.le_trans hb0.size hzz
  have hBw : B ≤ w3.heap.size := Nat.le_trans hB hgw
  have hmb : m < 140737488355328 := by omega
  have HZ4 := hid (fun (W : World) (h : Below W0.heap.size W0 W) => HZ.out W (by rw [hz] at h; exact h))
  clear R2
  go_wp2_with fail
  go_region_held3 (fun w' => (w'.cell? ⟨w.heap.size, 0, none⟩).isSome = true ∧ (w'.cell? ⟨w.heap.size, 1, none⟩).isSome = true ∧ w'.frozen? ⟨w.heap.size, 0, none⟩ = false ∧ w'.frozen? ⟨w.heap.size, 1, none⟩ = false) (first | exact ⟨by rw [z0]; rfl, by rw [z1]; rfl, f0, f1⟩ | exact ⟨by rw [p0]; rfl, by rw [p1]; rfl, g0, g1⟩ | exact ⟨by rw [(set2 p0 p1).1]; rfl, by rw [(set2 p0 p1).2]; rfl, by simp [g0], by simp [g1]⟩ | go_keep)
    (first
      | (go_at_call 62; (refine (clone_any _ _ _ B ((rest2 ys).take m) _ RU.out.drew hBw hmb).mono ?_; rintro e w4 ⟨v4, rfl, hown4, hb4⟩; obtain ⟨A4, n4, c4, rfl, hr4⟩ := hown4.formN; have HB4 := bel_call HB.drew hb4; obtain ⟨p0, p1, -, -, g0, g1⟩ := HZ4.out w4 HB4)))
  have hgw' : w.heap.size < w3.heap.size := by have h9 := hzz; rw [hz] at h9; omega
  have F3 : Below w.heap.size w3 ((w4.setCell ⟨w.heap.size, 0, none⟩ (.int .u64 x1)).setCell ⟨w.heap.size, 1, none⟩ (.slice A4 n4 c4)) := (((Below.refl w.heap.size w3).drew.trans (hb4.mono hgw)).setCell (Nat.le_refl _) _).setCell (Nat.le_refl _) _
  go_wp2
  refine bodyPost_ret_by (results_ctt rfl _ _ w.heap.size 0 rfl [.int .u64 x1, .slice A4 n4 c4] _ (range2 (set2 p0 p1).1 (set2 p0 p1).2) Try.underlying83 rfl (by kernel_rfl)) rfl ?_
  refine .inr ⟨HS.out, _, _, _, _, by rw [HT.out]; rfl, ?_, ?_, by omega, by rw [HT.out]; omega, (hb0.trans (HB.mono hb0.size)).trans F3⟩
  · rw [show (stepRec ys).V = (rest2 ys).take (recN ys) from rfl, HRN.out]
    exact (show Own _ w3.heap.size _ _ _ _ from ⟨ownsRow_setCell_below (ownsRow_setCell_below hown4.1 hgw' _) hgw' _, hown4.2⟩).weaken hgw
  · rw [show stepRest ys = (rest2 ys).drop (recN ys) from rfl, HRN.out]
    exact RF.out.below (F3.mono hB)

set_option maxRecDepth 100000 in
set_option maxHeartbeats 1000000 in
theorem tlvGet_any (A : Option Addr) (n c : Nat) (xs : List Int) (w : World) (hr : Rd w w.heap.size .u8 A n c xs) :
    Calls Try.prog 53 #[.slice A n c] w fun e w' => ∃ v', e = .returned (.tuple #[v', .int .i64 (getR xs).2]) ∧ OwnL lay_Record w' w.heap.size (some w.heap.size) 83 v' (getR xs).1 ∧ Below w.heap.size w w' := by
  have hcap := hr.cap
  unfold maxLen at hcap
  have hlen := hr.len
  by_cases hbig : 65535 < n
  · have HS := hid (show getR xs = ([], 4) from by unfold getR; rw [if_neg (by omega)])
    have hb' : (65535 : Int) < n := by omega
    go_enter Try.func53, Try.ntmps53
    go_wp2
    go_ret2
    exact ⟨_, by rw [HS.out]; rfl, by rw [HS.out]; exact OwnL.nil _ _ _ _ _, Below.refl _ _⟩
  have HS := hid (show getR xs = getRA xs.length xs [] from by unfold getR; rw [if_pos (by omega)])
  have hd : decide ((65535 : Int) < (n : Int)) = false := by simp; omega
  have hn : n ≤ 65535 := by omega
  clear hlen hbig
  go_enter Try.func53, Try.ntmps53
  go_wp2
  go_loopw [0, 4] (fun s u wr => GetInv w n xs s u wr) (fun s _ _ => slen s)
  case atStart => exact ⟨A, n, c, xs.length, xs, [], rfl, hr, OwnL.nil _ _ _ _ _, Below.refl _ _, Nat.le_refl _, by simp, Nat.le_refl _, rfl⟩
  case round =>
    obtain ⟨A', n', c', f, ys, acc, rfl, hr', hown, hbel, hnn, hac, hf, hall⟩ := hrel
    have HA := hid hall
    clear hall
    have hl' := hr'.len
    have hsz := hbel.size
    by_cases hz : n' = 0
    · have hy : ys = [] := List.eq_nil_of_length_eq_zero (by omega)
      subst hz hy
      go_wp2
      go_ret2
      exact ⟨_, by rw [HS.out, HA.out, getRA_nil]; rfl, by rw [HS.out, HA.out, getRA_nil]; exact hown, hbel⟩
    have hpos : (0 : Int) < (n' : Int) := by omega
    have hy : ys ≠ [] := fun e => hz (by rw [← hl', e]; rfl)
    have HY := hid hy
    have HF := hid hf
    have HAC := hid hac
    obtain ⟨Au, nu, cu, rfl, hu⟩ := hown.read
    have hnu : nu ≤ 64 := by rw [← hu.len]; exact hac
    have HN := hid (show Calls Try.prog 81 #[.slice Au nu cu, .slice A' n' c'] wr fun e w' => (stepE ys acc ≠ 0 ∧ e = .returned (.tuple #[.agg #[.int .u64 0, .slice none 0 0], .slice none 0 0, .int .i64 (stepE ys acc)]) ∧ Below wr.heap.size wr w') ∨
      (stepE ys acc = 0 ∧ ∃ (v : Value) (A2 : Option Addr) (n2 c2 : Nat), e = .returned (.tuple #[.agg #[.int .u64 (stepRec ys).T, v], .slice A2 n2 c2, .int .i64 0]) ∧ Own w' wr.heap.size 5 .u8 v (stepRec ys).V ∧ Rd w' w.heap.size .u8 A2 n2 c2 (stepRest ys) ∧ n2 < n' ∧ (0 ≤ (stepRec ys).T ∧ (stepRec ys).T ≤ 18446744073709551615) ∧ Below wr.heap.size wr w') from by
      by_cases h64 : acc.length = 64
      · exact (next_64 _ _ _ _ _ _ acc ys _ hu h64).mono fun e w' h => .inl ⟨by rw [stepE_64 h64]; decide, h⟩
      · by_cases he1 : getE ys = 0
        · exact next_go _ _ _ _ _ _ acc ys _ w.heap.size hsz hu hr' h64 he1
        · exact (next_no _ _ _ _ _ _ acc ys _ hu (hr'.more hsz) h64 he1).mono fun e w' h => .inl ⟨by rw [stepE_1 h64 he1]; exact he1, h⟩)
    clear hy hl' hf hac
    go_wp2_with fail
    with_reducible refine HN.out.mono ?_
    rintro e w2 (⟨hne, rfl, hb2⟩ | ⟨heq, v, A2, n2, c2, rfl, hov, hr2, hlt2, hTb, hb2⟩)
    · have HE := hid hne
      have hnb : (stepE ys acc != 0) = true := by simpa using hne
      clear hne
      go_wp2
      go_ret2
      have h5 : getR xs = ([], stepE ys acc) := by rw [HS.out, HA.out, getRA_bad f ys acc HF.out HY.out HE.out]
      exact ⟨_, by rw [h5]; rfl, by rw [h5]; exact OwnL.nil _ _ _ _ _, (hbel.trans (hb2.mono hsz)).trans ((Below.refl _ _).alloc (Nat.le_trans hsz hb2.size) _)⟩
    · obtain ⟨f', hstep, hfl⟩ := getRA_step f ys acc HF.out HY.out heq
      have HSTEP := hid hstep
      have HFL := hid hfl
      have H64 := hid (stepE_ok heq).1
      clear hstep hfl heq
      obtain ⟨A5, n5, c5, rfl, hs5⟩ := hov.slI
      have hz2 : w.heap.size ≤ w2.heap.size := Nat.le_trans hsz hb2.size
      have hR := hid (show lay_Record.rep w2 (From w2 wr.heap.size) (stepRec ys) (#[.int .u64 (stepRec ys).T, .slice A5 n5 c5] : Array Value).toList from rep_Record.2 ⟨A5, n5, c5, rfl, wf_u64 hTb, hs5⟩)
      have hEl : ∀ b, From w2 wr.heap.size b → Els w2 (some w.heap.size) (.slice Au nu cu) b := fun b hb => ⟨⟨Nat.le_trans hsz hb.1, hb.2.2⟩, hb.2.1, fun he => by have h9 := hown.lt he.symm; have h8 := hb.1; omega⟩
      have HEL := hid hEl
      have hown2 := hown.keep hb2
      have hal := HAC.out
      have hWW : ∀ o, Below w2.heap.size w2 (w2.alloc o) := fun o => bel_alloc (Below.refl _ _) _
      have HWW := hid (fun (o o' : Obj) => bel_alloc (bel_alloc (Below.refl w2.heap.size w2) o) o')
      clear hWW hEl
      go_wp2_with (at_builtin; go_must (refine wpList_pushG (w := w2) rfl (.tmp 24) (.tmp 26) 81 rfl w.heap.size (some w.heap.size) 83 _ 32 Try.underlying81 Try.infoRec rfl (by decide) (.slice Au nu cu) acc (stepRec ys) #[.int .u64 (stepRec ys).T, .slice A5 n5 c5] (From w2 wr.heap.size) (w2.heap.size + 1) rfl rfl (HWW.out _ _) (alloc2_new _ _ _) hown2 hR.out HEL.out hz2 (by omega) (by unfold maxLen; omega) ?_; intro v6 w6 hown6 hext6))
      have hb6 := (hown2.keep (HWW.out _ _)).below hext6 (Nat.le_trans hz2 (HWW.out _ _).size)
      have hbz := (HWW.out (Obj.cells #[.int .u64 (stepRec ys).T, .slice A5 n5 c5] 83) (Obj.cells #[.int .u64 (stepRec ys).T, .slice A5 n5 c5] 83)).mono hz2
      go_roundw
      case rel => exact ⟨_, _, _, f', stepRest ys, acc ++ [stepRec ys], rfl, (hr2.below hbz).below hb6, hown6, ((hbel.trans (hb2.mono hsz)).trans hbz).trans hb6, by omega, by have := H64.out; simp; omega, HFL.out, HA.out.trans HSTEP.out⟩
      case measure => simp [slen]; omega
end Go.Proofs.Ytgiapfenalhleaa
