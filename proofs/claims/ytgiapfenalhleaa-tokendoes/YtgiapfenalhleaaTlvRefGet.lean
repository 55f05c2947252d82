/-
  The contract of the document's own Get of layer 2.
-/
import Derived.Test.YtgiapfenalhleaaTlvRefPut
namespace Go.Proofs.Ytgiapfenalhleaa
open Go.RowKit Go.WalkArith

theorem lastT_snoc (acc : List Rec) (r : Rec) : lastT (acc ++ [r]) = r.T := by simp [lastT]
theorem lastT_at {acc : List Rec} (h : 0 < acc.length) : ∃ h' : acc.length - 1 < acc.length, lastT acc = acc[acc.length - 1].T := by
  refine ⟨by omega, ?_⟩
  unfold lastT
  rw [List.getLast?_eq_getElem?, List.getElem?_eq_getElem (by omega)]
  rfl
theorem Try.infoRec : (Try.prog.info? 83).map (fun i => (i.zero, i.size, i.bytes)) = some (some (.agg #[.int .u64 0, .slice none 0 0]), lay_Record.size, 32) := by kernel_rfl

/-- What a number that is read is, in plain letters. -/
theorem num_at {w : World} {B : Nat} {A : Option Addr} {n c : Nat} {ys : List Int} (hr : Rd w B .u8 A n c ys) (he : getE ys = 0) :
    ∃ (m k : Nat), rdN ys = (m : Int) ∧ (oct (rdN ys)).length = k ∧ 1 ≤ k ∧ k ≤ 9 ∧ k ≤ n ∧ (m : Int) ≤ 18446744073709551615 ∧ Rd w B .u8 (cutA A c k) (n - k) (c - k) (rest1 ys) := by
  have hok := getE_ok he
  have hol := oct_len (rdN ys)
  rw [hok.2] at hol
  have h8 := bhd_le (nth ys 0)
  have hl := hr.len
  have hrb := rdN_bd ys (by omega) fun x hx => bounds_u8 (hr.wf x hx)
  obtain ⟨m, hm⟩ := Int.eq_ofNat_of_zero_le hrb.1
  exact ⟨m, _, hm, rfl, by omega, by omega, by omega, by omega, hr.cut (by omega)⟩
theorem stepE_64 {ys : List Int} {acc : List Rec} (h : acc.length = 64) : stepE ys acc = 4 := by unfold stepE; rw [if_pos h]
theorem stepE_1 {ys : List Int} {acc : List Rec} (h : acc.length ≠ 64) (h1 : getE ys ≠ 0) : stepE ys acc = getE ys := by unfold stepE; rw [if_neg h, if_pos h1]
theorem stepE_2 {ys : List Int} {acc : List Rec} (h : acc.length ≠ 64) (h1 : getE ys = 0) (h2 : rdN ys ≤ lastT acc) : stepE ys acc = 2 := by unfold stepE; rw [if_neg h, if_neg (by simp [h1]), if_pos h2]
theorem stepE_3 {ys : List Int} {acc : List Rec} (h : acc.length ≠ 64) (h1 : getE ys = 0) (h2 : lastT acc < rdN ys) (h3 : getE (rest1 ys) ≠ 0) : stepE ys acc = getE (rest1 ys) := by unfold stepE; rw [if_neg h, if_neg (by simp [h1]), if_neg (by omega), if_pos h3]
theorem stepE_4 {ys : List Int} {acc : List Rec} (h : acc.length ≠ 64) (h1 : getE ys = 0) (h2 : lastT acc < rdN ys) (h3 : getE (rest1 ys) = 0) (h4 : 4096 < rdN (rest1 ys)) : stepE ys acc = 4 := by unfold stepE; rw [if_neg h, if_neg (by simp [h1]), if_neg (by omega), if_neg (by simp [h3]), if_pos h4]
theorem stepE_5 {ys : List Int} {acc : List Rec} (h : acc.length ≠ 64) (h1 : getE ys = 0) (h2 : lastT acc < rdN ys) (h3 : getE (rest1 ys) = 0) (h4 : rdN (rest1 ys) ≤ 4096) (h5 : (rest2 ys).length < recN ys) : stepE ys acc = 3 := by unfold stepE; rw [if_neg h, if_neg (by simp [h1]), if_neg (by omega), if_neg (by simp [h3]), if_neg (by omega), if_pos h5]
theorem stepE_6 {ys : List Int} {acc : List Rec} (h : acc.length ≠ 64) (h1 : getE ys = 0) (h2 : lastT acc < rdN ys) (h3 : getE (rest1 ys) = 0) (h4 : rdN (rest1 ys) ≤ 4096) (h5 : recN ys ≤ (rest2 ys).length) : stepE ys acc = 0 := by unfold stepE; rw [if_neg h, if_neg (by simp [h1]), if_neg (by omega), if_neg (by simp [h3]), if_neg (by omega), if_neg (by omega)]

/-- What holds at a round's head. -/
def GetInv (w : World) (n : Nat) (xs : List Int) (s u : Value) (wr : World) : Prop :=
  ∃ (A' : Option Addr) (n' c' f : Nat) (ys : List Int) (acc : List Rec), s = .slice A' n' c' ∧ Rd wr w.heap.size .u8 A' n' c' ys ∧ OwnL lay_Record wr w.heap.size (some w.heap.size) 83 u acc ∧ Below w.heap.size w wr ∧ n' ≤ n ∧ acc.length ≤ 64 ∧ ys.length ≤ f ∧ getRA xs.length xs [] = getRA f ys acc

set_option maxRecDepth 100000 in
set_option maxHeartbeats 1000000 in
theorem refGetR_any (A : Option Addr) (n c : Nat) (xs : List Int) (w : World) (hr : Rd w w.heap.size .u8 A n c xs) :
    Calls Try.prog 57 #[.slice A n c] w fun e w' => ∃ v', e = .returned (.tuple #[v', .int .i64 (getR xs).2]) ∧ OwnL lay_Record w' w.heap.size (some w.heap.size) 83 v' (getR xs).1 ∧ Below w.heap.size w w' := by
  have hcap := hr.cap
  unfold maxLen at hcap
  have hlen := hr.len
  by_cases hbig : 65535 < n
  · have HS := hid (show getR xs = ([], 4) from by unfold getR; rw [if_neg (by omega)])
    have hb' : (65535 : Int) < n := by omega
    go_enter Try.func57, Try.ntmps57
    go_wp2
    go_ret2
    exact ⟨_, by rw [HS.out]; rfl, by rw [HS.out]; exact OwnL.nil _ _ _ _ _, Below.refl _ _⟩
  have HS := hid (show getR xs = getRA xs.length xs [] from by unfold getR; rw [if_pos (by omega)])
  have hd : decide ((65535 : Int) < (n : Int)) = false := by simp; omega
  have hn : n ≤ 65535 := by omega
  clear hlen hbig
  go_enter Try.func57, Try.ntmps57
  go_wp2
  go_loopw [0, 4] (fun s u wr => GetInv w n xs s u wr) (fun s _ _ => slen s)
  case atStart => exact ⟨A, n, c, xs.length, xs, [], rfl, hr, OwnL.nil _ _ _ _ _, Below.refl _ _, Nat.le_refl _, by simp, Nat.le_refl _, rfl⟩
  case round =>
    obtain ⟨A', n', c', f, ys, acc, rfl, hr', hown, hbel, hnn, hac, hf, hall⟩ := hrel
    have HA := hid hall
    clear hall
    have hcap' := hr'.cap
    unfold maxLen at hcap'
    have hl' := hr'.len
    have hsz := hbel.size
    have bad : ∀ (W : World) (e : Int), ys ≠ [] → stepE ys acc = e → e ≠ 0 → Below wr.heap.size wr W → ∃ v', (Ending.returned (.tuple #[.slice none 0 0, .int .i64 e]) : Ending) = .returned (.tuple #[v', .int .i64 (getR xs).2]) ∧ OwnL lay_Record W w.heap.size (some w.heap.size) 83 v' (getR xs).1 ∧ Below w.heap.size w W := by
      intro W e h1 h2 h3 h4
      have h5 : getR xs = ([], e) := by rw [HS.out, HA.out, getRA_bad f ys acc hf h1 (by omega), h2]
      rw [h5]
      exact ⟨_, rfl, OwnL.nil _ _ _ _ _, hbel.trans (h4.mono hsz)⟩
    have BAD := hid bad
    clear bad
    by_cases hz : n' = 0
    · have hy : ys = [] := List.eq_nil_of_length_eq_zero (by omega)
      subst hz hy
      go_wp2
      go_ret2
      exact ⟨_, by rw [HS.out, HA.out, getRA_nil]; rfl, by rw [HS.out, HA.out, getRA_nil]; exact hown, hbel⟩
    have hpos : (0 : Int) < (n' : Int) := by omega
    have hy : ys ≠ [] := fun e => hz (by rw [← hl', e]; rfl)
    have HY := hid hy
    obtain ⟨Au, nu, cu, rfl, hu⟩ := hown.sl (low := w.heap.size) (Nat.le_refl _) (Nat.le_refl _)
    have hul := hu.len
    have hucap := hu.cap
    unfold maxLen at hucap
    have HUL := hid hul
    clear hy
    by_cases h64 : acc.length = 64
    · have HE := hid (show stepE ys acc = 4 from by unfold stepE; rw [if_pos h64])
      have hnu : ((nu : Int) == 64) = true := by simp; omega
      clear hul h64
      go_wp2
      go_ret2
      exact BAD.out _ 4 HY.out HE.out (by omega) (Below.refl _ _)
    have hnu : ((nu : Int) == 64) = false := by simp; omega
    have hnu64 : nu ≤ 64 := by omega
    have H64 := hid h64
    clear hul h64
    by_cases he1 : getE ys = 0
    case neg =>
      have HE := hid (show stepE ys acc = getE ys from by unfold stepE; rw [if_neg H64.out, if_pos he1])
      have HE1 := hid he1
      have hne : (getE ys != 0) = true := by simpa using he1
      clear he1
      go_wp2_with (go_at_call 85; go_must (refine (refGet_bad _ _ _ ys _ (hr'.more hsz) HE1.out).mono ?_; rintro e w2 ⟨rfl, hb2⟩))
      go_ret2
      exact BAD.out _ _ HY.out HE.out HE1.out hb2
    obtain ⟨x1, k1, hX1, hK1, hk1', hk19, hk1, hx1b, hR1⟩ := num_at hr' he1
    have HE1 := hid he1
    have X1 := hid hX1
    have K1 := hid hK1
    have HR1 := hid hR1
    have hsl1 := run_from (P := Try.prog) 46 5 Try.underlying46 Try.elemU8 Try.infoU8 A' n' c' k1 hk1
    have hguard : nu = 0 ∧ lastT acc = -1 ∨ (0 < nu ∧ ∃ bu ou, Au = some ⟨bu, ou, none⟩ ∧ bu < wr.heap.size ∧ wr.cell? ⟨bu, ou + (nu - 1) * 2, none⟩ = some (.int .u64 (lastT acc)) ∧ 0 ≤ lastT acc) := by
      rcases Nat.eq_zero_or_pos nu with h | h
      · have hacc : acc = [] := List.eq_nil_of_length_eq_zero (by rw [HUL.out]; exact h)
        exact .inl ⟨h, by rw [hacc]; rfl⟩
      · obtain ⟨bu, ou, _, _, _, hx, e, hS, hc, _, hT, _⟩ := rec_at hu (j := nu - 1) (by omega)
        obtain ⟨h', hlt⟩ := lastT_at (acc := acc) (by rw [HUL.out]; exact h)
        have hidx : lastT acc = acc[nu - 1].T := by rw [hlt]; simp only [HUL.out]
        exact .inr ⟨h, bu, ou, e, hS.2.1, by rw [hidx]; exact hc, by rw [hidx]; exact hT.1⟩
    have HLY := hid hl'
    clear he1 hX1 hK1 hR1 hl'
    rcases hguard with ⟨hg0, hlt1⟩ | ⟨hg0, bu, ou, rfl, hbu, hq, hlt0⟩
    · have H3N := hid (show lastT acc < rdN ys from by rw [hlt1, X1.out]; omega)
      subst hg0
      clear hlt1
      go_wp2_with fail
      with_reducible refine (refGet_ok _ _ _ ys _ (hr'.more hsz) HE1.out).mono ?_
      rw [K1.out, X1.out]
      rintro e w2 ⟨rfl, hb2⟩
      have hz2 : w.heap.size ≤ w2.heap.size := Nat.le_trans hsz hb2.size
      have R1 := HR1.out.below (hb2.mono hsz)
      by_cases he2 : getE (rest1 ys) = 0
      case neg =>
        have HE := hid (stepE_3 H64.out HE1.out H3N.out he2)
        have HE2 := hid he2
        have hne : (getE (rest1 ys) != 0) = true := by simpa using he2
        clear he2
        go_wp2_with fail
        with_reducible refine (refGet_bad _ _ _ (rest1 ys) _ (R1.more hz2) HE2.out).mono ?_
        rintro e w3 ⟨rfl, hb3⟩
        go_wp2
        go_ret2
        exact BAD.out _ _ HY.out HE.out HE2.out (bel_call hb2 hb3)
      obtain ⟨m, k2, hX2, hK2, hk2', hk29, hk2, hm1, hR2⟩ := num_at HR1.out he2
      have HE2 := hid he2
      have X2 := hid hX2
      have K2 := hid hK2
      have HR2 := hid hR2
      have hsl2 := run_from (P := Try.prog) 46 5 Try.underlying46 Try.elemU8 Try.infoU8 (cutA A' c' k1) (n' - k1) (c' - k1) k2 hk2
      have HRN := hid (show recN ys = m from by unfold recN; rw [hX2]; rfl)
      have HL2 := hid (show (rest2 ys).length = n' - k1 - k2 from hR2.len)
      clear he2 hX2 hK2 hR2
      go_wp2_with fail
      with_reducible refine (refGet_ok _ _ _ (rest1 ys) _ (R1.more hz2) HE2.out).mono ?_
      rw [K2.out, X2.out]
      rintro e w3 ⟨rfl, hb3⟩
      have hb23 := bel_call hb2 hb3
      by_cases h5 : 4096 < m
      · have HE := hid (stepE_4 H64.out HE1.out H3N.out HE2.out (by rw [X2.out]; omega))
        have h5' : (4096 : Int) < (m : Int) := by omega
        go_wp2
        go_ret2
        exact BAD.out _ 4 HY.out HE.out (by omega) hb23
      have hm4 : m ≤ 4096 := by omega
      have d5 : decide ((4096 : Int) < (m : Int)) = false := by simp; omega
      by_cases h6 : n' - k1 - k2 < m
      · have HE := hid (stepE_5 H64.out HE1.out H3N.out HE2.out (by rw [X2.out]; omega) (by rw [HRN.out, HL2.out]; exact h6))
        have h6' : ((n' - k1 - k2 : Nat) : Int) < (m : Int) := by omega
        go_wp2
        go_ret2
        exact BAD.out _ 3 HY.out HE.out (by omega) hb23
      have h6' : m ≤ n' - k1 - k2 := by omega
      have h6'' : decide (((n' - k1 - k2 : Nat) : Int) < (m : Int)) = false := by simp; omega
      have hup := run_uptoK (P := Try.prog) 46 5 .u64 Try.underlying46 Try.elemU8 Try.infoU8 (cutA (cutA A' c' k1) (c' - k1) k2) (n' - k1 - k2) (c' - k1 - k2) m (by have := HR2.out.cap; omega)
      have hfr := run_fromK (P := Try.prog) 46 5 .u64 Try.underlying46 Try.elemU8 Try.infoU8 (cutA (cutA A' c' k1) (c' - k1) k2) (n' - k1 - k2) (c' - k1 - k2) m h6'
      obtain ⟨f', hstep, hfl⟩ := getRA_step f ys acc hf HY.out (stepE_6 H64.out HE1.out H3N.out HE2.out (by rw [X2.out]; omega) (by rw [HRN.out, HL2.out]; exact h6'))
      have HSTEP := hid hstep
      have HFL := hid hfl
      have R2 := HR2.out.below (hb23.mono hsz)
      have RU := R2.upto h6'
      have RF := hid (R2.cut h6')
      have hown3 := hown.keep hb23
      clear hstep hfl R1 R2 hf
      go_wp2_with (first | (at_builtin; refine wpList_cat rfl (.const (.slice none 0 0)) _ 46 rfl w3.heap.size 5 .u8 1 Try.underlying46 Try.infoU8 (.slice none 0 0) [] _ _ m _ _ rfl rfl (Own.nil _ _ _ _) RU (Nat.le_refl _) (by simp; omega) (by simp; omega) ?_; intro v5 w5 hown5 hext5; simp only [List.nil_append] at hown5; obtain ⟨A5, n5, c5, rfl, hs5⟩ := hown5.slI; have hb5 := hext5.of_nil; have hz5 : w.heap.size ≤ w5.heap.size := Nat.le_trans (Nat.le_trans hsz hb23.size) hb5.size) | (at_builtin; go_must (refine wpList_pushL rfl (.tmp 63) (.tmp 70) 81 rfl w.heap.size (some w.heap.size) 83 _ 32 Try.underlying81 Try.infoRec rfl (by decide) _ acc (stepRec ys) _ (From w5 w3.heap.size) rfl rfl (hown3.keep hb5) (rep_Record.2 ⟨A5, n5, c5, by rw [show (stepRec ys).T = rdN ys from rfl, X1.out], wf_u64 (by rw [show (stepRec ys).T = rdN ys from rfl, X1.out]; omega), by rw [show (stepRec ys).V = (rest2 ys).take (recN ys) from rfl, HRN.out]; exact hs5⟩) (fun b hb => ⟨⟨Nat.le_trans (Nat.le_trans hsz hb23.size) hb.1, hb.2.2⟩, hb.2.1, fun he => by (have h9 := hown3.lt he.symm; have h8 := hb.1; omega)⟩) hz5 (by omega) (by unfold maxLen; omega) ?_; intro v6 w6 hown6 hext6)))
      go_roundw
      case rel => exact ⟨_, _, _, f', stepRest ys, acc ++ [stepRec ys], rfl, by rw [show stepRest ys = (rest2 ys).drop (recN ys) from rfl, HRN.out]; exact (RF.out.below (hb5.mono (Nat.le_trans hsz hb23.size))).below ((hown3.keep hb5).below hext6 hz5), hown6, ((hbel.trans (hb23.mono hsz)).trans (hb5.mono (Nat.le_trans hsz hb23.size))).trans ((hown3.keep hb5).below hext6 hz5), by omega, by have := H64.out; simp; omega, HFL.out, HA.out.trans HSTEP.out⟩
      case measure => simp [slen]; omega
    · have dg : decide (0 < nu) = true := by simp; omega
      have wj : IntKind.i64.wrap ((nu : Int) - 1) = (nu : Int) - 1 := IntWalk.i64_in _ (by omega)
      have tj : ((nu : Int) - 1).toNat = nu - 1 := by omega
      have pj : (0 : Int) ≤ (nu : Int) - 1 := by omega
      have lj : (nu : Int) - 1 < (nu : Int) := by omega
      generalize hLT : lastT acc = lt at *
      have HLT := hid hLT
      clear hLT
      by_cases h3 : (x1 : Int) ≤ lt
      · have HE := hid (stepE_2 H64.out HE1.out (by rw [X1.out, HLT.out]; exact h3))
        go_wp2_with fail
        with_reducible refine (refGet_ok _ _ _ ys _ (hr'.more hsz) HE1.out).mono ?_
        rw [K1.out, X1.out]
        rintro e w2 ⟨rfl, hb2⟩
        have hq2 := (hb2.cell (p := ⟨bu, ou + (nu - 1) * 2, none⟩) hbu).trans hq
        go_wp2
        go_ret2
        exact BAD.out _ 2 HY.out HE.out (by omega) hb2
      have h3' : lt < (x1 : Int) := by omega
      have H3N := hid (show lastT acc < rdN ys from by rw [X1.out, HLT.out]; exact h3')
      clear h3
      go_wp2_with fail
      with_reducible refine (refGet_ok _ _ _ ys _ (hr'.more hsz) HE1.out).mono ?_
      rw [K1.out, X1.out]
      rintro e w2 ⟨rfl, hb2⟩
      have hq2 := (hb2.cell (p := ⟨bu, ou + (nu - 1) * 2, none⟩) hbu).trans hq
      have hz2 : w.heap.size ≤ w2.heap.size := Nat.le_trans hsz hb2.size
      have R1 := HR1.out.below (hb2.mono hsz)
      by_cases he2 : getE (rest1 ys) = 0
      case neg =>
        have HE := hid (stepE_3 H64.out HE1.out H3N.out he2)
        have HE2 := hid he2
        have hne : (getE (rest1 ys) != 0) = true := by simpa using he2
        clear he2
        go_wp2_with fail
        with_reducible refine (refGet_bad _ _ _ (rest1 ys) _ (R1.more hz2) HE2.out).mono ?_
        rintro e w3 ⟨rfl, hb3⟩
        go_wp2
        go_ret2
        exact BAD.out _ _ HY.out HE.out HE2.out (bel_call hb2 hb3)
      obtain ⟨m, k2, hX2, hK2, hk2', hk29, hk2, hm1, hR2⟩ := num_at HR1.out he2
      have HE2 := hid he2
      have X2 := hid hX2
      have K2 := hid hK2
      have HR2 := hid hR2
      have hsl2 := run_from (P := Try.prog) 46 5 Try.underlying46 Try.elemU8 Try.infoU8 (cutA A' c' k1) (n' - k1) (c' - k1) k2 hk2
      have HRN := hid (show recN ys = m from by unfold recN; rw [hX2]; rfl)
      have HL2 := hid (show (rest2 ys).length = n' - k1 - k2 from hR2.len)
      clear he2 hX2 hK2 hR2
      go_wp2_with fail
      with_reducible refine (refGet_ok _ _ _ (rest1 ys) _ (R1.more hz2) HE2.out).mono ?_
      rw [K2.out, X2.out]
      rintro e w3 ⟨rfl, hb3⟩
      have hb23 := bel_call hb2 hb3
      by_cases h5 : 4096 < m
      · have HE := hid (stepE_4 H64.out HE1.out H3N.out HE2.out (by rw [X2.out]; omega))
        have h5' : (4096 : Int) < (m : Int) := by omega
        go_wp2
        go_ret2
        exact BAD.out _ 4 HY.out HE.out (by omega) hb23
      have hm4 : m ≤ 4096 := by omega
      have d5 : decide ((4096 : Int) < (m : Int)) = false := by simp; omega
      by_cases h6 : n' - k1 - k2 < m
      · have HE := hid (stepE_5 H64.out HE1.out H3N.out HE2.out (by rw [X2.out]; omega) (by rw [HRN.out, HL2.out]; exact h6))
        have h6' : ((n' - k1 - k2 : Nat) : Int) < (m : Int) := by omega
        go_wp2
        go_ret2
        exact BAD.out _ 3 HY.out HE.out (by omega) hb23
      have h6' : m ≤ n' - k1 - k2 := by omega
      have h6'' : decide (((n' - k1 - k2 : Nat) : Int) < (m : Int)) = false := by simp; omega
      have hup := run_uptoK (P := Try.prog) 46 5 .u64 Try.underlying46 Try.elemU8 Try.infoU8 (cutA (cutA A' c' k1) (c' - k1) k2) (n' - k1 - k2) (c' - k1 - k2) m (by have := HR2.out.cap; omega)
      have hfr := run_fromK (P := Try.prog) 46 5 .u64 Try.underlying46 Try.elemU8 Try.infoU8 (cutA (cutA A' c' k1) (c' - k1) k2) (n' - k1 - k2) (c' - k1 - k2) m h6'
      obtain ⟨f', hstep, hfl⟩ := getRA_step f ys acc hf HY.out (stepE_6 H64.out HE1.out H3N.out HE2.out (by rw [X2.out]; omega) (by rw [HRN.out, HL2.out]; exact h6'))
      have HSTEP := hid hstep
      have HFL := hid hfl
      have R2 := HR2.out.below (hb23.mono hsz)
      have RU := R2.upto h6'
      have RF := hid (R2.cut h6')
      have hown3 := hown.keep hb23
      clear hstep hfl R1 R2 hf
      go_wp2_with (first | (at_builtin; refine wpList_cat rfl (.const (.slice none 0 0)) _ 46 rfl w3.heap.size 5 .u8 1 Try.underlying46 Try.infoU8 (.slice none 0 0) [] _ _ m _ _ rfl rfl (Own.nil _ _ _ _) RU (Nat.le_refl _) (by simp; omega) (by simp; omega) ?_; intro v5 w5 hown5 hext5; simp only [List.nil_append] at hown5; obtain ⟨A5, n5, c5, rfl, hs5⟩ := hown5.slI; have hb5 := hext5.of_nil; have hz5 : w.heap.size ≤ w5.heap.size := Nat.le_trans (Nat.le_trans hsz hb23.size) hb5.size) | (at_builtin; go_must (refine wpList_pushL rfl (.tmp 63) (.tmp 70) 81 rfl w.heap.size (some w.heap.size) 83 _ 32 Try.underlying81 Try.infoRec rfl (by decide) _ acc (stepRec ys) _ (From w5 w3.heap.size) rfl rfl (hown3.keep hb5) (rep_Record.2 ⟨A5, n5, c5, by rw [show (stepRec ys).T = rdN ys from rfl, X1.out], wf_u64 (by rw [show (stepRec ys).T = rdN ys from rfl, X1.out]; omega), by rw [show (stepRec ys).V = (rest2 ys).take (recN ys) from rfl, HRN.out]; exact hs5⟩) (fun b hb => ⟨⟨Nat.le_trans (Nat.le_trans hsz hb23.size) hb.1, hb.2.2⟩, hb.2.1, fun he => by (have h9 := hown3.lt he.symm; have h8 := hb.1; omega)⟩) hz5 (by omega) (by unfold maxLen; omega) ?_; intro v6 w6 hown6 hext6)))
      go_roundw
      case rel => exact ⟨_, _, _, f', stepRest ys, acc ++ [stepRec ys], rfl, by rw [show stepRest ys = (rest2 ys).drop (recN ys) from rfl, HRN.out]; exact (RF.out.below (hb5.mono (Nat.le_trans hsz hb23.size))).below ((hown3.keep hb5).below hext6 hz5), hown6, ((hbel.trans (hb23.mono hsz)).trans (hb5.mono (Nat.le_trans hsz hb23.size))).trans ((hown3.keep hb5).below hext6 hz5), by omega, by have := H64.out; simp; omega, HFL.out, HA.out.trans HSTEP.out⟩
      case measure => simp [slen]; omega
end Go.Proofs.Ytgiapfenalhleaa
