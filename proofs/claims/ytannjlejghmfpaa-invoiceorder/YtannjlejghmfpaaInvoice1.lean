/-
  Package invoice: the library over invoices; whether two rows are the same; where one stands.
-/
import Derived.Test.YtannjlejghmfpaaInvoiceRef3
import Derived.Test.YtannjlejghmfpaaInvoiceRef4
import Derived.Test.YtannjlejghmfpaaSearch
import Derived.Test.YtannjlejghmfpaaOwnPut
import Derived.Test.YtannjlejghmfpaaGrow
import Derived.Test.YtannjlejghmfpaaGen
import Derived.Deep.QuietTactic
import Derived.Deep.RegionHeld3
namespace Go.Proofs.Ytannjlejghmfpaa
open Go.RowKit Go.WalkArith

theorem flat_Inv (w : World) (S S' : Nat → Prop) (a : Inv) (c : List Value) (h : lay_Invoice.rep w S a c) : lay_Invoice.rep w S' a c := rep_Invoice.2 (rep_Invoice.1 h)
theorem run_eqInv {c d : Inv} (hc : InvWf c) (hd : InvWf d) (w : World) : (binOp .eql 37 (.agg #[.int .u64 c.Hash, .int .u64 c.N, .int .u64 c.Till, .int .i64 c.State]) (.agg #[.int .u64 d.Hash, .int .u64 d.N, .int .u64 d.Till, .int .i64 d.State])).run Try.prog w = .ok (.bool (decide (c = d))) w := by
  have h := run_neInv hc hd w
  simp only [binOp] at h ⊢
  obtain ⟨r, hr, hi⟩ := run_equalIn_deep 9998 2 _ ivKey w 2 2 (invV c) (invV d) _ _ (ivFormed c) (ivFormed d) (ivLits hc) (ivLits hd)
  have h9 : (Op.equal 37 (invV c) (invV d)).run Try.prog w = .ok r w := hr
  have : r = decide (c = d) := by
    rw [Bool.eq_iff_iff, hi, decide_eq_true_iff]
    constructor
    · intro e
      simp only [List.cons.injEq, Lit.int.injEq, true_and, and_true] at e
      cases c; cases d; simp_all
    · rintro rfl
      rfl
  rw [← this]
  simp [h9]

set_option maxHeartbeats 1000000 in
theorem same1I_any (c d : Inv) (w : World) (hc : InvWf c) (hd : InvWf d) :
    Calls Try.prog 42 #[.agg #[.int .u64 c.Hash, .int .u64 c.N, .int .u64 c.Till, .int .i64 c.State], .agg #[.int .u64 d.Hash, .int .u64 d.N, .int .u64 d.Till, .int .i64 d.State]] w fun e w' => e = .returned (.bool (decide (c = d))) ∧ Below w.heap.size w w' := by
  have heq := run_eqInv hc hd
  have hb0 : Below w.heap.size w ((w.alloc (Obj.cells #[.int .u64 c.Hash, .int .u64 c.N, .int .u64 c.Till, .int .i64 c.State] 37)).alloc (Obj.cells #[.int .u64 d.Hash, .int .u64 d.N, .int .u64 d.Till, .int .i64 d.State] 37)) := bel_alloc (bel_alloc (Below.refl _ _) _) _
  have V1 : Box (w.alloc (Obj.cells #[.int .u64 c.Hash, .int .u64 c.N, .int .u64 c.Till, .int .i64 c.State] 37)) w.heap.size 37 [.int .u64 c.Hash, .int .u64 c.N, .int .u64 c.Till, .int .i64 c.State] := Box.new w _ _
  have V2 : Box ((w.alloc (Obj.cells #[.int .u64 c.Hash, .int .u64 c.N, .int .u64 c.Till, .int .i64 c.State] 37)).alloc (Obj.cells #[.int .u64 d.Hash, .int .u64 d.N, .int .u64 d.Till, .int .i64 d.State] 37)) (w.heap.size + 1) 37 [.int .u64 d.Hash, .int .u64 d.N, .int .u64 d.Till, .int .i64 d.State] := by
    have := Box.new (w.alloc (Obj.cells #[.int .u64 c.Hash, .int .u64 c.N, .int .u64 c.Till, .int .i64 c.State] 37)) 37 [.int .u64 d.Hash, .int .u64 d.N, .int .u64 d.Till, .int .i64 d.State]
    simpa using this
  replace V1 := V1.old (o := (Obj.cells #[.int .u64 d.Hash, .int .u64 d.N, .int .u64 d.Till, .int .i64 d.State] 37))
  go_enter Try.func42, Try.ntmps42
  go_upto_region 1 with (fail)
  generalize ((w.alloc (Obj.cells #[.int .u64 c.Hash, .int .u64 c.N, .int .u64 c.Till, .int .i64 c.State] 37)).alloc (Obj.cells #[.int .u64 d.Hash, .int .u64 d.N, .int .u64 d.Till, .int .i64 d.State] 37)) = W0 at *
  generalize w.heap.size + 1 = g1 at *
  have p0 := V1.at_ 0 rfl
  have p1 := V1.at_ 1 rfl
  have p2 := V1.at_ 2 rfl
  have p3 := V1.at_ 3 rfl
  have q0 := V2.at_ 0 rfl
  have q1 := V2.at_ 1 rfl
  have q2 := V2.at_ 2 rfl
  have q3 := V2.at_ 3 rfl
  clear V1 V2
  go_wp2
  go_ret
  exact ⟨rfl, hb0⟩

set_option maxRecDepth 100000 in
set_option maxHeartbeats 2000000 in
theorem eqFuncI_any (A1 A2 : Option Addr) (n1 c1 n2 c2 : Nat) (l o : List Inv) (w : World) (h1 : Sl lay_Invoice w (· < w.heap.size) A1 n1 c1 l) (h2 : Sl lay_Invoice w (· < w.heap.size) A2 n2 c2 o) :
    Calls Try.prog 41 #[.slice A1 n1 c1, .slice A2 n2 c2, .func (.func 42) #[] #[]] w fun e w' => e = .returned (.bool (decide (l = o))) ∧ Below w.heap.size w w' := by
  have K1 := hid h1.len
  have K2 := hid h2.len
  have k1 := h1.cap
  have k2 := h2.cap
  unfold maxLen at k1 k2
  by_cases hl : n1 = n2
  · subst hl
    have hne : ((n1 : Int) != (n1 : Int)) = false := by simp
    go_enter Try.func41, Try.ntmps41
    go_wp2
    go_loopw [17] (fun i wr => ∃ j : Nat, j ≤ n1 ∧ i = .int .i64 j ∧ l.take j = o.take j ∧ Below w.heap.size w wr) (fun i _ => n1 - (intOf i).toNat)
    case atStart => exact ⟨0, Nat.zero_le _, rfl, rfl, Below.refl _ _⟩
    case round =>
      obtain ⟨j, hj, rfl, hpre, hbel⟩ := hrel
      have HP := hid hpre
      clear hpre
      by_cases hlt : j < n1
      · obtain ⟨b1, o1, hx1, rfl, hb1, t10, t11, t12, t13, e1⟩ := at_Invoice h1 hlt
        obtain ⟨b2, o2, hx2, rfl, hb2, t20, t21, t22, t23, e2⟩ := at_Invoice h2 hlt
        have q10 := (hbel.cell (p := ⟨b1, o1 + j * 4, none⟩) hb1).trans t10
        have q11 := (hbel.cell (p := ⟨b1, o1 + j * 4 + 1, none⟩) hb1).trans t11
        have q12 := (hbel.cell (p := ⟨b1, o1 + j * 4 + 2, none⟩) hb1).trans t12
        have q13 := (hbel.cell (p := ⟨b1, o1 + j * 4 + 3, none⟩) hb1).trans t13
        have q20 := (hbel.cell (p := ⟨b2, o2 + j * 4, none⟩) hb2).trans t20
        have q21 := (hbel.cell (p := ⟨b2, o2 + j * 4 + 1, none⟩) hb2).trans t21
        have q22 := (hbel.cell (p := ⟨b2, o2 + j * 4 + 2, none⟩) hb2).trans t22
        have q23 := (hbel.cell (p := ⟨b2, o2 + j * 4 + 3, none⟩) hb2).trans t23
        have hg1 : b1 < wr.heap.size := Nat.lt_of_lt_of_le hb1 hbel.size
        have hg2 : b2 < wr.heap.size := Nat.lt_of_lt_of_le hb2 hbel.size
        have hbb := (hbel.alloc hbel.size (Obj.cells #[.int .u64 l[j].Hash, .int .u64 l[j].N, .int .u64 l[j].Till, .int .i64 l[j].State] 37)).alloc (by have := hbel.size; simp; omega) (Obj.cells #[.int .u64 o[j].Hash, .int .u64 o[j].N, .int .u64 o[j].Till, .int .i64 o[j].State] 37)
        have HW1 := hid e1
        have HW2 := hid e2
        clear t10 t20 t11 t21 t12 t22 t13 t23 e1 e2
        by_cases he : l[j] = o[j]
        · have HN := hid (take_same_any hx1 hx2 HP.out he)
          have HD := hid (decide_eq_true he)
          clear he
          go_wp2_with fail
          with_reducible refine (same1I_any l[j] o[j] _ HW1.out HW2.out).mono ?_
          rw [HD.out]
          rintro e w2 ⟨rfl, hb2⟩
          go_wp2
          go_roundw
          case rel => exact ⟨j + 1, by omega, by go_num, HN.out, hbb.trans (hb2.mono hbb.size)⟩
          case measure => simp [intOf]; omega
        · have HN := hid (show decide (l = o) = false from decide_eq_false fun e => he (by simp only [e]))
          have HD := hid (decide_eq_false he)
          clear he
          go_wp2_with fail
          with_reducible refine (same1I_any l[j] o[j] _ HW1.out HW2.out).mono ?_
          rw [HD.out]
          rintro e w2 ⟨rfl, hb2⟩
          go_wp2
          go_ret
          exact ⟨ret_bool HN.out.symm, hbb.trans (hb2.mono hbb.size)⟩
      · have HN := hid (show decide (l = o) = true from by
          have := HP.out
          rw [List.take_of_length_le (by rw [K1.out]; omega), List.take_of_length_le (by rw [K2.out]; omega)] at this
          exact decide_eq_true this)
        go_wp2
        go_ret
        exact ⟨ret_bool HN.out.symm, hbel⟩
  · have hne : ((n1 : Int) != (n2 : Int)) = true := by simp; omega
    have HN := hid (show decide (l = o) = false from decide_eq_false fun e => by rw [e] at K1; have a1 := K1.out; have a2 := K2.out; omega)
    go_enter Try.func41, Try.ntmps41
    go_wp2
    go_ret
    exact ⟨ret_bool HN.out.symm, Below.refl _ _⟩

set_option maxHeartbeats 1000000 in
theorem sameI_any (A1 A2 : Option Addr) (n1 c1 n2 c2 : Nat) (l o : List Inv) (w : World) (h1 : Sl lay_Invoice w (· < w.heap.size) A1 n1 c1 l) (h2 : Sl lay_Invoice w (· < w.heap.size) A2 n2 c2 o) :
    Calls Try.prog 24 #[.slice A1 n1 c1, .slice A2 n2 c2] w fun e w' => e = .returned (.bool (decide (l = o))) ∧ Below w.heap.size w w' := by
  go_enter Try.func24, Try.ntmps24
  go_wp2_with fail
  with_reducible refine (eqFuncI_any A1 A2 n1 c1 n2 c2 l o w h1 h2).mono ?_
  rintro e w2 ⟨rfl, hb2⟩
  go_wp2
  go_ret
  exact ⟨rfl, hb2⟩

theorem place1I_any (s : Array Value) (S : Nat → Prop) (r : Inv) (t : Int) (w : World) (hs : lay_Invoice.rep w S r s.toList) :
    Calls Try.prog 45 #[.agg s, .int .u64 t] w fun e w' => e = .returned (.int .i64 (cmpI r.Hash t)) ∧ Below w.heap.size w w' := by
  obtain ⟨rfl, hw⟩ := agg_Invoice hs
  go_enter Try.func45, Try.ntmps45
  go_wp2_with (go_at_call 46; refine (compare_any _ _ _).mono ?_; rintro e w' ⟨rfl, rfl⟩)
  go_ret
  exact ⟨rfl, by (repeat (first | exact Below.refl _ _ | refine Below.drew ?_ | refine bel_drewN ?_ _ | refine bel_alloc ?_ _ | refine bel_call ?_ (by assumption)))⟩

set_option maxRecDepth 100000 in
set_option maxHeartbeats 2000000 in
theorem searchI_any (A : Option Addr) (n c : Nat) (l : List Inv) (t : Int) (w : World) (hr : Sl lay_Invoice w (· < w.heap.size) A n c l) (hn : n ≤ 300) (hR : UpF Inv.Hash l) :
    Calls Try.prog 44 #[.slice A n c, .int .u64 t, .func (.func 45) #[] #[]] w fun e w' => ∃ k : Nat, e = .returned (.tuple #[.int .i64 k, .bool (hitF Inv.Hash l t k)]) ∧ AtF Inv.Hash l t k ∧ Below w.heap.size w w' := by
  have HL := hid hr.len
  have hcap := hr.cap
  unfold maxLen at hcap
  have HR := hid (show UpF Inv.Hash l from hR)
  clear hR
  go_enter Try.func44, Try.ntmps44
  go_wp2
  go_loopw [9, 10] (fun u v wr => ∃ i j : Nat, u = .int .i64 i ∧ v = .int .i64 j ∧ EndsF Inv.Hash l t i j ∧ Below w.heap.size w wr) (fun u v _ => (intOf v).toNat - (intOf u).toNat)
  case atStart => exact ⟨0, n, rfl, rfl, ⟨Nat.zero_le _, by rw [HL.out]; exact Nat.le_refl _, fun _ _ h => absurd h (by omega), fun k h1 h2 => by rw [HL.out] at h1; omega⟩, Below.refl _ _⟩
  case round =>
    obtain ⟨i, j, rfl, rfl, he, hbel⟩ := hrel
    have hij := he.1
    have hjn : j ≤ n := by rw [← HL.out]; exact he.2.1
    have HE := hid he
    clear he
    by_cases hlt : i < j
    · have hmj : (i + j) / 2 < j := by omega
      have him : i ≤ (i + j) / 2 := by omega
      obtain ⟨b, off, hx, rfl, hb, h0, h1, h2, h3, hw⟩ := at_Invoice hr (j := (i + j) / 2) (by omega)
      have q0 := (hbel.cell (p := ⟨b, off + (i + j) / 2 * 4, none⟩) hb).trans h0
      have q1 := (hbel.cell (p := ⟨b, off + (i + j) / 2 * 4 + 1, none⟩) hb).trans h1
      have q2 := (hbel.cell (p := ⟨b, off + (i + j) / 2 * 4 + 2, none⟩) hb).trans h2
      have q3 := (hbel.cell (p := ⟨b, off + (i + j) / 2 * 4 + 3, none⟩) hb).trans h3
      have wm : IntKind.i64.wrap ((i : Int) + (j : Int)) = (i : Int) + (j : Int) := IntWalk.i64_in _ (by omega)
      clear h0 h1 h2 h3
      have PR := hid (show lay_Invoice.rep wr (fun _ => True) l[(i + j) / 2] #[.int .u64 l[(i + j) / 2].Hash, .int .u64 l[(i + j) / 2].N, .int .u64 l[(i + j) / 2].Till, .int .i64 l[(i + j) / 2].State].toList from rep_Invoice.2 ⟨rfl, hw⟩)
      have HUP := hid (fun hc => HE.out.up HR.out hmj him hx hc)
      have HDN := hid (fun hc => HE.out.down HR.out him hx hc)
      clear hw
      generalize hG : l[(i + j) / 2] = r at *
      clear hG
      go_wp2_with fail
      with_reducible refine (place1I_any _ _ r t _ PR.out).mono ?_
      rintro e w2 ⟨rfl, hb2⟩
      have HB := hbel.trans (hb2.mono hbel.size)
      by_cases hc : r.Hash < t
      · have hcm : cmpI r.Hash t = -1 := by unfold cmpI; rw [if_pos hc]
        have HN := hid (HUP.out hc)
        rw [hcm]
        clear hc hcm
        go_wp2
        go_roundw
        case rel => exact ⟨(i + j) / 2 + 1, j, by go_num, rfl, HN.out, HB⟩
        case measure => simp [intOf]; omega
      · have hcm : decide (cmpI r.Hash t < 0) = false := by unfold cmpI; simp [hc]; split <;> omega
        have HN := hid (HDN.out (by omega))
        clear hc
        go_wp2
        go_roundw
        case rel => exact ⟨i, (i + j) / 2, rfl, by go_num, HN.out, HB⟩
        case measure => simp [intOf]; omega
    · obtain rfl : i = j := by omega
      have HA := hid (show AtF Inv.Hash l t i from ⟨HE.out.2.1, HE.out.2.2.1, HE.out.2.2.2⟩)
      by_cases hin : i < n
      · obtain ⟨b, off, hx, rfl, hb, h0, h1, h2, h3, hw⟩ := at_Invoice hr (j := i) hin
        have q0 := (hbel.cell (p := ⟨b, off + i * 4, none⟩) hb).trans h0
        have q1 := (hbel.cell (p := ⟨b, off + i * 4 + 1, none⟩) hb).trans h1
        have q2 := (hbel.cell (p := ⟨b, off + i * 4 + 2, none⟩) hb).trans h2
        have q3 := (hbel.cell (p := ⟨b, off + i * 4 + 3, none⟩) hb).trans h3
        have PR := hid (show lay_Invoice.rep wr (fun _ => True) l[i] #[.int .u64 l[i].Hash, .int .u64 l[i].N, .int .u64 l[i].Till, .int .i64 l[i].State].toList from rep_Invoice.2 ⟨rfl, hw⟩)
        have HT := hid (show (cmpI l[i].Hash t == 0) = hitF Inv.Hash l t i from by
          rw [hitF_get hx]
          unfold cmpI
          by_cases h : l[i].Hash = t
          · simp [h]
          · rw [show (l[i].Hash == t) = false from by simpa using h]
            split
            · rfl
            · split
              · rfl
              · omega)
        clear h0 h1 h2 h3 hw
        go_wp2_with fail
        with_reducible refine (place1I_any _ _ l[i] t _ PR.out).mono ?_
        rintro e w2 ⟨rfl, hb2⟩
        have HB := hbel.trans (hb2.mono hbel.size)
        generalize cmpI l[i].Hash t = cc at *
        go_wp2
        go_ret2
        exact ⟨i, by rw [← HT.out]; rfl, HA.out, HB⟩
      · have hin' : decide ((i : Int) < (n : Int)) = false := by simp; omega
        have HT := hid (show hitF Inv.Hash l t i = false from hitF_out (by rw [HL.out]; omega))
        go_wp2
        go_ret2
        exact ⟨i, by rw [HT.out]; rfl, HA.out, hbel⟩
theorem placeI_any (A : Option Addr) (n c : Nat) (l : List Inv) (t : Int) (w : World) (hr : Sl lay_Invoice w (· < w.heap.size) A n c l) (hn : n ≤ 300) (hR : UpF Inv.Hash l) :
    Calls Try.prog 26 #[.slice A n c, .int .u64 t] w fun e w' => ∃ k : Nat, e = .returned (.tuple #[.int .i64 k, .bool (hitF Inv.Hash l t k)]) ∧ AtF Inv.Hash l t k ∧ Below w.heap.size w w' := by
  go_enter Try.func26, Try.ntmps26
  go_wp2_with fail
  with_reducible refine (searchI_any _ _ _ l t _ hr hn hR).mono ?_
  rintro e w2 ⟨k, rfl, hk, hb2⟩
  have HK := hid hk
  clear hk
  obtain ⟨dd, hdd⟩ : ∃ d, hitF Inv.Hash l t k = d := ⟨_, rfl⟩
  rw [hdd]
  have HD := hid hdd
  clear hdd
  go_wp2
  go_ret2
  exact ⟨k, by rw [HD.out]; rfl, HK.out, hb2⟩

set_option maxHeartbeats 1000000 in
theorem cloneI_any (A : Option Addr) (n c : Nat) (l : List Inv) (w : World) (h : Sl lay_Invoice w (· < w.heap.size) A n c l) (hn : n ≤ 1048576) :
    Calls Try.prog 38 #[.slice A n c] w fun e w' => ∃ v', e = .returned v' ∧ OwnL lay_Invoice w' w.heap.size none 37 v' l ∧ Below w.heap.size w w' := by
  have hnil := fun W => run_is_nil (P := Try.prog) W 22 37 A n c Try.underlying22
  cases A with
  | none =>
    have hc := h.no rfl
    have hn0 : n = 0 := by have := h.cap; omega
    subst hc hn0
    have hx : l = [] := List.eq_nil_of_length_eq_zero h.len
    subst hx
    go_enter Try.func38, Try.ntmps38
    go_wp2
    go_ret
    exact ⟨_, rfl, OwnL.nil _ _ _ _ _, Below.refl _ _⟩
  | some a =>
    have hb0 : Below w.heap.size w (w.alloc (Obj.cells #[] 37)) := bel_alloc (Below.refl _ _) _
    have HS := hid (h.keep fun _ hp => hb0.cell hp)
    go_enter Try.func38, Try.ntmps38
    go_wp2_with (at_builtin; go_must (refine wpList_catL rfl _ _ 22 rfl w.heap.size none 37 _ 32 Try.underlying22 Try.infoInv rfl (by decide) (.slice (some ⟨w.heap.size, 0, none⟩) 0 0) [] l (· < w.heap.size) (some a) n c rfl rfl (OwnL.empty lay_Invoice _ _ none) HS.out (fun b hb => ⟨trivial, Nat.lt_of_lt_of_le hb hb0.size, fun he => by simp [Value.ownBlock] at he; omega⟩) (by simp) (by simp; omega) (by unfold maxLen; simp; omega) ?_; intro v3 w3 hown3 hext3))
    go_ret
    simp only [List.nil_append] at hown3
    exact ⟨_, rfl, hown3, hb0.trans ((OwnL.empty lay_Invoice w _ none).below hext3 (by simp))⟩

set_option maxRecDepth 100000 in
set_option maxHeartbeats 2000000 in
theorem growI_any (n : Nat) (hn : n ≤ 1048576) (lo : Option Nat) (w : World) :
    Calls Try.prog 47 #[.slice none 0 0, .int .i64 n] w fun e w' => ∃ v', e = .returned v' ∧ OwnL lay_Invoice w' w.heap.size lo 37 v' [] ∧ Below w.heap.size w w' := by
  have w0 : IntKind.i64.wrap ((n : Int) - 0) = n := IntWalk.i64_in _ (by omega)
  have w1 : IntKind.i64.wrap (n : Int) = n := IntWalk.i64_in _ (by omega)
  have d0 : decide ((n : Int) < 0) = false := by simp
  by_cases h0 : n = 0
  · subst h0
    go_enter Try.func47, Try.ntmps47
    go_wp2
    go_ret
    exact ⟨_, rfl, OwnL.nil _ _ _ _ _, Below.refl _ _⟩
  · have d1 : decide ((0 : Int) < (n : Int)) = true := by simp; omega
    have d2 : decide (0 < n) = true := by simp; omega
    have hsl := fun A c => run_uptoL (P := Try.prog) 22 37 .i64 Try.underlying22 Try.elemInv Try.infoInv A n c 0 (Nat.zero_le _)
    have hsl0 := run_uptoL (P := Try.prog) 22 37 .i64 Try.underlying22 Try.elemInv Try.infoInv none 0 0 0 (Nat.zero_le _)
    obtain ⟨cap, W, hr, ho, hb⟩ := run_zeros0 (P := Try.prog) lay_Invoice w 22 3 22 37 .i64 .i64 Try.underlying22 Try.underlying3 Try.infoInv rfl (by decide) lo n (by omega) hn (by decide)
    have HO := hid ho
    have HB := hid hb
    have HS := hid hsl
    clear ho hb h0 hsl
    go_enter Try.func47, Try.ntmps47
    have hs2 := HS.out (some ⟨w.heap.size, 0, none⟩) cap
    go_wp2_with (at_builtin; go_must (refine Lib.wpList_append_run _ rfl _ _ _ _ rfl _ _ rfl rfl _ _ hr ?_))
    go_ret
    exact ⟨_, rfl, HO.out, HB.out⟩

set_option maxRecDepth 100000 in
set_option maxHeartbeats 2000000 in
theorem concatI_any (A : Option Addr) (n c : Nat) (ls : List (List Inv)) (w : World) (h : Sl (Lay.slice lay_Invoice) w (· < w.heap.size) A n c ls) (hsum : ls.flatten.length ≤ 1048576) :
    Calls Try.prog 27 #[.slice A n c] w fun e w' => ∃ v', e = .returned v' ∧ OwnL lay_Invoice w' w.heap.size (some w.heap.size) 37 v' ls.flatten ∧ Below w.heap.size w w' := by
  have HL := hid h.len
  have hcap := h.cap
  unfold maxLen at hcap
  have HF := hid (fun j => flat_take_len ls j)
  go_enter Try.func27, Try.ntmps27
  go_wp2
  go_loop [3, 11] (fun s i => ∃ j : Nat, j ≤ n ∧ i = .int .i64 j ∧ s = .int .i64 (lenF ls j : Nat)) (fun _ i => n - (intOf i).toNat)
  case atStart => exact ⟨0, Nat.zero_le _, rfl, rfl⟩
  case round =>
    obtain ⟨j, hj, rfl, rfl⟩ := hrel
    have hs := HF.out j
    by_cases hlt : j < n
    · obtain ⟨b, off, A', n', c', hx, rfl, hb, hc, hsl⟩ := row_at h hlt
      have HT := hid (flat_take hx)
      have hs1 := HF.out (j + 1)
      have hs2 : lenF ls (j + 1) = lenF ls j + n' := by unfold lenF; rw [HT.out, List.length_append, hsl.len]
      have HN := hid (show ((lenF ls (j + 1) : Nat) : Int) = (lenF ls j : Nat) + n' from by omega)
      rw [hs2] at hs1
      clear hs2
      generalize lenF ls j = m at *
      clear hsl
      have wm : IntKind.i64.wrap ((m : Int) + (n' : Int)) = (m : Int) + (n' : Int) := IntWalk.i64_in _ (by omega)
      have d1 : decide ((m : Int) + (n' : Int) < 0) = false := by simp; omega
      go_wp2
      go_round
      case rel => exact ⟨j + 1, by omega, by go_num, by rw [HN.out]⟩
      case measure => simp [intOf]; omega
    · have hjn : j = n := by omega
      have HE := hid (show ls.take j = ls from List.take_of_length_le (by rw [HL.out]; omega))
      have hm : lenF ls j ≤ 1048576 := Nat.le_trans hs hsum
      clear hs
      generalize lenF ls j = m at *
      go_wp2_with fail
      with_reducible refine (growI_any m hm (some w.heap.size) w).mono ?_
      rintro e w1 ⟨v1, rfl, ho1, hb1⟩
      have HSL := hid (fun (W : World) (h' : Below w.heap.size w W) => Sl.call h h')
      go_wp2
      go_loopw [6, 27] (fun u i wr => ∃ k : Nat, k ≤ n ∧ i = .int .i64 k ∧ OwnL lay_Invoice wr w.heap.size (some w.heap.size) 37 u (ls.take k).flatten ∧ Below w.heap.size w wr) (fun _ i _ => n - (intOf i).toNat)
      case atStart => exact ⟨0, Nat.zero_le _, rfl, ho1, hb1⟩
      case round =>
        obtain ⟨k, hk, rfl, hown, hbel⟩ := hrel
        by_cases hlk : k < n
        · obtain ⟨b, off, A', n', c', hx, rfl, hb, hc, hsl⟩ := row_at h hlk
          have q1 := (hbel.cell (p := ⟨b, off + k, none⟩) hb).trans hc
          have HT := hid (flat_take hx)
          have hs1 := HF.out (k + 1)
          have hs3 : (ls.take k).flatten.length + n' ≤ 1048576 := by
            unfold lenF at hs1
            rw [HT.out, List.length_append, hsl.len] at hs1
            omega
          clear hs1
          have HS2 := hid ((hsl.keep (w' := wr) fun p hp => hbel.cell hp))
          clear hsl hc
          have hsz := hbel.size
          have HO := hid hown
          clear hown
          go_wp2_with (at_builtin; go_must (refine wpList_catL rfl _ _ 22 rfl w.heap.size none 37 _ 32 Try.underlying22 Try.infoInv rfl (by decide) _ (ls.take k).flatten ls[k] (· < w.heap.size) A' n' c' rfl rfl HO.out.loose HS2.out (fun b hb => ⟨trivial, Nat.lt_of_lt_of_le hb hsz, fun he => by have := HO.out.ge he.symm; omega⟩) hsz (by omega) (by unfold maxLen; omega) ?_; intro v3 w3 hown3 hext3))
          go_roundw
          case rel => exact ⟨k + 1, by omega, by go_num, by rw [HT.out]; exact hown3.flat flat_Inv _, hbel.trans (HO.out.below hext3 hsz)⟩
          case measure => simp [intOf]; omega
        · have HE2 := hid (show ls.take k = ls from List.take_of_length_le (by rw [HL.out]; omega))
          rw [HE2.out] at hown
          go_wp2
          go_ret
          exact ⟨_, rfl, hown, hbel⟩

end Go.Proofs.Ytannjlejghmfpaa
