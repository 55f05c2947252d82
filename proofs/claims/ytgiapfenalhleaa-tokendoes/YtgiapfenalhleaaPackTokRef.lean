/-
  The contracts of the document's small answers of layer 7: caveats that may be, tokens that may be, tokens that are the same.
  The contracts of the document's Same, and Verify, of layer 7.
  The contract of the document's Mint of layer 7.
  The contract of the document's Bind of layer 7.
  The contract of the document's Put of layer 7.
  The contract of the document's Get of layer 7.
  Layer 7's laws: which tokens are few.
  What the laws of layer 7 ask of plain lists: what was minted, and bound, is right by its key alone; a token with fewer caveats; another order.
-/
import Derived.Test.YtgiapfenalhleaaCaveatEq
import Derived.Test.YtgiapfenalhleaaTokenMath
import Derived.Test.YtgiapfenalhleaaVars
import Derived.Deep.QuietTactic
import Derived.Test.YtgiapfenalhleaaArenaRef6
import Derived.Deep.RegionHeld3
import Derived.Deep.Cut
import Derived.Test.YtgiapfenalhleaaArenaRef5
import Derived.Deep.CutRange
import Derived.Test.YtgiapfenalhleaaOwn3
import Derived.Test.YtgiapfenalhleaaTokenMath2
import Derived.Test.YtgiapfenalhleaaTlvRefPut
import Derived.Test.YtgiapfenalhleaaCaveatRef2
import Derived.Test.YtgiapfenalhleaaTlvRefGet
import Derived.Test.YtgiapfenalhleaaTokenMath3
import Derived.Test.YtgiapfenalhleaaTlvRefNumber
import Derived.Test.YtgiapfenalhleaaCaveatRef3
namespace Go.Proofs.Ytgiapfenalhleaa
open Go.RowKit Go.WalkArith

def fewC (l : List Cav) : Bool := decide (CapsOk l)
theorem fewC_no {l : List Cav} (h : ¬ CapsOk l) : fewC l = false := decide_eq_false h
theorem fewC_yes {l : List Cav} (h : CapsOk l) : fewC l = true := decide_eq_true h

set_option maxHeartbeats 1000000 in
theorem refFewC_any (A : Option Addr) (n c : Nat) (S : Nat → Prop) (l : List Cav) (w : World) (h : Sl lay_Caveat w S A n c l) (hS : ∀ b, S b → b < w.heap.size) :
    Calls Try.prog 48 #[.slice A n c] w fun e w' => e = .returned (.bool (fewC l)) ∧ Below w.heap.size w w' := by
  have HL := hid h.len
  have hcap := h.cap
  unfold maxLen at hcap
  go_enter Try.func48, Try.ntmps48
  go_wp2
  go_loopw [7] (fun i wr => ∃ j : Nat, j ≤ n ∧ i = .int .i64 j ∧ (l.take j).all (fun c => decide (CavOk c)) = true ∧ Below w.heap.size w wr) (fun i _ => n - (intOf i).toNat)
  case atStart => exact ⟨0, Nat.zero_le _, rfl, by simp, Below.refl _ _⟩
  case round =>
    obtain ⟨j, hj, rfl, hpre, hbel⟩ := hrel
    have HP := hid hpre
    clear hpre
    by_cases hlt : j < n
    · obtain ⟨b1, o1, hx1, rfl, hb1, t1, t2, t3, hw⟩ := cav_at h hlt
      have hb1' := hS b1 hb1
      have q1 := (hbel.cell (p := ⟨b1, o1 + j * 3, none⟩) hb1').trans t1
      have q2 := (hbel.cell (p := ⟨b1, o1 + j * 3 + 1, none⟩) hb1').trans t2
      have q3 := (hbel.cell (p := ⟨b1, o1 + j * 3 + 2, none⟩) hb1').trans t3
      have HT := hid (take_allC (p := fun c => decide (CavOk c)) hx1)
      have hba := bel_alloc hbel (Obj.cells #[.int .i64 l[j].Kind, .int .u64 l[j].A, .int .u64 l[j].B] 30)
      have HCK := hid (fun W => refCheckC_any #[.int .i64 l[j].Kind, .int .u64 l[j].A, .int .u64 l[j].B] (fun _ => True) l[j] W (rep_Caveat.2 ⟨rfl, hw⟩))
      clear t1 t2 t3
      rcases cavE_is (c := l[j]) with ⟨hE, hok⟩ | ⟨hE, hok⟩
      · rw [hE] at HCK
        have HN := hid (show (l.take (j + 1)).all (fun c => decide (CavOk c)) = true from by rw [HT.out, HP.out, decide_eq_true hok]; rfl)
        clear hE hok
        go_wp2_with fail
        refine (HCK.out _).mono ?_
        rintro e w2 ⟨rfl, hb2⟩
        go_wp2
        go_roundw
        case rel => exact ⟨j + 1, by omega, by go_num, HN.out, bel_call hba hb2⟩
        case measure => simp [intOf]; omega
      · rw [hE] at HCK
        have HN := hid (fewC_no (l := l) fun k => by have := cavsB_bad hx1 hok; rw [k.2] at this; cases this)
        clear hE hok
        go_wp2_with fail
        refine (HCK.out _).mono ?_
        rintro e w2 ⟨rfl, hb2⟩
        go_wp2
        go_ret
        exact ⟨ret_bool HN.out.symm, bel_call hba hb2⟩
    · have HTK := hid (show l.take j = l from List.take_of_length_le (by rw [HL.out]; omega))
      have HN := hid (show decide ((n : Int) ≤ 16) = fewC l from by
        have h1 := HP.out
        rw [HTK.out] at h1
        by_cases q : n ≤ 16
        · rw [decide_eq_true (by omega), fewC_yes ⟨by rw [HL.out]; exact q, h1⟩]
        · rw [decide_eq_false (by omega), fewC_no fun k => by have := k.1; rw [HL.out] at this; omega])
      go_wp2
      go_ret
      exact ⟨ret_bool HN.out, hbel⟩

set_option maxHeartbeats 1000000 in
theorem refCheckT_any (s : Array Value) (t : Tok) (w : World) (h : lay_Token.rep w (· < w.heap.size) t s.toList) :
    Calls Try.prog 22 #[.agg s] w fun e w' => e = .returned (.int .i64 (tkE t)) ∧ Below w.heap.size w w' := by
  obtain ⟨A, n, c, rfl, h1, h2, hL⟩ := agg_Token h
  clear h
  have bT := bounds_i64 h2
  have hb0 : Below w.heap.size w (w.alloc (Obj.cells #[.int .u64 t.Root, .slice A n c, .int .i64 t.Tag] 28)) := bel_alloc (Below.refl _ _) _
  have V0 := Var3.new w 28 (.int .u64 t.Root) (.slice A n c) (.int .i64 t.Tag)
  have HF := hid (refFewC_any _ _ _ _ t.L _ (Sl.call hL hb0) (fun _ h => h))
  clear hL h1 h2
  go_enter Try.func22, Try.ntmps22
  go_wp2_with fail
  refine HF.out.mono ?_
  rintro e w1 ⟨rfl, hb1⟩
  have V1 := V0.call hb1
  have k2 := V1.c2
  have HB1 := bel_call hb0 hb1
  clear hb1 hb0 V0 HF
  by_cases hc : CapsOk t.L
  rotate_left
  · rw [fewC_no hc]
    have HE := hid (show tkE t = 1 from if_neg fun k => hc k.1)
    clear hc V1
    go_wp2
    go_ret
    exact ⟨ret_num HE.out.symm, HB1⟩
  rw [fewC_yes hc]
  by_cases g1 : t.Tag < 0
  · have HE := hid (show tkE t = 1 from if_neg fun k => by have := k.2.1; omega)
    have d1 : decide (t.Tag < 0) = true := by simpa using g1
    clear hc V1
    generalize t.Tag = tg at *
    go_wp2
    go_ret
    exact ⟨ret_num HE.out.symm, HB1⟩
  have d1 : decide (t.Tag < 0) = false := by simpa using g1
  by_cases g2 : 1048576 < t.Tag
  · have HE := hid (show tkE t = 1 from if_neg fun k => by have := k.2.2; omega)
    have d2 : decide (1048576 < t.Tag) = true := by simpa using g2
    clear hc V1
    generalize t.Tag = tg at *
    go_wp2
    go_ret
    exact ⟨ret_num HE.out.symm, HB1⟩
  · have HE := hid (show tkE t = 0 from if_pos ⟨hc, by omega, by omega⟩)
    have d2 : decide (1048576 < t.Tag) = false := by simpa using g2
    clear hc V1
    generalize t.Tag = tg at *
    go_wp2
    go_ret
    exact ⟨ret_num HE.out.symm, HB1⟩

theorem drew_add (w : World) (m n : Nat) : (w.drewN m).drewN n = w.drewN (m + n) := by
  simp [World.drewN, Nat.add_assoc]
theorem take_sameV {l o : List Cav} {j : Nat} (hx : j < l.length) (hy : j < o.length) (h : l.take j = o.take j) (e : l[j] = o[j]) : l.take (j + 1) = o.take (j + 1) := by
  rw [List.take_succ_eq_append_getElem hx, List.take_succ_eq_append_getElem hy, h, e]

set_option maxRecDepth 100000 in
set_option maxHeartbeats 1000000 in
theorem refSameCavs_any (A1 A2 : Option Addr) (n1 c1 n2 c2 : Nat) (S : Nat → Prop) (l o : List Cav) (w : World) (h1 : Sl lay_Caveat w S A1 n1 c1 l) (h2 : Sl lay_Caveat w S A2 n2 c2 o) :
    Calls Try.prog 24 #[.slice A1 n1 c1, .slice A2 n2 c2] w fun e w' => e = .returned (.bool (decide (l = o))) ∧ ∃ m, w' = w.drewN m := by
  have K1 := hid h1.len
  have K2 := hid h2.len
  have k1 := h1.cap
  have k2 := h2.cap
  unfold maxLen at k1 k2
  by_cases hl : n1 = n2
  · subst hl
    have hne : ((n1 : Int) != (n1 : Int)) = false := by simp
    go_enter Try.func24, Try.ntmps24
    go_wp2
    go_loopw [13] (fun i wr => ∃ j : Nat, j ≤ n1 ∧ i = .int .i64 j ∧ l.take j = o.take j ∧ ∃ m, wr = w.drewN m) (fun i _ => n1 - (intOf i).toNat)
    case atStart => exact ⟨0, Nat.zero_le _, rfl, rfl, 0, rfl⟩
    case round =>
      obtain ⟨j, hj, rfl, hpre, m, hwr⟩ := hrel
      have HP := hid hpre
      have HW := hid hwr
      clear hpre hwr
      by_cases hlt : j < n1
      · obtain ⟨b1, o1, hx1, rfl, -, t1, t2, t3, w1⟩ := cav_at h1 hlt
        obtain ⟨b2, o2, hx2, rfl, -, u1, u2, u3, w2⟩ := cav_at h2 hlt
        have hne2 := run_neCav w1 w2
        clear w1 w2
        have q1 : wr.cell? ⟨b1, o1 + j * 3, none⟩ = some (.int .i64 l[j].Kind) := by rw [HW.out]; exact t1
        have q2 : wr.cell? ⟨b1, o1 + j * 3 + 1, none⟩ = some (.int .u64 l[j].A) := by rw [HW.out]; exact t2
        have q3 : wr.cell? ⟨b1, o1 + j * 3 + 2, none⟩ = some (.int .u64 l[j].B) := by rw [HW.out]; exact t3
        have p1 : wr.cell? ⟨b2, o2 + j * 3, none⟩ = some (.int .i64 o[j].Kind) := by rw [HW.out]; exact u1
        have p2 : wr.cell? ⟨b2, o2 + j * 3 + 1, none⟩ = some (.int .u64 o[j].A) := by rw [HW.out]; exact u2
        have p3 : wr.cell? ⟨b2, o2 + j * 3 + 2, none⟩ = some (.int .u64 o[j].B) := by rw [HW.out]; exact u3
        clear t1 t2 t3 u1 u2 u3
        by_cases he : l[j] = o[j]
        · have HN := hid (take_sameV hx1 hx2 HP.out he)
          rw [decide_eq_true he] at hne2
          clear he
          go_wp2_with fail
          go_quiet (fail)
          go_wp2
          go_roundw
          case rel => exact ⟨j + 1, by omega, by go_num, HN.out, m + _, by rw [HW.out]; exact drew_add w m _⟩
          case measure => simp [intOf]; omega
        · have HN := hid (show decide (l = o) = false from decide_eq_false fun e => he (by simp only [e]))
          rw [decide_eq_false he] at hne2
          clear he
          go_wp2_with fail
          go_quiet (fail)
          go_wp2
          go_ret
          exact ⟨ret_bool HN.out.symm, m + _, by rw [HW.out]; exact drew_add w m _⟩
      · have HN := hid (show decide (l = o) = true from by
          have := HP.out
          rw [List.take_of_length_le (by rw [K1.out]; omega), List.take_of_length_le (by rw [K2.out]; omega)] at this
          exact decide_eq_true this)
        go_wp2
        go_ret
        exact ⟨ret_bool HN.out.symm, m, HW.out⟩
  · have hne : ((n1 : Int) != (n2 : Int)) = true := by simp; omega
    have HN := hid (show decide (l = o) = false from decide_eq_false fun e => by rw [e] at K1; have a1 := K1.out; have a2 := K2.out; omega)
    go_enter Try.func24, Try.ntmps24
    go_wp2
    go_ret
    exact ⟨ret_bool HN.out.symm, 0, rfl⟩
end Go.Proofs.Ytgiapfenalhleaa
namespace Go.Proofs.Ytgiapfenalhleaa
open Go.RowKit Go.WalkArith

theorem Tok.ext' {a b : Tok} (h1 : a.Root = b.Root) (h2 : a.L = b.L) (h3 : a.Tag = b.Tag) : a = b := by cases a; cases b; simp_all

set_option maxHeartbeats 1000000 in
theorem refSameT_any (s1 s2 : Array Value) (x y : Tok) (w : World) (h1 : lay_Token.rep w (· < w.heap.size) x s1.toList) (h2 : lay_Token.rep w (· < w.heap.size) y s2.toList) :
    Calls Try.prog 20 #[.agg s1, .agg s2] w fun e w' => e = .returned (.bool (decide (x = y))) ∧ Below w.heap.size w w' := by
  obtain ⟨A1, n1, c1, rfl, -, -, hV1⟩ := agg_Token h1
  obtain ⟨A2, n2, c2, rfl, -, -, hV2⟩ := agg_Token h2
  have hb0 : Below w.heap.size w ((w.alloc (Obj.cells #[.int .u64 x.Root, .slice A1 n1 c1, .int .i64 x.Tag] 28)).alloc (Obj.cells #[.int .u64 y.Root, .slice A2 n2 c2, .int .i64 y.Tag] 28)) := bel_alloc (bel_alloc (Below.refl _ _) _) _
  have HS := hid (refSameCavs_any _ _ _ _ _ _ _ x.L y.L _ (Sl.call hV1 hb0) (Sl.call hV2 hb0))
  clear hV1 hV2 h1 h2
  by_cases hk : x.Root = y.Root
  · have hk' : (x.Root == y.Root) = true := by simpa using hk
    by_cases hu : x.Tag = y.Tag
    · have hu' : (x.Tag == y.Tag) = true := by simpa using hu
      have HD := hid (show decide (x = y) = decide (x.L = y.L) from by
        by_cases hv : x.L = y.L
        · rw [decide_eq_true (Tok.ext' hk hv hu), decide_eq_true hv]
        · rw [decide_eq_false hv, decide_eq_false fun e => hv (by rw [e])])
      clear hk hu
      go_enter Try.func20, Try.ntmps20
      go_wp2_with (go_at_call 24; go_must (refine HS.out.mono ?_; rintro e w' ⟨rfl, m, rfl⟩))
      go_ret
      exact ⟨ret_bool HD.out.symm, bel_drewN hb0 m⟩
    · have hu' : (x.Tag == y.Tag) = false := by simpa using hu
      have HD := hid (show decide (x = y) = false from decide_eq_false fun e => hu (by rw [e]))
      clear hk hu
      go_enter Try.func20, Try.ntmps20
      go_wp2
      go_ret
      exact ⟨ret_bool HD.out.symm, hb0⟩
  · have hk' : (x.Root == y.Root) = false := by simpa using hk
    have HD := hid (show decide (x = y) = false from decide_eq_false fun e => hk (by rw [e]))
    clear hk
    go_enter Try.func20, Try.ntmps20
    go_wp2
    go_ret
    exact ⟨ret_bool HD.out.symm, hb0⟩

theorem tk_is {t : Tok} : (tkE t = 0 ∧ TokOk t) ∨ (tkE t = 1 ∧ ¬ TokOk t) := by
  unfold tkE
  by_cases h : TokOk t
  · exact .inl ⟨if_pos h, h⟩
  · exact .inr ⟨if_neg h, h⟩
theorem octs_one (n : Int) : octs [n] = oct n := by simp [octs]
theorem txts_take {l : List Cav} {j : Nat} (hj : j < l.length) : txts (l.take (j + 1)) = txts (l.take j) ++ [putC l[j]] := by
  unfold txts
  rw [List.take_succ_eq_append_getElem hj, List.map_append]
  rfl
theorem rd_nums1 {w : World} {t : TypeId} {x : Int} (hx : (Lit.int .u64 x).wf = true) : Rd (w.alloc (.cells #[.int .u64 x] t)) (w.alloc (.cells #[.int .u64 x] t)).heap.size .u64 (some ⟨w.heap.size, 0, none⟩) 1 1 [x] :=
  Rd.lit1 (by rw [World.cell?_alloc_at _ _ _ _ rfl]; rfl) hx

set_option maxRecDepth 100000 in
set_option maxHeartbeats 4000000 in
theorem refVerify_any (s1 s2 : Array Value) (l : List Trm) (key : Int) (t : Tok) (w : World) (g1 : lay_Arena.rep w (· < w.heap.size) l s1.toList) (hk : (Lit.int .u64 key).wf = true) (g2 : lay_Token.rep w (· < w.heap.size) t s2.toList) :
    Calls Try.prog 18 #[.agg s1, .int .u64 key, .agg s2] w fun e w' => e = .returned (.tuple #[.bool (vfV l key t), .int .i64 (vfE l t)]) ∧ Below w.heap.size w w' := by
  obtain ⟨A1, n1, c1, rfl, hA⟩ := agg_Arena g1
  obtain ⟨A2, n2, c2, rfl, hR, hT, hL⟩ := agg_Token g2
  clear g1 g2
  have HL := hid hL.len
  have hcap := hL.cap
  unfold maxLen at hcap
  have hb0 : Below w.heap.size w ((w.alloc (Obj.cells #[.slice A1 n1 c1] 24)).alloc (Obj.cells #[.int .u64 t.Root, .slice A2 n2 c2, .int .i64 t.Tag] 28)) := bel_alloc (bel_alloc (Below.refl _ _) _) _
  have v0 : Var1 ((w.alloc (Obj.cells #[.slice A1 n1 c1] 24)).alloc (Obj.cells #[.int .u64 t.Root, .slice A2 n2 c2, .int .i64 t.Tag] 28)) w.heap.size 24 (.slice A1 n1 c1) := heap_alloc2_old _ _ _
  have v1 : Var3 ((w.alloc (Obj.cells #[.slice A1 n1 c1] 24)).alloc (Obj.cells #[.int .u64 t.Root, .slice A2 n2 c2, .int .i64 t.Tag] 28)) (w.heap.size + 1) 28 (.int .u64 t.Root) (.slice A2 n2 c2) (.int .i64 t.Tag) := alloc2_new _ _ _
  have hz0 : ((w.alloc (Obj.cells #[.slice A1 n1 c1] 24)).alloc (Obj.cells #[.int .u64 t.Root, .slice A2 n2 c2, .int .i64 t.Tag] 28)).heap.size = w.heap.size + 2 := by simp
  have PA := hid (fun (W : World) (h : Below w.heap.size w W) => (show lay_Arena.rep W (· < W.heap.size) l #[.slice A1 n1 c1].toList from rep_Arena.2 ⟨_, _, _, rfl, Sl.call hA h⟩))
  have PT := hid (fun (W : World) (h : Below w.heap.size w W) => (show lay_Token.rep W (· < W.heap.size) t #[.int .u64 t.Root, .slice A2 n2 c2, .int .i64 t.Tag].toList from rep_Token.2 ⟨_, _, _, rfl, hR, hT, Sl.call hL h⟩))
  clear hA
  go_enter Try.func18, Try.ntmps18
  go_wp2_with fail
  generalize ((w.alloc (Obj.cells #[.slice A1 n1 c1] 24)).alloc (Obj.cells #[.int .u64 t.Root, .slice A2 n2 c2, .int .i64 t.Tag] 28)) = W0 at *
  have KK := hid (fun (W : World) (h : Below W0.heap.size W0 W) => (show W.cell? ⟨w.heap.size, 0, none⟩ = some (.slice A1 n1 c1) ∧ W.cell? ⟨w.heap.size + 1, 0, none⟩ = some (.int .u64 t.Root) ∧ W.cell? ⟨w.heap.size + 1, 1, none⟩ = some (.slice A2 n2 c2) ∧ W.cell? ⟨w.heap.size + 1, 2, none⟩ = some (.int .i64 t.Tag) from ⟨(v0.call h).c0, (v1.call h).c0, (v1.call h).c1, (v1.call h).c2⟩))
  clear v0 v1
  refine (refCheckT_any _ t W0 (PT.out _ hb0)).mono ?_
  rintro e w1 ⟨rfl, hb1⟩
  have HB := hb1
  clear hb1
  rcases tk_is (t := t) with ⟨hE, hok⟩ | ⟨hE, hok⟩
  rotate_left
  · rw [hE]
    have HN := hid (show vfE l t = 1 ∧ vfV l key t = false from by
      rcases vf_is (l := l) (key := key) (t := t) with ⟨-, -, k⟩ | ⟨a, b, -⟩
      · exact absurd k.1 hok
      · exact ⟨a, b⟩)
    clear hE hok
    go_wp2
    go_ret2
    exact ⟨by rw [HN.out.1, HN.out.2]; rfl, bel_call hb0 HB⟩
  rw [hE]
  clear hE
  obtain ⟨k0, k1, k2, k3⟩ := KK.out _ HB
  go_wp2_with fail
  refine (refCheckA_any _ l w1 (PA.out _ (bel_call hb0 HB))).mono ?_
  rintro e w2 ⟨rfl, hb2⟩
  replace HB := bel_call HB hb2
  clear hb2 k0 k1 k2 k3
  by_cases har : ArOk l
  rotate_left
  · rw [show arE l = 1 from if_neg har]
    have HN := hid (show vfE l t = 1 ∧ vfV l key t = false from by
      rcases vf_is (l := l) (key := key) (t := t) with ⟨-, -, k⟩ | ⟨a, b, -⟩
      · exact absurd k.2 har
      · exact ⟨a, b⟩)
    clear har
    go_wp2
    go_ret2
    exact ⟨by rw [HN.out.1, HN.out.2]; rfl, bel_call hb0 HB⟩
  rw [show arE l = 0 from if_pos har]
  have HN := hid (show vfE l t = 0 ∧ vfV l key t = rightB l key t from by
    rcases vf_is (l := l) (key := key) (t := t) with ⟨a, b, -⟩ | ⟨-, -, k⟩
    · exact ⟨a, b⟩
    · exact absurd ⟨hok, har⟩ k)
  have hn16 : n2 ≤ 16 := by rw [← HL.out]; exact hok.1.1
  clear hok har
  obtain ⟨k0, k1, k2, k3⟩ := KK.out _ HB
  go_wp2
  have hz2 := HB.size
  go_loopw [8, 26] (fun tx i wr => ∃ (j : Nat) (tv : Value), j ≤ n2 ∧ i = .int .i64 j ∧ tx = tv ∧ OwnL lay_Txt wr (w.heap.size + 2) (some (w.heap.size + 2)) 46 tv (txts (t.L.take j)) ∧ Below W0.heap.size W0 wr) (fun _ i _ => n2 - (intOf i).toNat)
  case atStart => exact ⟨0, _, Nat.zero_le _, rfl, rfl, OwnL.nil _ _ _ _ _, HB⟩
  case round =>
    obtain ⟨j, tx, hj, rfl, htx, hown, hbel⟩ := hrel
    replace htx := htx.symm
    subst htx
    clear HB k0 k1 k2 k3
    have hwz := hbel.size
    by_cases hlt : j < n2
    · obtain ⟨b1, o1, hx1, rfl, hb1, t1, t2, t3, hw⟩ := cav_at hL hlt
      have hbw := bel_call hb0 hbel
      have q1 := (hbw.cell (p := ⟨b1, o1 + j * 3, none⟩) hb1).trans t1
      have q2 := (hbw.cell (p := ⟨b1, o1 + j * 3 + 1, none⟩) hb1).trans t2
      have q3 := (hbw.cell (p := ⟨b1, o1 + j * 3 + 2, none⟩) hb1).trans t3
      have HT := hid (txts_take hx1)
      have hba := bel_alloc (Below.refl wr.heap.size wr) (Obj.cells #[.int .i64 t.L[j].Kind, .int .u64 t.L[j].A, .int .u64 t.L[j].B] 30)
      have HPU := hid (refPutC_any #[.int .i64 t.L[j].Kind, .int .u64 t.L[j].A, .int .u64 t.L[j].B] (fun _ => True) t.L[j] (wr.alloc (Obj.cells #[.int .i64 t.L[j].Kind, .int .u64 t.L[j].A, .int .u64 t.L[j].B] 30)) (rep_Caveat.2 ⟨rfl, hw⟩))
      have hal : (txts (t.L.take j)).length ≤ 16 := by unfold txts; simp; omega
      have hlen1 : ((txts (t.L.take j)).length + 1) * 24 ≤ 140737488355328 := by omega
      have hlen2 : (txts (t.L.take j)).length + 1 ≤ maxLen := by unfold maxLen; omega
      have hzb : (wr.alloc (Obj.cells #[.int .i64 t.L[j].Kind, .int .u64 t.L[j].A, .int .u64 t.L[j].B] 30)).heap.size = wr.heap.size + 1 := by simp
      have HZB := hid hzb
      clear t1 t2 t3 hzb hal
      go_wp2_with fail
      refine HPU.out.mono ?_
      rintro e w5 ⟨v5, rfl, ho5, hb5⟩
      obtain ⟨A5, n5, c5, rfl, hs5⟩ := ho5.slI
      have hb6 := bel_call hba hb5
      have ho6 := hown.keep hb6
      have hge : ∀ g, tx.ownBlock = some g → g < wr.heap.size := fun g hg => hown.lt hg
      have HGE := hid hge
      have hz5 := hb5.size
      rw [HZB.out] at hz5 hs5
      have HS5 := hid hs5
      clear hge hba hb5 ho5 hs5 HPU q1 q2 q3
      go_wp2_with (at_builtin; go_must (refine wpList_pushL (w := w5) rfl (.tmp 35) (.tmp 37) 56 rfl (w.heap.size + 2) (some (w.heap.size + 2)) 46 _ 24 Try.underlying56 Try.infoTxt rfl (by decide) tx (txts (t.L.take j)) (putC t.L[j]) #[.slice A5 n5 c5] (From w5 (wr.heap.size + 1)) rfl rfl ho6 ⟨A5, n5, c5, rfl, HS5.out⟩ (fun b hb => ⟨⟨by have := hb.1; omega, hb.2.2⟩, hb.2.1, fun he => by have := HGE.out b he.symm; have := hb.1; omega⟩) (by omega) hlen1 hlen2 ?_; intro v7 w7 ho7 hx7; have hb7 : Below (w.heap.size + 2) w5 w7 := ho6.below hx7 (by omega)))
      go_roundw
      case rel => exact ⟨j + 1, _, by omega, by go_num, rfl, by rw [HT.out]; exact ho7, (bel_call hbel hb6).trans (by rw [hz0]; exact hb7)⟩
      case measure => simp [intOf]; omega
    · have HTK := hid (show t.L.take j = t.L from List.take_of_length_le (by rw [HL.out]; omega))
      rw [HTK.out] at hown
      obtain ⟨A6, n6, c6, rfl, hs6⟩ := hown.read
      have hn6 : n6 ≤ 1000 := by rw [← hs6.len]; unfold txts; rw [List.length_map, HL.out]; omega
      have HS6 := hid hs6
      obtain ⟨fi, hfi⟩ : ∃ z, findI l key (oct t.Root) (txts t.L) = z := ⟨_, rfl⟩
      obtain ⟨fe, hfe⟩ : ∃ z, findE l key (oct t.Root) (txts t.L) = z := ⟨_, rfl⟩
      have HRB := hid (show rightB l key t = decide (fe = 0 ∧ fi = t.Tag) from by unfold rightB; rw [hfi, hfe])
      have FI := hid hfi
      have FE := hid hfe
      clear hfi hfe hown hs6
      have KW := hid (fun (W : World) (h : Below wr.heap.size wr W) => KK.out _ (bel_call hbel h))
      have HH := Below.refl wr.heap.size wr
      obtain ⟨k0, k1, k2, k3⟩ := KK.out _ hbel
      have hba := fun (W : World) (h : Below wr.heap.size wr W) => bel_alloc h (Obj.cells #[.int .u64 t.Root] 25)
      have HPU := hid (refPut_any _ _ _ _ _ (rd_nums1 (w := wr.drewN 1) (t := 25) hR) (by decide))
      rw [octs_one] at HPU
      have hbw := bel_call hb0 hbel
      have hbx : Below wr.heap.size wr ((wr.drewN 1).alloc (Obj.cells #[.int .u64 t.Root] 25)) := bel_alloc (bel_drewN (Below.refl _ _) 1) _
      go_upto_region 10 with (fail)
      go_region_held3 (fun W => W.cell? ⟨w.heap.size, 0, none⟩ = some (.slice A1 n1 c1) ∧ W.cell? ⟨w.heap.size + 1, 0, none⟩ = some (.int .u64 t.Root) ∧ W.cell? ⟨w.heap.size + 1, 1, none⟩ = some (.slice A2 n2 c2) ∧ W.cell? ⟨w.heap.size + 1, 2, none⟩ = some (.int .i64 t.Tag))
        (first | exact KW.out _ HH | exact KW.out _ HH.drew | exact KW.out _ hbx | exact KW.out _ HBA | exact KW.out _ HBB | go_keep)
        (first
          | (go_at_call 36; go_must (refine HPU.out.mono ?_; rintro e wA ⟨vA, rfl, hoA, hbA⟩; obtain ⟨A7, n7, c7, rfl, hs7⟩ := hoA.formN; have HBA := bel_call hbx hbA))
          | (go_at_call 46; go_must (refine (refFindA_any _ l key _ _ _ (oct t.Root) _ _ _ (txts t.L) wA (PA.out _ (bel_call hbw HBA)) hk hs7.sl (Sl.call HS6.out HBA) hn6).mono ?_; rw [FI.out, FE.out]; rintro e wB ⟨rfl, hbB⟩; have HBB := bel_call HBA hbB)))
      all_goals
        have HBE := hid (bel_call hbw HBB)
        obtain ⟨i0, i1, i2, i3⟩ := KW.out _ HBB
        by_cases g1 : fe = 0
        · subst g1
          have HR := hid (show rightB l key t = (fi == t.Tag) from by
            rw [HRB.out, Bool.eq_iff_iff]
            simp)
          clear k0 k1 k2 k3
          generalize t.Tag = tg at *
          go_wp2
          go_ret2
          exact ⟨by rw [HN.out.1, HN.out.2, HR.out]; rfl, HBE.out⟩
        · have d1 : (fe == 0) = false := by simpa using g1
          have HR := hid (show rightB l key t = false from by
            rw [HRB.out, decide_eq_false]
            exact fun k => g1 k.1)
          clear k0 k1 k2 k3
          go_wp2
          go_ret2
          exact ⟨by rw [HN.out.1, HN.out.2, HR.out]; rfl, HBE.out⟩
end Go.Proofs.Ytgiapfenalhleaa
namespace Go.Proofs.Ytgiapfenalhleaa
open Go.RowKit Go.WalkArith

theorem results_cct {P : Program} {fn : Func} {a b v : Tmp} {t u : TypeId} (h : fn.results = #[.cell a t, .cell b u, .tmp v]) (tmps : Array Value) (w : World) (g o : Nat) (ha : tmps.getD a undef = .pointer (some ⟨g, o, none⟩)) (cs : List Value) (d : TypeDesc)
    (hc : w.rangeAt g o cs) (hu : P.underlying t = some d) (hd : d.isRow = true) (hi : (P.info? t).map (·.size) = some cs.length) (g' o' : Nat) (hb : tmps.getD b undef = .pointer (some ⟨g', o', none⟩)) (ds : List Value) (d' : TypeDesc)
    (hc' : w.rangeAt g' o' ds) (hu' : P.underlying u = some d') (hd' : d'.isRow = true) (hi' : (P.info? u).map (·.size) = some ds.length) : (results fn tmps).run P w = .ok (.tuple #[.agg cs.toArray, .agg ds.toArray, tmps.getD v undef]) w := by
  rw [Array.getD_eq_getD_getElem?] at ha hb
  simp [results, h, ha, hb, asAddr, run_loadVar_mid w g o t cs d hc hu hd hi, run_loadVar_mid w g' o' u ds d' hc' hu' hd' hi']
/-- What is bound to a token that is handed back is the caller's own. -/
def OwnT (w : World) (base : Nat) (v : Value) (t : Tok) : Prop := ∃ u, v = .agg #[.int .u64 t.Root, u, .int .i64 t.Tag] ∧ OwnL lay_Caveat w base (some base) 30 u t.L
theorem Rd.kept {w w' : World} {k : IntKind} {A : Option Addr} {n c : Nat} {xs : List Int} (h : Rd w w.heap.size k A n c xs) (hb : Below w.heap.size w w') : Rd w' w'.heap.size k A n c xs := (h.below hb).more hb.size

set_option maxRecDepth 100000 in
set_option maxHeartbeats 4000000 in
theorem refMint_any (s1 : Array Value) (l : List Trm) (root key : Int) (w : World) (g1 : lay_Arena.rep w (· < w.heap.size) l s1.toList) (hr : (Lit.int .u64 root).wf = true) (hk : (Lit.int .u64 key).wf = true) :
    Calls Try.prog 14 #[.agg s1, .int .u64 root, .int .u64 key] w fun e w' => ∃ v' vt, e = .returned (.tuple #[.agg #[v'], vt, .int .i64 (mtE l root key)]) ∧ OwnL lay_Term w' w.heap.size (some w.heap.size) 62 v' (mtL l root key) ∧ OwnT w' w.heap.size vt (mtT l root key) ∧ Below w.heap.size w w' := by
  obtain ⟨A1, n1, c1, rfl, hA⟩ := agg_Arena g1
  clear g1
  have hb0 : Below w.heap.size w (((w.alloc (Obj.cells #[.slice A1 n1 c1] 24)).alloc (Obj.cells #[.slice none 0 0] 24)).alloc (Obj.cells #[.int .u64 0, .slice none 0 0, .int .i64 0] 28)) := bel_alloc (bel_alloc (bel_alloc (Below.refl _ _) _) _) _
  have hB3 := fun (W : World) (h : Below (w.heap.size + 3) (((w.alloc (Obj.cells #[.slice A1 n1 c1] 24)).alloc (Obj.cells #[.slice none 0 0] 24)).alloc (Obj.cells #[.int .u64 0, .slice none 0 0, .int .i64 0] 28)) W) => three_blocks h
  have hz3 : (((w.alloc (Obj.cells #[.slice A1 n1 c1] 24)).alloc (Obj.cells #[.slice none 0 0] 24)).alloc (Obj.cells #[.int .u64 0, .slice none 0 0, .int .i64 0] 28)).heap.size = w.heap.size + 3 := by simp
  have PA := hid (fun (W : World) (h : Below w.heap.size w W) => (show lay_Arena.rep W (· < W.heap.size) l #[.slice A1 n1 c1].toList from rep_Arena.2 ⟨_, _, _, rfl, Sl.call hA h⟩))
  clear hA
  go_enter Try.func14, Try.ntmps14
  go_upto_region 1 with (fail)
  generalize (((w.alloc (Obj.cells #[.slice A1 n1 c1] 24)).alloc (Obj.cells #[.slice none 0 0] 24)).alloc (Obj.cells #[.int .u64 0, .slice none 0 0, .int .i64 0] 28)) = W0 at *
  obtain ⟨q0, q1, q2⟩ := hB3 W0 (Below.refl _ _)
  have HZ3 := hid hz3
  clear hz3 hB3
  have KK := hid (fun (W : World) (h : Below W0.heap.size W0 W) => (show W.cell? ⟨w.heap.size, 0, none⟩ = some (.slice A1 n1 c1) from cell_of_one ((h.block _ (lt_of_block q0)).trans q0)))
  obtain ⟨we, hwe⟩ : ∃ z, withE l (rootT key (oct root)) = z := ⟨_, rfl⟩
  obtain ⟨wi, hwi⟩ : ∃ z, withI l (rootT key (oct root)) = z := ⟨_, rfl⟩
  obtain ⟨wl, hwl⟩ : ∃ z, withL l (rootT key (oct root)) = z := ⟨_, rfl⟩
  have WE := hid hwe
  have WI := hid hwi
  have WL := hid hwl
  clear hwe hwi hwl
  go_cut [9, 10, 11] from 12 to 21 (fun p i e wc => ∃ g v, p = .pointer (some ⟨g, 0, none⟩) ∧ i = .int .i64 wi ∧ e = .int .i64 we ∧ Var1 wc g 24 v ∧ W0.heap.size ≤ g ∧ OwnL lay_Term wc W0.heap.size (some W0.heap.size) 62 v wl ∧ Below W0.heap.size W0 wc)
  case first =>
    have HH := Below.refl W0.heap.size W0
    have k0 := KK.out _ HH
    have hbR : Below W0.heap.size W0 (W0.alloc (Obj.cells #[.int .u64 root] 25)).drew := (bel_alloc HH _).drew
    have hbV : Below W0.heap.size W0 (W0.alloc (Obj.cells #[.slice none 0 0] 24)).drew := (bel_alloc HH _).drew
    have hbVR : Below W0.heap.size W0 ((W0.alloc (Obj.cells #[.slice none 0 0] 24)).alloc (Obj.cells #[.int .u64 root] 25)).drew := (bel_alloc (bel_alloc HH _) _).drew
    have hbRV : Below W0.heap.size W0 ((W0.alloc (Obj.cells #[.int .u64 root] 25)).alloc (Obj.cells #[.slice none 0 0] 24)).drew := (bel_alloc (bel_alloc HH _) _).drew
    have R1 := rd_nums1 (w := W0) (t := 25) hr
    have R2 := rd_nums1 (w := W0.alloc (Obj.cells #[.slice none 0 0] 24)) (t := 25) hr
    have R3 := R1.kept (bel_alloc (Below.refl _ _) (Obj.cells #[.slice none 0 0] 24))
    have P1 := hid (refPut_any _ _ _ _ _ (R1.kept (Below.refl _ _).drew) (by decide))
    have P2 := hid (refPut_any _ _ _ _ _ (R2.kept (Below.refl _ _).drew) (by decide))
    have P3 := hid (refPut_any _ _ _ _ _ (R3.kept (Below.refl _ _).drew) (by decide))
    rw [octs_one] at P1 P2 P3
    rw [show (W0.alloc (Obj.cells #[.slice none 0 0] 24)).heap.size = W0.heap.size + 1 from by simp] at P2
    have TV : Var1 ((W0.alloc (Obj.cells #[.slice none 0 0] 24)).alloc (Obj.cells #[.int .u64 root] 25)).drew W0.heap.size 24 (.slice none 0 0) := ((Var1.new W0 24 (.slice none 0 0)).call (bel_alloc (Below.refl _ _) _)).call (Below.refl _ _).drew
    have TW : Var1 ((W0.alloc (Obj.cells #[.int .u64 root] 25)).alloc (Obj.cells #[.slice none 0 0] 24)).drew (W0.heap.size + 1) 24 (.slice none 0 0) := by
      have := (Var1.new (W0.alloc (Obj.cells #[.int .u64 root] 25)) 24 (.slice none 0 0)).call (Below.refl _ _).drew
      simpa using this
    have HTV := hid TV
    have HTW := hid TW
    clear R1 R2 R3 TV TW
    go_region_held3 (fun W => W.cell? ⟨w.heap.size, 0, none⟩ = some (.slice A1 n1 c1))
      (first | exact KK.out _ HH | exact KK.out _ HH.drew | exact KK.out _ hbR | exact KK.out _ hbV | exact KK.out _ hbVR | exact KK.out _ hbRV | exact KK.out _ HBB | exact KK.out _ (bel_alloc HBB _) | exact KK.out _ (HBB.setCell (p := ⟨W0.heap.size, 0, none⟩) (Nat.le_refl _) _) | exact KK.out _ (HBB.setCell (p := ⟨W0.heap.size + 1, 0, none⟩) (Nat.le_succ _) _) | exact KK.out _ (HBB.setCell (p := ⟨wA.heap.size, 0, none⟩) HBA.size _) | exact KK.out _ HBA | exact KK.out _ (bel_alloc HBA _) | go_keep)
      (first
        | (go_at_call 36; (with_reducible refine P1.out.mono ?_); rintro e wA ⟨vA, rfl, hoA, hbA⟩; obtain ⟨A7, n7, c7, rfl, hs7⟩ := hoA.formN; have HBA := bel_call hbR hbA)
        | (go_at_call 36; (with_reducible refine P2.out.mono ?_); rintro e wA ⟨vA, rfl, hoA, hbA⟩; obtain ⟨A7, n7, c7, rfl, hs7⟩ := hoA.formN; have HBA := bel_call hbVR hbA; have TA := HTV.out.call hbA; have tag := TA.lt)
        | (go_at_call 36; (with_reducible refine P3.out.mono ?_); rintro e wA ⟨vA, rfl, hoA, hbA⟩; obtain ⟨A7, n7, c7, rfl, hs7⟩ := hoA.formN; have HBA := bel_call hbRV hbA; have TA := HTW.out.call hbA; have tag := TA.lt)
        | (go_at_call 35; (refine (refRootA_any _ l key _ _ _ (oct root) wA (PA.out _ (bel_call hb0 HBA)) hk hs7).mono ?_); rw [WI.out, WE.out, WL.out]; rintro e wB ⟨vB, rfl, hoB, hbB⟩; obtain ⟨A8, n8, c8, rfl, hs8⟩ := hoB.read; have HBB := bel_call HBA hbB; have TB := TA.call hbB; have tb0 := TB.c0; have tbf := free_of_one TB)
        | (go_at_call 35; (refine (refRootA_any _ l key _ _ _ (oct root) wA (PA.out _ (bel_call hb0 HBA)) hk hs7).mono ?_); rw [WI.out, WE.out, WL.out]; rintro e wB ⟨vB, rfl, hoB, hbB⟩; obtain ⟨A8, n8, c8, rfl, hs8⟩ := hoB.read; have HBB := bel_call HBA hbB)
        | (go_at_call 35; (refine (refRootA_any _ l key _ _ _ (oct root) _ (PA.out _ (bel_call hb0 (bel_alloc HBA _))) hk (hs7.kept (bel_alloc (Below.refl _ _) _))).mono ?_); rw [WI.out, WE.out, WL.out]; rintro e wB ⟨vB, rfl, hoB, hbB⟩; obtain ⟨A8, n8, c8, rfl, hs8⟩ := hoB.read; have HBB := bel_call (bel_alloc HBA _) hbB; have TB := (Var1.new wA 24 (.slice none 0 0)).call hbB; have tb0 := TB.c0; have tbf := free_of_one TB))
    all_goals
      go_wp2_with fail
      go_meet
      case rel =>
        first
          | exact ⟨_, _, rfl, rfl, rfl, Var1.new _ _ _, HBB.size, (hoB.lows HBA.size HBA.size).keep (bel_alloc (Below.refl _ _) _), bel_alloc HBB _⟩
          | exact ⟨_, _, rfl, rfl, rfl, TB.set _, Nat.le_refl _, (hoB.setLow tag tag 0 _).lows HBA.size HBA.size, HBB.setCell (p := ⟨_, 0, none⟩) (Nat.le_refl _) _⟩
          | exact ⟨_, _, rfl, rfl, rfl, TB.set _, Nat.le_succ _, (hoB.setLow tag tag 0 _).lows HBA.size HBA.size, HBB.setCell (p := ⟨_, 0, none⟩) (Nat.le_succ _) _⟩
          | exact ⟨_, _, rfl, rfl, rfl, TB.set _, HBA.size, (hoB.setLow (by simp) (by simp) 0 _).lows (bel_alloc HBA _).size (bel_alloc HBA _).size, HBB.setCell (p := ⟨_, 0, none⟩) HBA.size _⟩
  case rest =>
  obtain ⟨g, v, rfl, rfl, rfl, TB, hg, ho, hb⟩ := hcut
  obtain ⟨A8, n8, c8, rfl, hs8⟩ := ho.read
  have V1 : Var1 wc (w.heap.size + 1) 24 (.slice none 0 0) := (hb.block _ (lt_of_block q1)).trans q1
  have V2 : Var3 wc (w.heap.size + 1 + 1) 28 (.int .u64 0) (.slice none 0 0) (.int .i64 0) := (hb.block _ (lt_of_block q2)).trans q2
  have hgz : w.heap.size + 3 ≤ g := by rw [← HZ3.out]; exact hg
  have HB := bel_call hb0 hb
  have a0 := V1.c0
  have af := V1.f
  have t0 := V2.c0
  have t1 := V2.c1
  have t2 := V2.c2
  have f0 := V2.f 0
  have f1 := V2.f 1
  have f2 := V2.f 2
  have z0 := TB.c0
  clear q0 q1 q2 hb0 hb hg
  by_cases he : we = 0
  · subst he
    have HT := hid (show mtT l root key = ⟨root, [], wi⟩ from by unfold mtT mtE; rw [WE.out, if_pos rfl, WI.out])
    have V1' := hid (((((V1.set (.slice A8 n8 c8)).setOther (b := w.heap.size + 1 + 1) (by omega) 0 (.int .u64 root)).setOther (b := w.heap.size + 1 + 1) (by omega) 1 (.slice none 0 0)).setOther (b := w.heap.size + 1 + 1) (by omega) 2 (.int .i64 wi)))
    have V2' := hid ((V2.setOther (b := w.heap.size + 1) (by omega) 0 (.slice A8 n8 c8)).set (.int .u64 root) (.slice none 0 0) (.int .i64 wi))
    have HO := hid (((((ho.setLow (b := w.heap.size + 1) (by rw [HZ3.out]; omega) (by rw [HZ3.out]; omega) 0 (.slice A8 n8 c8)).setLow (b := w.heap.size + 1 + 1) (by rw [HZ3.out]; omega) (by rw [HZ3.out]; omega) 0 (.int .u64 root)).setLow (b := w.heap.size + 1 + 1) (by rw [HZ3.out]; omega) (by rw [HZ3.out]; omega) 1 (.slice none 0 0)).setLow (b := w.heap.size + 1 + 1) (by rw [HZ3.out]; omega) (by rw [HZ3.out]; omega) 2 (.int .i64 wi)).lows (base' := w.heap.size) (lo' := w.heap.size) (by rw [HZ3.out]; omega) (by rw [HZ3.out]; omega))
    have HBE := hid ((((HB.setCell (p := ⟨w.heap.size + 1, 0, none⟩) (by show w.heap.size ≤ w.heap.size + 1; omega) (.slice A8 n8 c8)).setCell (p := ⟨w.heap.size + 1 + 1, 0, none⟩) (by show w.heap.size ≤ w.heap.size + 1 + 1; omega) (.int .u64 root)).setCell (p := ⟨w.heap.size + 1 + 1, 1, none⟩) (by show w.heap.size ≤ w.heap.size + 1 + 1; omega) (.slice none 0 0)).setCell (p := ⟨w.heap.size + 1 + 1, 2, none⟩) (by show w.heap.size ≤ w.heap.size + 1 + 1; omega) (.int .i64 wi))
    clear V1 V2 TB ho HB
    go_wp2
    refine bodyPost_ret_by (results_cct rfl _ _ (w.heap.size + 1) 0 rfl [.slice A8 n8 c8] _ (range1 V1'.out.c0) Try.underlying24 rfl (by kernel_rfl) (w.heap.size + 1 + 1) 0 rfl [.int .u64 root, .slice none 0 0, .int .i64 wi] _ (range3 V2'.out.c0 V2'.out.c1 V2'.out.c2) Try.underlying28 rfl (by kernel_rfl)) rfl ?_
    exact ⟨_, _, by unfold mtE; rw [WE.out]; rfl, by unfold mtL; rw [WL.out]; exact HO.out, by rw [HT.out]; exact ⟨_, rfl, OwnL.nil _ _ _ _ _⟩, HBE.out⟩
  · have HT := hid (show mtT l root key = zeroT from by unfold mtT mtE; rw [WE.out, if_neg he])
    have HWL := hid (show wl = [] from by rw [← WL.out]; unfold withL; rw [if_neg (by rw [WE.out]; exact he)])
    have hne : (we != 0) = true := by simpa using he
    have V1' := hid (((((V1.set (.slice none 0 0)).setOther (b := w.heap.size + 1 + 1) (by omega) 0 (.int .u64 0)).setOther (b := w.heap.size + 1 + 1) (by omega) 1 (.slice none 0 0)).setOther (b := w.heap.size + 1 + 1) (by omega) 2 (.int .i64 0)))
    have V2' := hid ((V2.setOther (b := w.heap.size + 1) (by omega) 0 (.slice none 0 0)).set (.int .u64 0) (.slice none 0 0) (.int .i64 0))
    have HBE := hid ((((HB.setCell (p := ⟨w.heap.size + 1, 0, none⟩) (by show w.heap.size ≤ w.heap.size + 1; omega) (.slice none 0 0)).setCell (p := ⟨w.heap.size + 1 + 1, 0, none⟩) (by show w.heap.size ≤ w.heap.size + 1 + 1; omega) (.int .u64 0)).setCell (p := ⟨w.heap.size + 1 + 1, 1, none⟩) (by show w.heap.size ≤ w.heap.size + 1 + 1; omega) (.slice none 0 0)).setCell (p := ⟨w.heap.size + 1 + 1, 2, none⟩) (by show w.heap.size ≤ w.heap.size + 1 + 1; omega) (.int .i64 0))
    clear V1 V2 TB ho HB he
    go_wp2
    refine bodyPost_ret_by (results_cct rfl _ _ (w.heap.size + 1) 0 rfl [.slice none 0 0] _ (range1 V1'.out.c0) Try.underlying24 rfl (by kernel_rfl) (w.heap.size + 1 + 1) 0 rfl [.int .u64 0, .slice none 0 0, .int .i64 0] _ (range3 V2'.out.c0 V2'.out.c1 V2'.out.c2) Try.underlying28 rfl (by kernel_rfl)) rfl ?_
    exact ⟨_, _, by unfold mtE; rw [WE.out]; rfl, by unfold mtL; rw [WL.out, HWL.out]; exact OwnL.nil _ _ _ _ _, by rw [HT.out]; exact ⟨_, rfl, OwnL.nil _ _ _ _ _⟩, HBE.out⟩
end Go.Proofs.Ytgiapfenalhleaa
namespace Go.Proofs.Ytgiapfenalhleaa
open Go.RowKit Go.WalkArith

theorem Try.infoCav7 : (Try.prog.info? 30).map (fun i => (i.zero, i.size, i.bytes)) = some (some (.agg #[.int .i64 0, .int .u64 0, .int .u64 0]), lay_Caveat.size, 24) := by kernel_rfl
theorem putC_len7 (c : Cav) : (putC c).length ≤ 27 := by
  unfold putC
  split
  · have := octs_len_le (numsC c)
    have h2 : (numsC c).length ≤ 3 := by unfold numsC; split <;> simp
    omega
  · simp
theorem repC_any {w : World} {S S' : Nat → Prop} : ∀ {xs : List Cav} {cs : List Value}, RepRow lay_Caveat w S xs cs → RepRow lay_Caveat w S' xs cs
  | [], _, h => h
  | _ :: _, _, ⟨c1, c2, h1, h2, h3⟩ => ⟨c1, c2, h1, rep_Caveat.2 (rep_Caveat.1 h2), repC_any h3⟩
theorem OwnL.cav {w : World} {base : Nat} {e : TypeId} {v : Value} {xs : List Cav} (h : OwnL lay_Caveat w base none e v xs) (lo : Nat) : OwnL lay_Caveat w base (some lo) e v xs := by
  obtain ⟨cs, h1, h2⟩ := h
  exact ⟨cs, h1, repC_any h2⟩
theorem bd_no {l : List Trm} {t : Tok} {c : Cav} {e : Int} (h : bdE l t c = e) (he : e ≠ 0) : bdE l t c = e ∧ bdL l t c = [] ∧ bdT l t c = zeroT :=
  ⟨h, if_neg (by rw [h]; exact he), if_neg (by rw [h]; exact he)⟩

set_option maxRecDepth 100000 in
set_option maxHeartbeats 8000000 in
theorem refBind_any (s1 s2 s3 : Array Value) (l : List Trm) (t : Tok) (c : Cav) (w : World) (g1 : lay_Arena.rep w (· < w.heap.size) l s1.toList) (g2 : lay_Token.rep w (· < w.heap.size) t s2.toList) (g3 : lay_Caveat.rep w (fun _ => True) c s3.toList) :
    Calls Try.prog 16 #[.agg s1, .agg s2, .agg s3] w fun e w' => ∃ v' vt, e = .returned (.tuple #[.agg #[v'], vt, .int .i64 (bdE l t c)]) ∧ OwnL lay_Term w' w.heap.size (some w.heap.size) 62 v' (bdL l t c) ∧ OwnT w' w.heap.size vt (bdT l t c) ∧ Below w.heap.size w w' := by
  obtain ⟨A1, n1, c1, rfl, hA⟩ := agg_Arena g1
  obtain ⟨A2, n2, c2, rfl, hR, hT, hL⟩ := agg_Token g2
  obtain ⟨rfl, hC⟩ := agg_Caveat g3
  clear g1 g2 g3
  have HL := hid hL.len
  have hcap := hL.cap
  unfold maxLen at hcap
  have hb0 : Below w.heap.size w (((((w.alloc (Obj.cells #[.slice A1 n1 c1] 24)).alloc (Obj.cells #[.int .u64 t.Root, .slice A2 n2 c2, .int .i64 t.Tag] 28)).alloc (Obj.cells #[.int .i64 c.Kind, .int .u64 c.A, .int .u64 c.B] 30)).alloc (Obj.cells #[.slice none 0 0] 24)).alloc (Obj.cells #[.int .u64 0, .slice none 0 0, .int .i64 0] 28)) := bel_alloc (bel_alloc (bel_alloc (bel_alloc (bel_alloc (Below.refl _ _) _) _) _) _) _
  have hv := five_vars (w := w) (a := Obj.cells #[.slice A1 n1 c1] 24) (b := Obj.cells #[.int .u64 t.Root, .slice A2 n2 c2, .int .i64 t.Tag] 28) (c := Obj.cells #[.int .i64 c.Kind, .int .u64 c.A, .int .u64 c.B] 30) (d := Obj.cells #[.slice none 0 0] 24) (e := Obj.cells #[.int .u64 0, .slice none 0 0, .int .i64 0] 28)
  have v0 : Var1 (((((w.alloc (Obj.cells #[.slice A1 n1 c1] 24)).alloc (Obj.cells #[.int .u64 t.Root, .slice A2 n2 c2, .int .i64 t.Tag] 28)).alloc (Obj.cells #[.int .i64 c.Kind, .int .u64 c.A, .int .u64 c.B] 30)).alloc (Obj.cells #[.slice none 0 0] 24)).alloc (Obj.cells #[.int .u64 0, .slice none 0 0, .int .i64 0] 28)) w.heap.size 24 (.slice A1 n1 c1) := hv.1
  have v1 : Var3 (((((w.alloc (Obj.cells #[.slice A1 n1 c1] 24)).alloc (Obj.cells #[.int .u64 t.Root, .slice A2 n2 c2, .int .i64 t.Tag] 28)).alloc (Obj.cells #[.int .i64 c.Kind, .int .u64 c.A, .int .u64 c.B] 30)).alloc (Obj.cells #[.slice none 0 0] 24)).alloc (Obj.cells #[.int .u64 0, .slice none 0 0, .int .i64 0] 28)) (w.heap.size + 1) 28 _ _ _ := hv.2.1
  have v2 : Var3 (((((w.alloc (Obj.cells #[.slice A1 n1 c1] 24)).alloc (Obj.cells #[.int .u64 t.Root, .slice A2 n2 c2, .int .i64 t.Tag] 28)).alloc (Obj.cells #[.int .i64 c.Kind, .int .u64 c.A, .int .u64 c.B] 30)).alloc (Obj.cells #[.slice none 0 0] 24)).alloc (Obj.cells #[.int .u64 0, .slice none 0 0, .int .i64 0] 28)) (w.heap.size + 1 + 1) 30 _ _ _ := hv.2.2.1
  have v3 : Var1 (((((w.alloc (Obj.cells #[.slice A1 n1 c1] 24)).alloc (Obj.cells #[.int .u64 t.Root, .slice A2 n2 c2, .int .i64 t.Tag] 28)).alloc (Obj.cells #[.int .i64 c.Kind, .int .u64 c.A, .int .u64 c.B] 30)).alloc (Obj.cells #[.slice none 0 0] 24)).alloc (Obj.cells #[.int .u64 0, .slice none 0 0, .int .i64 0] 28)) (w.heap.size + 1 + 1 + 1) 24 (.slice none 0 0) := hv.2.2.2.1
  have v4 : Var3 (((((w.alloc (Obj.cells #[.slice A1 n1 c1] 24)).alloc (Obj.cells #[.int .u64 t.Root, .slice A2 n2 c2, .int .i64 t.Tag] 28)).alloc (Obj.cells #[.int .i64 c.Kind, .int .u64 c.A, .int .u64 c.B] 30)).alloc (Obj.cells #[.slice none 0 0] 24)).alloc (Obj.cells #[.int .u64 0, .slice none 0 0, .int .i64 0] 28)) (w.heap.size + 1 + 1 + 1 + 1) 28 (.int .u64 0) (.slice none 0 0) (.int .i64 0) := hv.2.2.2.2
  have hz5 : (((((w.alloc (Obj.cells #[.slice A1 n1 c1] 24)).alloc (Obj.cells #[.int .u64 t.Root, .slice A2 n2 c2, .int .i64 t.Tag] 28)).alloc (Obj.cells #[.int .i64 c.Kind, .int .u64 c.A, .int .u64 c.B] 30)).alloc (Obj.cells #[.slice none 0 0] 24)).alloc (Obj.cells #[.int .u64 0, .slice none 0 0, .int .i64 0] 28)).heap.size = w.heap.size + 5 := by simp
  have HZ5 := hid hz5
  clear hv hz5
  have PA := hid (fun (W : World) (h : Below w.heap.size w W) => (show lay_Arena.rep W (· < W.heap.size) l #[.slice A1 n1 c1].toList from rep_Arena.2 ⟨_, _, _, rfl, Sl.call hA h⟩))
  have PT := hid (fun (W : World) (h : Below w.heap.size w W) => (show lay_Token.rep W (· < W.heap.size) t #[.int .u64 t.Root, .slice A2 n2 c2, .int .i64 t.Tag].toList from rep_Token.2 ⟨_, _, _, rfl, hR, hT, Sl.call hL h⟩))
  have PL := hid (fun (W : World) (h : Below w.heap.size w W) => Sl.call hL h)
  have PC := hid (fun (W : World) (S : Nat → Prop) => (show lay_Caveat.rep W S c #[.int .i64 c.Kind, .int .u64 c.A, .int .u64 c.B].toList from rep_Caveat.2 ⟨rfl, hC⟩))
  have hlt := putC_len7 c
  clear hA hL
  go_enter Try.func16, Try.ntmps16
  go_wp2_with fail
  generalize (((((w.alloc (Obj.cells #[.slice A1 n1 c1] 24)).alloc (Obj.cells #[.int .u64 t.Root, .slice A2 n2 c2, .int .i64 t.Tag] 28)).alloc (Obj.cells #[.int .i64 c.Kind, .int .u64 c.A, .int .u64 c.B] 30)).alloc (Obj.cells #[.slice none 0 0] 24)).alloc (Obj.cells #[.int .u64 0, .slice none 0 0, .int .i64 0] 28)) = W0 at *
  have KK := hid (fun (W : World) (h : Below W0.heap.size W0 W) => (show W.cell? ⟨w.heap.size, 0, none⟩ = some (.slice A1 n1 c1) ∧ W.cell? ⟨w.heap.size + 1, 0, none⟩ = some (.int .u64 t.Root) ∧ W.cell? ⟨w.heap.size + 1, 1, none⟩ = some (.slice A2 n2 c2) ∧ W.cell? ⟨w.heap.size + 1, 2, none⟩ = some (.int .i64 t.Tag) ∧ W.cell? ⟨w.heap.size + 1 + 1, 0, none⟩ = some (.int .i64 c.Kind) ∧ W.cell? ⟨w.heap.size + 1 + 1, 1, none⟩ = some (.int .u64 c.A) ∧ W.cell? ⟨w.heap.size + 1 + 1, 2, none⟩ = some (.int .u64 c.B) from ⟨(v0.call h).c0, (v1.call h).c0, (v1.call h).c1, (v1.call h).c2, (v2.call h).c0, (v2.call h).c1, (v2.call h).c2⟩))
  have V12 := hid (And.intro v1 v2)
  clear v0 v1 v2
  refine (refPutC_any _ (fun _ => True) c W0 (PC.out _ _)).mono ?_
  rintro e w1 ⟨vp, rfl, hop, hb1⟩
  obtain ⟨Ap, np, cp, rfl, hsp⟩ := hop.formN
  have HSP := hid hsp
  have H1 := Below.refl w1.heap.size w1
  have HB := hb1
  clear hb1 hop hsp
  rcases cavE_is (c := c) with ⟨hE, hok⟩ | ⟨hE, hok⟩
  rotate_left
  · rw [hE]
    have HE := hid (bd_no (l := l) (t := t) (c := c) (e := 1) (if_neg fun k => hok k.1) (by decide))
    clear hE hok
    have HBW := bel_call hb0 HB
    have V3 : Var1 w1 (w.heap.size + 1 + 1 + 1) 24 (.slice none 0 0) := v3.call HB
    have V4 : Var3 w1 (w.heap.size + 1 + 1 + 1 + 1) 28 (.int .u64 0) (.slice none 0 0) (.int .i64 0) := v4.call HB
    have a0 := V3.c0
    have af := V3.f
    have t0 := V4.c0
    have t1 := V4.c1
    have t2 := V4.c2
    have f0 := V4.f 0
    have f1 := V4.f 1
    have f2 := V4.f 2
    have V1' := hid (((((V3.set (.slice none 0 0)).setOther (b := w.heap.size + 1 + 1 + 1 + 1) (by omega) 0 (.int .u64 0)).setOther (b := w.heap.size + 1 + 1 + 1 + 1) (by omega) 1 (.slice none 0 0)).setOther (b := w.heap.size + 1 + 1 + 1 + 1) (by omega) 2 (.int .i64 0)))
    have V2' := hid ((V4.setOther (b := w.heap.size + 1 + 1 + 1) (by omega) 0 (.slice none 0 0)).set (.int .u64 0) (.slice none 0 0) (.int .i64 0))
    have HBE := hid ((((HBW.setCell (p := ⟨w.heap.size + 1 + 1 + 1, 0, none⟩) (by show w.heap.size ≤ w.heap.size + 1 + 1 + 1; omega) (.slice none 0 0)).setCell (p := ⟨w.heap.size + 1 + 1 + 1 + 1, 0, none⟩) (by show w.heap.size ≤ w.heap.size + 1 + 1 + 1 + 1; omega) (.int .u64 0)).setCell (p := ⟨w.heap.size + 1 + 1 + 1 + 1, 1, none⟩) (by show w.heap.size ≤ w.heap.size + 1 + 1 + 1 + 1; omega) (.slice none 0 0)).setCell (p := ⟨w.heap.size + 1 + 1 + 1 + 1, 2, none⟩) (by show w.heap.size ≤ w.heap.size + 1 + 1 + 1 + 1; omega) (.int .i64 0))
    clear V3 V4 HBW
    go_wp2
    refine bodyPost_ret_by (results_cct rfl _ _ (w.heap.size + 1 + 1 + 1) 0 rfl [.slice none 0 0] _ (range1 V1'.out.c0) Try.underlying24 rfl (by kernel_rfl) (w.heap.size + 1 + 1 + 1 + 1) 0 rfl [.int .u64 0, .slice none 0 0, .int .i64 0] _ (range3 V2'.out.c0 V2'.out.c1 V2'.out.c2) Try.underlying28 rfl (by kernel_rfl)) rfl ?_
    exact ⟨_, _, by rw [HE.out.1]; rfl, by rw [HE.out.2.1]; exact OwnL.nil _ _ _ _ _, by rw [HE.out.2.2]; exact ⟨_, rfl, OwnL.nil _ _ _ _ _⟩, HBE.out⟩
  rw [hE]
  clear hE
  obtain ⟨k0, k1, k2, k3, k4, k5, k6⟩ := KK.out _ HB
  go_wp2_with fail
  refine (refCheckT_any _ t w1 (PT.out _ (bel_call hb0 HB))).mono ?_
  rintro e w2 ⟨rfl, hb2⟩
  replace HB := bel_call HB hb2
  replace H1 := bel_call H1 hb2
  clear hb2 k0 k1 k2 k3 k4 k5 k6
  rcases tk_is (t := t) with ⟨hE, hok2⟩ | ⟨hE, hok2⟩
  rotate_left
  · rw [hE]
    have HE := hid (bd_no (l := l) (t := t) (c := c) (e := 1) (if_neg fun k => hok2 k.2.1) (by decide))
    clear hE hok2 hok
    have HBW := bel_call hb0 HB
    have V3 : Var1 w2 (w.heap.size + 1 + 1 + 1) 24 (.slice none 0 0) := v3.call HB
    have V4 : Var3 w2 (w.heap.size + 1 + 1 + 1 + 1) 28 (.int .u64 0) (.slice none 0 0) (.int .i64 0) := v4.call HB
    have a0 := V3.c0
    have af := V3.f
    have t0 := V4.c0
    have t1 := V4.c1
    have t2 := V4.c2
    have f0 := V4.f 0
    have f1 := V4.f 1
    have f2 := V4.f 2
    have V1' := hid (((((V3.set (.slice none 0 0)).setOther (b := w.heap.size + 1 + 1 + 1 + 1) (by omega) 0 (.int .u64 0)).setOther (b := w.heap.size + 1 + 1 + 1 + 1) (by omega) 1 (.slice none 0 0)).setOther (b := w.heap.size + 1 + 1 + 1 + 1) (by omega) 2 (.int .i64 0)))
    have V2' := hid ((V4.setOther (b := w.heap.size + 1 + 1 + 1) (by omega) 0 (.slice none 0 0)).set (.int .u64 0) (.slice none 0 0) (.int .i64 0))
    have HBE := hid ((((HBW.setCell (p := ⟨w.heap.size + 1 + 1 + 1, 0, none⟩) (by show w.heap.size ≤ w.heap.size + 1 + 1 + 1; omega) (.slice none 0 0)).setCell (p := ⟨w.heap.size + 1 + 1 + 1 + 1, 0, none⟩) (by show w.heap.size ≤ w.heap.size + 1 + 1 + 1 + 1; omega) (.int .u64 0)).setCell (p := ⟨w.heap.size + 1 + 1 + 1 + 1, 1, none⟩) (by show w.heap.size ≤ w.heap.size + 1 + 1 + 1 + 1; omega) (.slice none 0 0)).setCell (p := ⟨w.heap.size + 1 + 1 + 1 + 1, 2, none⟩) (by show w.heap.size ≤ w.heap.size + 1 + 1 + 1 + 1; omega) (.int .i64 0))
    clear V3 V4 HBW
    go_wp2
    refine bodyPost_ret_by (results_cct rfl _ _ (w.heap.size + 1 + 1 + 1) 0 rfl [.slice none 0 0] _ (range1 V1'.out.c0) Try.underlying24 rfl (by kernel_rfl) (w.heap.size + 1 + 1 + 1 + 1) 0 rfl [.int .u64 0, .slice none 0 0, .int .i64 0] _ (range3 V2'.out.c0 V2'.out.c1 V2'.out.c2) Try.underlying28 rfl (by kernel_rfl)) rfl ?_
    exact ⟨_, _, by rw [HE.out.1]; rfl, by rw [HE.out.2.1]; exact OwnL.nil _ _ _ _ _, by rw [HE.out.2.2]; exact ⟨_, rfl, OwnL.nil _ _ _ _ _⟩, HBE.out⟩
  rw [hE]
  clear hE
  obtain ⟨k0, k1, k2, k3, k4, k5, k6⟩ := KK.out _ HB
  go_wp2_with fail
  refine (refCheckA_any _ l w2 (PA.out _ (bel_call hb0 HB))).mono ?_
  rintro e w3 ⟨rfl, hb3⟩
  replace HB := bel_call HB hb3
  replace H1 := bel_call H1 hb3
  clear hb3 k0 k1 k2 k3 k4 k5 k6
  by_cases har : ArOk l
  rotate_left
  · rw [show arE l = 1 from if_neg har]
    have HE := hid (bd_no (l := l) (t := t) (c := c) (e := 1) (if_neg fun k => har k.2.2) (by decide))
    clear har hok2 hok
    have HBW := bel_call hb0 HB
    have V3 : Var1 w3 (w.heap.size + 1 + 1 + 1) 24 (.slice none 0 0) := v3.call HB
    have V4 : Var3 w3 (w.heap.size + 1 + 1 + 1 + 1) 28 (.int .u64 0) (.slice none 0 0) (.int .i64 0) := v4.call HB
    have a0 := V3.c0
    have af := V3.f
    have t0 := V4.c0
    have t1 := V4.c1
    have t2 := V4.c2
    have f0 := V4.f 0
    have f1 := V4.f 1
    have f2 := V4.f 2
    have V1' := hid (((((V3.set (.slice none 0 0)).setOther (b := w.heap.size + 1 + 1 + 1 + 1) (by omega) 0 (.int .u64 0)).setOther (b := w.heap.size + 1 + 1 + 1 + 1) (by omega) 1 (.slice none 0 0)).setOther (b := w.heap.size + 1 + 1 + 1 + 1) (by omega) 2 (.int .i64 0)))
    have V2' := hid ((V4.setOther (b := w.heap.size + 1 + 1 + 1) (by omega) 0 (.slice none 0 0)).set (.int .u64 0) (.slice none 0 0) (.int .i64 0))
    have HBE := hid ((((HBW.setCell (p := ⟨w.heap.size + 1 + 1 + 1, 0, none⟩) (by show w.heap.size ≤ w.heap.size + 1 + 1 + 1; omega) (.slice none 0 0)).setCell (p := ⟨w.heap.size + 1 + 1 + 1 + 1, 0, none⟩) (by show w.heap.size ≤ w.heap.size + 1 + 1 + 1 + 1; omega) (.int .u64 0)).setCell (p := ⟨w.heap.size + 1 + 1 + 1 + 1, 1, none⟩) (by show w.heap.size ≤ w.heap.size + 1 + 1 + 1 + 1; omega) (.slice none 0 0)).setCell (p := ⟨w.heap.size + 1 + 1 + 1 + 1, 2, none⟩) (by show w.heap.size ≤ w.heap.size + 1 + 1 + 1 + 1; omega) (.int .i64 0))
    clear V3 V4 HBW
    go_wp2
    refine bodyPost_ret_by (results_cct rfl _ _ (w.heap.size + 1 + 1 + 1) 0 rfl [.slice none 0 0] _ (range1 V1'.out.c0) Try.underlying24 rfl (by kernel_rfl) (w.heap.size + 1 + 1 + 1 + 1) 0 rfl [.int .u64 0, .slice none 0 0, .int .i64 0] _ (range3 V2'.out.c0 V2'.out.c1 V2'.out.c2) Try.underlying28 rfl (by kernel_rfl)) rfl ?_
    exact ⟨_, _, by rw [HE.out.1]; rfl, by rw [HE.out.2.1]; exact OwnL.nil _ _ _ _ _, by rw [HE.out.2.2]; exact ⟨_, rfl, OwnL.nil _ _ _ _ _⟩, HBE.out⟩
  rw [show arE l = 0 from if_pos har]
  have hbo : BindOk l t c := ⟨hok, hok2, har⟩
  have hn16 : n2 ≤ 16 := by rw [← HL.out]; exact hok2.1.1
  clear hok hok2 har
  obtain ⟨k0, k1, k2, k3, k4, k5, k6⟩ := KK.out _ HB
  by_cases hfull : n2 = 16
  · have HE := hid (bd_no (l := l) (t := t) (c := c) (e := 7) (by unfold bdE; rw [if_pos hbo, if_pos (by rw [HL.out]; exact hfull)]) (by decide))
    have d16 : ((n2 : Int) == 16) = true := by simp; omega
    clear hbo hfull
    have HBW := bel_call hb0 HB
    have V3 : Var1 w3 (w.heap.size + 1 + 1 + 1) 24 (.slice none 0 0) := v3.call HB
    have V4 : Var3 w3 (w.heap.size + 1 + 1 + 1 + 1) 28 (.int .u64 0) (.slice none 0 0) (.int .i64 0) := v4.call HB
    have a0 := V3.c0
    have af := V3.f
    have t0 := V4.c0
    have t1 := V4.c1
    have t2 := V4.c2
    have f0 := V4.f 0
    have f1 := V4.f 1
    have f2 := V4.f 2
    have V1' := hid (((((V3.set (.slice none 0 0)).setOther (b := w.heap.size + 1 + 1 + 1 + 1) (by omega) 0 (.int .u64 0)).setOther (b := w.heap.size + 1 + 1 + 1 + 1) (by omega) 1 (.slice none 0 0)).setOther (b := w.heap.size + 1 + 1 + 1 + 1) (by omega) 2 (.int .i64 0)))
    have V2' := hid ((V4.setOther (b := w.heap.size + 1 + 1 + 1) (by omega) 0 (.slice none 0 0)).set (.int .u64 0) (.slice none 0 0) (.int .i64 0))
    have HBE := hid ((((HBW.setCell (p := ⟨w.heap.size + 1 + 1 + 1, 0, none⟩) (by show w.heap.size ≤ w.heap.size + 1 + 1 + 1; omega) (.slice none 0 0)).setCell (p := ⟨w.heap.size + 1 + 1 + 1 + 1, 0, none⟩) (by show w.heap.size ≤ w.heap.size + 1 + 1 + 1 + 1; omega) (.int .u64 0)).setCell (p := ⟨w.heap.size + 1 + 1 + 1 + 1, 1, none⟩) (by show w.heap.size ≤ w.heap.size + 1 + 1 + 1 + 1; omega) (.slice none 0 0)).setCell (p := ⟨w.heap.size + 1 + 1 + 1 + 1, 2, none⟩) (by show w.heap.size ≤ w.heap.size + 1 + 1 + 1 + 1; omega) (.int .i64 0))
    clear V3 V4 HBW
    go_wp2
    refine bodyPost_ret_by (results_cct rfl _ _ (w.heap.size + 1 + 1 + 1) 0 rfl [.slice none 0 0] _ (range1 V1'.out.c0) Try.underlying24 rfl (by kernel_rfl) (w.heap.size + 1 + 1 + 1 + 1) 0 rfl [.int .u64 0, .slice none 0 0, .int .i64 0] _ (range3 V2'.out.c0 V2'.out.c1 V2'.out.c2) Try.underlying28 rfl (by kernel_rfl)) rfl ?_
    exact ⟨_, _, by rw [HE.out.1]; rfl, by rw [HE.out.2.1]; exact OwnL.nil _ _ _ _ _, by rw [HE.out.2.2]; exact ⟨_, rfl, OwnL.nil _ _ _ _ _⟩, HBE.out⟩
  have d16 : ((n2 : Int) == 16) = false := by simp; omega
  have HBD := hid (show bdE l t c = nextE l t.Tag (putC c) from by unfold bdE; rw [if_pos hbo, if_neg (by rw [HL.out]; exact hfull)])
  clear hbo
  obtain ⟨we, hwe⟩ : ∃ z, nextE l t.Tag (putC c) = z := ⟨_, rfl⟩
  obtain ⟨wi, hwi⟩ : ∃ z, nextI l t.Tag (putC c) = z := ⟨_, rfl⟩
  obtain ⟨wl, hwl⟩ : ∃ z, nextL l t.Tag (putC c) = z := ⟨_, rfl⟩
  have WE := hid hwe
  have WI := hid hwi
  have WL := hid hwl
  clear hwe hwi hwl
  go_wp2_with fail
  refine (refNextA_any _ l t.Tag _ _ _ (putC c) w3 (PA.out _ (bel_call hb0 HB)) hT (HSP.out.kept H1)).mono ?_
  rw [WE.out, WI.out, WL.out]
  rintro e w4 ⟨v4', rfl, ho4, hb4⟩
  obtain ⟨A8, n8, c8, rfl, hs8⟩ := ho4.read
  have hz3 := HB.size
  have hba := bel_alloc (Below.refl w4.heap.size w4) (Obj.cells #[.slice A8 n8 c8] 24)
  have TB := Var1.new w4 24 (.slice A8 n8 c8)
  have ho5 := ho4.keep hba
  have hgz : w.heap.size + 5 ≤ w4.heap.size := by rw [← HZ5.out]; exact (bel_call HB hb4).size
  replace HB := bel_call (bel_call HB hb4) hba
  clear hb4 hba k0 k1 k2 k3 k4 k5 k6 hs8 ho4 H1
  go_upto_region 7 with (fail)
  generalize w4.alloc (Obj.cells #[.slice A8 n8 c8] 24) = W4 at *
  generalize hgv : w4.heap.size = gv at *
  clear hgv
  by_cases he : we = 0
  rotate_left
  · have HE := hid (bd_no (l := l) (t := t) (c := c) (e := we) (by rw [HBD.out, WE.out]) he)
    have hne : (we != 0) = true := by simpa using he
    clear he
    have HBW := bel_call hb0 HB
    have V3 : Var1 W4 (w.heap.size + 1 + 1 + 1) 24 (.slice none 0 0) := v3.call HB
    have V4 : Var3 W4 (w.heap.size + 1 + 1 + 1 + 1) 28 (.int .u64 0) (.slice none 0 0) (.int .i64 0) := v4.call HB
    have a0 := V3.c0
    have af := V3.f
    have t0 := V4.c0
    have t1 := V4.c1
    have t2 := V4.c2
    have f0 := V4.f 0
    have f1 := V4.f 1
    have f2 := V4.f 2
    have V1' := hid (((((V3.set (.slice none 0 0)).setOther (b := w.heap.size + 1 + 1 + 1 + 1) (by omega) 0 (.int .u64 0)).setOther (b := w.heap.size + 1 + 1 + 1 + 1) (by omega) 1 (.slice none 0 0)).setOther (b := w.heap.size + 1 + 1 + 1 + 1) (by omega) 2 (.int .i64 0)))
    have V2' := hid ((V4.setOther (b := w.heap.size + 1 + 1 + 1) (by omega) 0 (.slice none 0 0)).set (.int .u64 0) (.slice none 0 0) (.int .i64 0))
    have HBE := hid ((((HBW.setCell (p := ⟨w.heap.size + 1 + 1 + 1, 0, none⟩) (by show w.heap.size ≤ w.heap.size + 1 + 1 + 1; omega) (.slice none 0 0)).setCell (p := ⟨w.heap.size + 1 + 1 + 1 + 1, 0, none⟩) (by show w.heap.size ≤ w.heap.size + 1 + 1 + 1 + 1; omega) (.int .u64 0)).setCell (p := ⟨w.heap.size + 1 + 1 + 1 + 1, 1, none⟩) (by show w.heap.size ≤ w.heap.size + 1 + 1 + 1 + 1; omega) (.slice none 0 0)).setCell (p := ⟨w.heap.size + 1 + 1 + 1 + 1, 2, none⟩) (by show w.heap.size ≤ w.heap.size + 1 + 1 + 1 + 1; omega) (.int .i64 0))
    clear V3 V4 HBW
    go_wp2
    refine bodyPost_ret_by (results_cct rfl _ _ (w.heap.size + 1 + 1 + 1) 0 rfl [.slice none 0 0] _ (range1 V1'.out.c0) Try.underlying24 rfl (by kernel_rfl) (w.heap.size + 1 + 1 + 1 + 1) 0 rfl [.int .u64 0, .slice none 0 0, .int .i64 0] _ (range3 V2'.out.c0 V2'.out.c1 V2'.out.c2) Try.underlying28 rfl (by kernel_rfl)) rfl ?_
    exact ⟨_, _, by rw [HE.out.1]; rfl, by rw [HE.out.2.1]; exact OwnL.nil _ _ _ _ _, by rw [HE.out.2.2]; exact ⟨_, rfl, OwnL.nil _ _ _ _ _⟩, HBE.out⟩
  subst he
  have HT := hid (show bdE l t c = 0 ∧ bdL l t c = wl ∧ bdT l t c = ⟨t.Root, t.L ++ [c], wi⟩ from by
    have e0 : bdE l t c = 0 := by rw [HBD.out, WE.out]
    exact ⟨e0, by unfold bdL; rw [if_pos e0, WL.out], by unfold bdT; rw [if_pos e0, WI.out]⟩)
  go_upto_region 9 with (fail)
  have KG := hid (fun (W : World) (x a b d : Value) (V1 : Var1 W gv 24 (.slice A8 n8 c8)) (V2 : Var3 W (w.heap.size + 1) 28 (.int .u64 t.Root) (.slice A2 n2 c2) (.int .i64 t.Tag)) (V3 : Var3 W (w.heap.size + 1 + 1) 30 (.int .i64 c.Kind) (.int .u64 c.A) (.int .u64 c.B)) (V4 : Var1 W (w.heap.size + 1 + 1 + 1) 24 x) (V5 : Var3 W (w.heap.size + 1 + 1 + 1 + 1) 28 a b d) => (show W.cell? ⟨gv, 0, none⟩ = some (.slice A8 n8 c8) ∧ W.cell? ⟨w.heap.size + 1, 0, none⟩ = some (.int .u64 t.Root) ∧ W.cell? ⟨w.heap.size + 1, 1, none⟩ = some (.slice A2 n2 c2) ∧ W.cell? ⟨w.heap.size + 1 + 1, 0, none⟩ = some (.int .i64 c.Kind) ∧ W.cell? ⟨w.heap.size + 1 + 1, 1, none⟩ = some (.int .u64 c.A) ∧ W.cell? ⟨w.heap.size + 1 + 1, 2, none⟩ = some (.int .u64 c.B) ∧ (W.cell? ⟨w.heap.size + 1 + 1 + 1, 0, none⟩).isSome = true ∧ W.frozen? ⟨w.heap.size + 1 + 1 + 1, 0, none⟩ = false ∧ (W.cell? ⟨w.heap.size + 1 + 1 + 1 + 1, 0, none⟩).isSome = true ∧ (W.cell? ⟨w.heap.size + 1 + 1 + 1 + 1, 1, none⟩).isSome = true ∧ (W.cell? ⟨w.heap.size + 1 + 1 + 1 + 1, 2, none⟩).isSome = true ∧ W.frozen? ⟨w.heap.size + 1 + 1 + 1 + 1, 0, none⟩ = false ∧ W.frozen? ⟨w.heap.size + 1 + 1 + 1 + 1, 1, none⟩ = false ∧ W.frozen? ⟨w.heap.size + 1 + 1 + 1 + 1, 2, none⟩ = false from ⟨V1.c0, V2.c0, V2.c1, V3.c0, V3.c1, V3.c2, by rw [V4.c0]; rfl, V4.f, by rw [V5.c0]; rfl, by rw [V5.c1]; rfl, by rw [V5.c2]; rfl, V5.f 0, V5.f 1, V5.f 2⟩))
  have HGV := hid hgz
  have KV := hid (fun (W : World) (h : Below W4.heap.size W4 W) => (show (Var1 W gv 24 (.slice A8 n8 c8) ∧ Var3 W (w.heap.size + 1) 28 (.int .u64 t.Root) (.slice A2 n2 c2) (.int .i64 t.Tag) ∧ Var3 W (w.heap.size + 1 + 1) 30 (.int .i64 c.Kind) (.int .u64 c.A) (.int .u64 c.B)) ∧ Var1 W (w.heap.size + 1 + 1 + 1) 24 (.slice none 0 0) ∧ Var3 W (w.heap.size + 1 + 1 + 1 + 1) 28 (.int .u64 0) (.slice none 0 0) (.int .i64 0) from ⟨⟨TB.call h, (V12.out.1.call HB).call h, (V12.out.2.call HB).call h⟩, (v3.call HB).call h, (v4.call HB).call h⟩))
  have K7 := hid (fun (W : World) (h : Below W4.heap.size W4 W) => by obtain ⟨⟨q1, q2, q3⟩, q4, q5⟩ := KV.out W h; exact KG.out W _ _ _ _ q1 q2 q3 q4 q5)
  have K8 := hid (fun (W : World) (h : Below W4.heap.size W4 W) (x : Value) => by obtain ⟨⟨q1, q2, q3⟩, q4, q5⟩ := KV.out W h; have g := HGV.out; exact KG.out (W.setCell ⟨w.heap.size + 1 + 1 + 1, 0, none⟩ x) _ _ _ _ (q1.setOther (by omega) 0 x) (q2.setOther (by omega) 0 x) (q3.setOther (by omega) 0 x) (q4.set x) (q5.setOther (by omega) 0 x))
  have K9 := hid (fun (W : World) (h : Below W4.heap.size W4 W) (x a b d : Value) => by obtain ⟨⟨q1, q2, q3⟩, q4, q5⟩ := KV.out W h; have g := HGV.out; exact KG.out ((((W.setCell ⟨w.heap.size + 1 + 1 + 1, 0, none⟩ x).setCell ⟨w.heap.size + 1 + 1 + 1 + 1, 0, none⟩ a).setCell ⟨w.heap.size + 1 + 1 + 1 + 1, 1, none⟩ b).setCell ⟨w.heap.size + 1 + 1 + 1 + 1, 2, none⟩ d) _ _ _ _ ((((q1.setOther (by omega) 0 x).setOther (by omega) 0 a).setOther (by omega) 1 b).setOther (by omega) 2 d) ((((q2.setOther (by omega) 0 x).setOther (by omega) 0 a).setOther (by omega) 1 b).setOther (by omega) 2 d) ((((q3.setOther (by omega) 0 x).setOther (by omega) 0 a).setOther (by omega) 1 b).setOther (by omega) 2 d) ((((q4.set x).setOther (by omega) 0 a).setOther (by omega) 1 b).setOther (by omega) 2 d) ((q5.setOther (by omega) 0 x).set a b d))
  have P6 := hid (PL.out _ (bel_call hb0 HB))
  have hS0 := K7.out _ (Below.refl W4.heap.size W4)
  obtain ⟨j0, j1, j2, j3, j4, j5, j6, j7, j8, j9, j10, j11, j12, j13⟩ := K7.out _ (Below.refl W4.heap.size W4)
  have hlen1 : (t.L.length + 1) * 24 ≤ 140737488355328 := by rw [HL.out]; omega
  have hlen2 : t.L.length + 1 ≤ maxLen := by rw [HL.out]; unfold maxLen; omega
  have hba := fun (W : World) (h : Below W4.heap.size W4 W) => bel_alloc h (Obj.cells #[.int .i64 c.Kind, .int .u64 c.A, .int .u64 c.B] 30)
  have HH := Below.refl W4.heap.size W4
  have KD := hid (K7.out (W4.drewN 1) HH.drew)
  have KE := hid (K7.out _ (hba (W4.drewN 1) HH.drew))
  have HHB := hid HB
  have HO5 := hid ho5
  have HV3 := hid v3
  have HV4 := hid v4
  have HZ3 := hid hz3
  clear v3 v4 TB ho5 HB hz3 hgz
  go_region_held3 (fun W => W.cell? ⟨gv, 0, none⟩ = some (.slice A8 n8 c8) ∧ W.cell? ⟨w.heap.size + 1, 0, none⟩ = some (.int .u64 t.Root) ∧ W.cell? ⟨w.heap.size + 1, 1, none⟩ = some (.slice A2 n2 c2) ∧ W.cell? ⟨w.heap.size + 1 + 1, 0, none⟩ = some (.int .i64 c.Kind) ∧ W.cell? ⟨w.heap.size + 1 + 1, 1, none⟩ = some (.int .u64 c.A) ∧ W.cell? ⟨w.heap.size + 1 + 1, 2, none⟩ = some (.int .u64 c.B) ∧ (W.cell? ⟨w.heap.size + 1 + 1 + 1, 0, none⟩).isSome = true ∧ W.frozen? ⟨w.heap.size + 1 + 1 + 1, 0, none⟩ = false ∧ (W.cell? ⟨w.heap.size + 1 + 1 + 1 + 1, 0, none⟩).isSome = true ∧ (W.cell? ⟨w.heap.size + 1 + 1 + 1 + 1, 1, none⟩).isSome = true ∧ (W.cell? ⟨w.heap.size + 1 + 1 + 1 + 1, 2, none⟩).isSome = true ∧ W.frozen? ⟨w.heap.size + 1 + 1 + 1 + 1, 0, none⟩ = false ∧ W.frozen? ⟨w.heap.size + 1 + 1 + 1 + 1, 1, none⟩ = false ∧ W.frozen? ⟨w.heap.size + 1 + 1 + 1 + 1, 2, none⟩ = false)
    (first | (with_reducible exact K7.out _ hb8) | (with_reducible exact K8.out _ hb8 _) | (with_reducible exact K9.out _ hb8 _ _ _ _) | (with_reducible exact K7.out _ (hba _ hb7)) | (with_reducible exact K7.out _ hb7) | (with_reducible exact hS0) | (with_reducible exact KD.out) | (with_reducible exact KE.out) | (with_reducible exact K7.out _ (hba _ HH).drew) | (with_reducible exact K7.out _ HH.drew) | (with_reducible exact K7.out _ (hba _ HH.drew)) | fail "keep")
    (first
      | (refine step_catL (by rfl) (.const (.slice none 0 0)) (.tmp 56) 26 (by rfl) W4.heap.size none 30 _ 24 Try.underlying26 Try.infoCav7 rfl (by decide) (.slice none 0 0) [] t.L (· < W4.heap.size) A2 n2 c2 (by rfl) (by rfl) (OwnL.nil _ _ _ _ _) (P6.out.drewN 1) (fun b hb => ⟨trivial, hb, by simp [Value.ownBlock]⟩) (Nat.le_refl _) (by simp; omega) (by simp; unfold maxLen; omega) ?_; intro v7 w7 ho7 hx7; rw [List.nil_append] at ho7; have hb7 : Below W4.heap.size W4 w7 := (Below.refl W4.heap.size W4).drew.trans hx7.of_nil)
      | (refine step_pushL (w := w7) (by rfl) (.tmp 57) (.tmp 59) 26 (by rfl) W4.heap.size none 30 _ 24 Try.underlying26 Try.infoCav7 rfl (by decide) v7 t.L c #[.int .i64 c.Kind, .int .u64 c.A, .int .u64 c.B] (fun _ => False) w7.heap.size (by rfl) (by rfl) (bel_alloc (Below.refl _ _) _) (heap_alloc_new _ _) ho7 (PC.out _ _) (fun b hb => hb.elim) hb7.size hlen1 hlen2 ?_; intro v8 w8 ho8 hx8; obtain ⟨A9, n9, c9, rfl, hs9⟩ := ho8.read; have hb8 : Below W4.heap.size W4 w8 := (hb7.alloc hb7.size _).trans ((ho7.keep (bel_alloc (Below.refl _ _) _)).below hx8 (Nat.le_trans hb7.size (by simp))); have HU := hid (ho8.cav W4.heap.size); have q45 := (KV.out w8 hb8).2; have a0 := q45.1.c0; have af := q45.1.f; have t0 := q45.2.c0; have t1 := q45.2.c1; have t2 := q45.2.c2; have f0 := q45.2.f 0; have f1 := q45.2.f 1; have f2 := q45.2.f 2; clear q45)
      | (refine step_catL (w := (W4.drewN 1).alloc (.cells #[.int .i64 c.Kind, .int .u64 c.A, .int .u64 c.B] 30)) (by rfl) (.const (.slice none 0 0)) (.tmp 56) 26 (by rfl) (W4.heap.size + 1) none 30 _ 24 Try.underlying26 Try.infoCav7 rfl (by decide) (.slice none 0 0) [] t.L (· < W4.heap.size) A2 n2 c2 (by rfl) (by rfl) (OwnL.nil _ _ _ _ _) ((P6.out.drewN 1).keep fun p hp => (bel_alloc (Below.refl W4.heap.size (W4.drewN 1)) _).cell hp) (fun b hb => ⟨trivial, by show b < ((W4.drewN 1).alloc _).heap.size; simp; omega, by simp [Value.ownBlock]⟩) (by simp) (by simp; omega) (by simp; unfold maxLen; omega) ?_; intro v7 w7 ho7 hx7; rw [List.nil_append] at ho7; have hbx : Below (W4.heap.size + 1) ((W4.drewN 1).alloc (.cells #[.int .i64 c.Kind, .int .u64 c.A, .int .u64 c.B] 30)) w7 := hx7.of_nilB (by simp); have hb7 : Below W4.heap.size W4 w7 := ((bel_drewN (Below.refl W4.heap.size W4) 1).alloc (Nat.le_refl _) _).trans (hbx.mono (by omega)); have hg7 := (hbx.block W4.heap.size (by omega)).trans (heap_alloc_new (W4.drewN 1) (.cells #[.int .i64 c.Kind, .int .u64 c.A, .int .u64 c.B] 30)))
      | (refine step_pushW (w := w7) (by rfl) (.tmp 57) (.tmp 59) 26 (by rfl) (W4.heap.size + 1) none 30 _ 24 Try.underlying26 Try.infoCav7 rfl (by decide) v7 t.L c #[.int .i64 c.Kind, .int .u64 c.A, .int .u64 c.B] (fun _ => False) W4.heap.size (by rfl) (by rfl) hg7 ho7 (PC.out _ _) (fun b hb => hb.elim) (lt_of_block hg7) hlen1 hlen2 ?_; intro v8 w8 ho8 hx8; obtain ⟨A9, n9, c9, rfl, hs9⟩ := ho8.read; have hb8 : Below W4.heap.size W4 w8 := hb7.trans ((ho7.below hx8 (lt_of_block hg7)).mono (by omega)); have HU := hid (((ho8.cav (W4.heap.size + 1)).lows (Nat.le_succ W4.heap.size) (Nat.le_succ W4.heap.size))); have q45 := (KV.out w8 hb8).2; have a0 := q45.1.c0; have af := q45.1.f; have t0 := q45.2.c0; have t1 := q45.2.c1; have t2 := q45.2.c2; have f0 := q45.2.f 0; have f1 := q45.2.f 1; have f2 := q45.2.f 2; clear q45))
  all_goals
    have HB8 := bel_call HHB.out hb8
    have HBW := bel_call hb0 HB8
    have hz4 := HHB.out.size
    have z5 := HZ5.out
    have z3 := HZ3.out
    have V3 : Var1 w8 (w.heap.size + 1 + 1 + 1) 24 (.slice none 0 0) := HV3.out.call HB8
    have V4 : Var3 w8 (w.heap.size + 1 + 1 + 1 + 1) 28 (.int .u64 0) (.slice none 0 0) (.int .i64 0) := HV4.out.call HB8
    have V1' := hid (((((V3.set (.slice A8 n8 c8)).setOther (b := w.heap.size + 1 + 1 + 1 + 1) (by omega) 0 (.int .u64 t.Root)).setOther (b := w.heap.size + 1 + 1 + 1 + 1) (by omega) 1 (.slice A9 n9 c9)).setOther (b := w.heap.size + 1 + 1 + 1 + 1) (by omega) 2 (.int .i64 wi)))
    have V2' := hid ((V4.setOther (b := w.heap.size + 1 + 1 + 1) (by omega) 0 (.slice A8 n8 c8)).set (.int .u64 t.Root) (.slice A9 n9 c9) (.int .i64 wi))
    have HO := hid ((((((HO5.out.keep hb8).setLow (b := w.heap.size + 1 + 1 + 1) (by omega) (by omega) 0 (.slice A8 n8 c8)).setLow (b := w.heap.size + 1 + 1 + 1 + 1) (by omega) (by omega) 0 (.int .u64 t.Root)).setLow (b := w.heap.size + 1 + 1 + 1 + 1) (by omega) (by omega) 1 (.slice A9 n9 c9)).setLow (b := w.heap.size + 1 + 1 + 1 + 1) (by omega) (by omega) 2 (.int .i64 wi)).lows (base' := w.heap.size) (lo' := w.heap.size) (by omega) (by omega))
    have HU2 := hid (((((HU.out.setLow (b := w.heap.size + 1 + 1 + 1) (by omega) (by omega) 0 (.slice A8 n8 c8)).setLow (b := w.heap.size + 1 + 1 + 1 + 1) (by omega) (by omega) 0 (.int .u64 t.Root)).setLow (b := w.heap.size + 1 + 1 + 1 + 1) (by omega) (by omega) 1 (.slice A9 n9 c9)).setLow (b := w.heap.size + 1 + 1 + 1 + 1) (by omega) (by omega) 2 (.int .i64 wi)).lows (base' := w.heap.size) (lo' := w.heap.size) (by omega) (by omega))
    have HBE := hid ((((HBW.setCell (p := ⟨w.heap.size + 1 + 1 + 1, 0, none⟩) (by show w.heap.size ≤ w.heap.size + 1 + 1 + 1; omega) (.slice A8 n8 c8)).setCell (p := ⟨w.heap.size + 1 + 1 + 1 + 1, 0, none⟩) (by show w.heap.size ≤ w.heap.size + 1 + 1 + 1 + 1; omega) (.int .u64 t.Root)).setCell (p := ⟨w.heap.size + 1 + 1 + 1 + 1, 1, none⟩) (by show w.heap.size ≤ w.heap.size + 1 + 1 + 1 + 1; omega) (.slice A9 n9 c9)).setCell (p := ⟨w.heap.size + 1 + 1 + 1 + 1, 2, none⟩) (by show w.heap.size ≤ w.heap.size + 1 + 1 + 1 + 1; omega) (.int .i64 wi))
    clear V3 V4 HBW z5 z3 hz4
    go_wp2
    refine bodyPost_ret_by (results_cct rfl _ _ (w.heap.size + 1 + 1 + 1) 0 rfl [.slice A8 n8 c8] _ (range1 V1'.out.c0) Try.underlying24 rfl (by kernel_rfl) (w.heap.size + 1 + 1 + 1 + 1) 0 rfl [.int .u64 t.Root, .slice A9 n9 c9, .int .i64 wi] _ (range3 V2'.out.c0 V2'.out.c1 V2'.out.c2) Try.underlying28 rfl (by kernel_rfl)) rfl ?_
    exact ⟨_, _, by rw [HT.out.1]; rfl, by rw [HT.out.2.1]; exact HO.out, by rw [HT.out.2.2]; exact ⟨_, rfl, HU2.out⟩, HBE.out⟩
end Go.Proofs.Ytgiapfenalhleaa
namespace Go.Proofs.Ytgiapfenalhleaa
open Go.RowKit Go.WalkArith

/-- A literal of elements, just laid. -/
theorem OwnL.litL {α : Type} {L : Lay α} {w : World} {S : Nat → Prop} {xs : List α} {cy : Array Value} (e : TypeId) (lo : Option Nat) (h1 : cy.size = xs.length * L.size) (hm : xs.length ≤ maxLen) (hr : RepRow L w S xs cy.toList) (hS : ∀ b, S b → New w lo b ∧ b < w.heap.size) :
    OwnL L (w.alloc (.cells cy e)) w.heap.size lo e (.slice (some ⟨w.heap.size, 0, none⟩) xs.length xs.length) xs := by
  have hb : Below w.heap.size w (w.alloc (.cells cy e)) := bel_alloc (Below.refl _ _) _
  refine ⟨cy.toList, World.ownsRow_lit w cy xs.length (Nat.le_refl _) hm h1, ?_⟩
  refine (hr.keep fun p hp => hb.cell (hS _ hp).2).wide fun b hb' => ?_
  have h2 := hS b hb'
  exact ⟨h2.1.of_block (hb.block b h2.2), Nat.lt_of_lt_of_le h2.2 hb.size, fun he => by simp [Value.ownBlock] at he; omega⟩
theorem Sl.fromKeep {α : Type} {L : Lay α} {w w' : World} {l : Nat} {A : Option Addr} {n c : Nat} {xs : List α} (h : Sl L w (From w l) A n c xs) (hb : Below w.heap.size w w') : Sl L w' (From w' l) A n c xs := (h.keep fun _ hp => hb.cell hp.2.1).wide fun _ hp => hp.keep hb

set_option maxRecDepth 100000 in
set_option maxHeartbeats 8000000 in
theorem refPutT_any (s : Array Value) (t : Tok) (w : World) (g : lay_Token.rep w (· < w.heap.size) t s.toList) :
    Calls Try.prog 26 #[.agg s] w fun e w' => ∃ v', e = .returned (.tuple #[v', .int .i64 (tpE t)]) ∧ Own w' w.heap.size 5 .u8 v' (tpO t) ∧ Below w.heap.size w w' := by
  obtain ⟨A2, n2, c2, rfl, hR, hT, hL⟩ := agg_Token g
  clear g
  have HL := hid hL.len
  have hb0 : Below w.heap.size w (w.alloc (Obj.cells #[.int .u64 t.Root, .slice A2 n2 c2, .int .i64 t.Tag] 28)) := bel_alloc (Below.refl _ _) _
  have v0 : Var3 (w.alloc (Obj.cells #[.int .u64 t.Root, .slice A2 n2 c2, .int .i64 t.Tag] 28)) w.heap.size 28 (.int .u64 t.Root) (.slice A2 n2 c2) (.int .i64 t.Tag) := Var3.new _ _ _ _ _
  have PT := hid (fun (W : World) (h : Below w.heap.size w W) => (show lay_Token.rep W (· < W.heap.size) t #[.int .u64 t.Root, .slice A2 n2 c2, .int .i64 t.Tag].toList from rep_Token.2 ⟨_, _, _, rfl, hR, hT, Sl.call hL h⟩))
  have PL := hid (fun (W : World) (h : Below w.heap.size w W) => Sl.call hL h)
  go_enter Try.func26, Try.ntmps26
  go_wp2_with fail
  generalize w.alloc (Obj.cells #[.int .u64 t.Root, .slice A2 n2 c2, .int .i64 t.Tag] 28) = W0 at *
  refine (refCheckT_any _ t W0 (PT.out _ hb0)).mono ?_
  rintro e w1 ⟨rfl, hb1⟩
  have HB := bel_call hb0 hb1
  have v1 := v0.call hb1
  clear v0 hb0 hb1
  rcases tk_is (t := t) with ⟨hE, hok⟩ | ⟨hE, hok⟩
  rotate_left
  · rw [hE]
    have HE := hid (show tpE t = 1 ∧ tpO t = [] from ⟨if_neg hok, if_neg hok⟩)
    clear hE hok
    go_wp2
    go_ret2
    exact ⟨_, by rw [HE.out.1]; rfl, by rw [HE.out.2]; exact Own.nil _ _ _ _, HB⟩
  rw [hE]
  have HE := hid (show tpE t = 0 ∧ tpO t = octsR (recsT t) from ⟨if_pos hok, if_pos hok⟩)
  have hn16 : n2 ≤ 16 := by rw [← HL.out]; exact hok.1.1
  clear hE
  have hTu : (Lit.int .u64 t.Tag).wf = true := by have := hok.2; exact wf_u64 (by omega)
  have hwt : IntKind.u64.wrap t.Tag = t.Tag := by have := hok.2; exact IntWalk.u64_in _ (by omega)
  go_upto_region 3 with (fail)
  go_cut [4] from 12 to 24 (fun p wc => ∃ v, p = v ∧ OwnL lay_Record wc w1.heap.size (some w1.heap.size) 83 v [⟨1, oct t.Root⟩, ⟨2, oct t.Tag⟩] ∧ Below w1.heap.size w1 wc)
  case first =>
    have HH := Below.refl w1.heap.size w1
    have KK := hid (fun (W : World) (h : Below w1.heap.size w1 W) => (show W.cell? ⟨w.heap.size, 0, none⟩ = some (.int .u64 t.Root) ∧ W.cell? ⟨w.heap.size, 2, none⟩ = some (.int .i64 t.Tag) from ⟨(v1.call h).c0, (v1.call h).c2⟩))
    obtain ⟨k0, k2⟩ := KK.out _ HH
    have hbR : Below w1.heap.size w1 (w1.alloc (Obj.cells #[.int .u64 t.Root] 25)).drew := (bel_alloc HH _).drew
    have hbG : Below w1.heap.size w1 (w1.alloc (Obj.cells #[.int .u64 t.Tag] 25)).drew := (bel_alloc HH _).drew
    have hbRG : Below w1.heap.size w1 ((w1.alloc (Obj.cells #[.int .u64 t.Root] 25)).alloc (Obj.cells #[.int .u64 t.Tag] 25)).drew := (bel_alloc (bel_alloc HH _) _).drew
    have hbGR : Below w1.heap.size w1 ((w1.alloc (Obj.cells #[.int .u64 t.Tag] 25)).alloc (Obj.cells #[.int .u64 t.Root] 25)).drew := (bel_alloc (bel_alloc HH _) _).drew
    have R1 := rd_nums1 (w := w1) (t := 25) hR
    have R2 := R1.kept (bel_alloc (Below.refl _ _) (Obj.cells #[.int .u64 t.Tag] 25))
    have R3 := rd_nums1 (w := w1.alloc (Obj.cells #[.int .u64 t.Tag] 25)) (t := 25) hR
    have G3 := (rd_nums1 (w := w1) (t := 25) hTu).kept (bel_alloc (Below.refl _ _) (Obj.cells #[.int .u64 t.Root] 25))
    have G2 := rd_nums1 (w := w1.alloc (Obj.cells #[.int .u64 t.Root] 25)) (t := 25) hTu
    rw [show (w1.alloc (Obj.cells #[.int .u64 t.Tag] 25)).heap.size = w1.heap.size + 1 from by simp] at R3
    rw [show (w1.alloc (Obj.cells #[.int .u64 t.Root] 25)).heap.size = w1.heap.size + 1 from by simp] at G2
    have P1 := hid (refPut_any _ _ _ _ _ (R1.kept (Below.refl _ _).drew) (by decide))
    have P2 := hid (refPut_any _ _ _ _ _ (R2.kept (Below.refl _ _).drew) (by decide))
    have P3 := hid (refPut_any _ _ _ _ _ (R3.kept (Below.refl _ _).drew) (by decide))
    rw [octs_one] at P1 P2 P3
    have HG2 := hid (G2.kept (Below.refl _ _).drew)
    have HG3 := hid (G3.kept (Below.refl _ _).drew)
    clear R1 R2 R3 G2 G3
    go_region_held3 (fun W => W.cell? ⟨w.heap.size, 0, none⟩ = some (.int .u64 t.Root) ∧ W.cell? ⟨w.heap.size, 2, none⟩ = some (.int .i64 t.Tag))
      (first | (with_reducible exact KK.out _ HH.drew) | (with_reducible exact KK.out _ hbR) | (with_reducible exact KK.out _ hbG) | (with_reducible exact KK.out _ hbRG) | (with_reducible exact KK.out _ hbGR) | (with_reducible exact KK.out _ HBB) | (with_reducible exact KK.out _ (bel_alloc HBB _)) | (with_reducible exact KK.out _ HBA) | (with_reducible exact KK.out _ (bel_alloc HBA _)) | fail "keep")
      (first
        | (go_at_call 36; (with_reducible refine P1.out.mono ?_); rintro e wA ⟨vA, rfl, hoA, hbA⟩; obtain ⟨A7, n7, c7, rfl, hs7⟩ := hoA.slI; have HBA := bel_call hbR hbA; have hl7 := hbR.size)
        | (go_at_call 36; (with_reducible refine P2.out.mono ?_); rintro e wA ⟨vA, rfl, hoA, hbA⟩; obtain ⟨A7, n7, c7, rfl, hs7⟩ := hoA.slI; have HBA := bel_call hbRG hbA; have hl7 := hbRG.size; have QG := hid (HG2.out.kept hbA))
        | (go_at_call 36; (with_reducible refine P3.out.mono ?_); rintro e wA ⟨vA, rfl, hoA, hbA⟩; obtain ⟨A7, n7, c7, rfl, hs7⟩ := hoA.slI; have HBA := bel_call hbGR hbA; have hl7 := hbGR.size; have QG := hid (HG3.out.kept hbA))
        | (go_at_call 36; (with_reducible refine (refPut_any _ _ _ _ wA QG.out (by decide)).mono ?_); rintro e wB ⟨vB, rfl, hoB, hbB⟩; rw [octs_one] at hoB; obtain ⟨A8, n8, c8, rfl, hs8⟩ := hoB.slI; have HBB := bel_call HBA hbB; have hs7B := (hs7.low hl7).fromKeep hbB; have hs8B := hs8.low HBA.size)
        | (go_at_call 36; (with_reducible refine (refPut_any _ _ _ _ (wA.alloc (Obj.cells #[.int .u64 t.Tag] 25)) (rd_nums1 (w := wA) (t := 25) hTu) (by decide)).mono ?_); rintro e wB ⟨vB, rfl, hoB, hbB⟩; rw [octs_one] at hoB; obtain ⟨A8, n8, c8, rfl, hs8⟩ := hoB.slI; have hbAB := bel_call (bel_alloc (Below.refl wA.heap.size wA) (Obj.cells #[.int .u64 t.Tag] 25)) hbB; have HBB := bel_call HBA hbAB; have hs7B := (hs7.low hl7).fromKeep hbAB; have hs8B := hs8.low (bel_alloc HBA (Obj.cells #[.int .u64 t.Tag] 25)).size))
    all_goals
      have HO := hid ((OwnL.litL (L := lay_Record) (w := wB) (xs := [⟨1, oct t.Root⟩, ⟨2, oct t.Tag⟩]) (cy := #[.int .u64 1, .slice A7 n7 c7, .int .u64 2, .slice A8 n8 c8]) 83 (some w1.heap.size) rfl (by simp [maxLen]) ⟨[_, _], [_, _], rfl, rep_Record.2 ⟨A7, n7, c7, rfl, (by show (Lit.int .u64 1).wf = true; decide), hs7B⟩, [_, _], [], rfl, rep_Record.2 ⟨A8, n8, c8, rfl, (by show (Lit.int .u64 2).wf = true; decide), hs8B⟩, rfl⟩ (fun b hb => ⟨⟨hb.1, hb.2.2⟩, hb.2.1⟩)).lows HBB.size (Nat.le_refl _))
      have HBE := hid (bel_alloc HBB (Obj.cells #[.int .u64 1, .slice A7 n7 c7, .int .u64 2, .slice A8 n8 c8] 83))
      go_wp2_with fail
      go_meet
      case rel => exact ⟨_, rfl, HO.out, HBE.out⟩
  case rest =>
  obtain ⟨_, rfl, ho, hbc⟩ := hcut
  have k1 := (v1.call hbc).c1
  have hz1 := HB.size
  have hzc := hbc.size
  go_wp2
  go_loopw [4, 27] (fun tx i wr => ∃ (j : Nat) (tv : Value), j ≤ n2 ∧ i = .int .i64 j ∧ tx = tv ∧ OwnL lay_Record wr w1.heap.size (some w1.heap.size) 83 tv ((⟨1, oct t.Root⟩ : Rec) :: ⟨2, oct t.Tag⟩ :: capR 16 (t.L.take j)) ∧ Below w1.heap.size w1 wr) (fun _ i _ => n2 - (intOf i).toNat)
  case atStart => exact ⟨0, _, Nat.zero_le _, rfl, rfl, ho, hbc⟩
  case round =>
    obtain ⟨j, tx, hj, rfl, htx, hown, hbel⟩ := hrel
    replace htx := htx.symm
    subst htx
    clear k1 ho
    have hwz := hbel.size
    by_cases hlt : j < n2
    · obtain ⟨b1, o1, hx1, rfl, hb1, t1, t2, t3, hw⟩ := cav_at hL hlt
      have hbw := bel_call HB hbel
      have q1 := (hbw.cell (p := ⟨b1, o1 + j * 3, none⟩) hb1).trans t1
      have q2 := (hbw.cell (p := ⟨b1, o1 + j * 3 + 1, none⟩) hb1).trans t2
      have q3 := (hbw.cell (p := ⟨b1, o1 + j * 3 + 2, none⟩) hb1).trans t3
      have HT := hid (show capR 16 (t.L.take (j + 1)) = capR 16 (t.L.take j) ++ [⟨16 + (j : Int), putC t.L[j]⟩] from by
        rw [List.take_succ_eq_append_getElem hx1, capR_snoc, List.length_take, Nat.min_eq_left (Nat.le_of_lt hx1)]; simp)
      have hba := bel_alloc (Below.refl wr.heap.size wr) (Obj.cells #[.int .i64 t.L[j].Kind, .int .u64 t.L[j].A, .int .u64 t.L[j].B] 30)
      have HPU := hid (refPutC_any #[.int .i64 t.L[j].Kind, .int .u64 t.L[j].A, .int .u64 t.L[j].B] (fun _ => True) t.L[j] (wr.alloc (Obj.cells #[.int .i64 t.L[j].Kind, .int .u64 t.L[j].A, .int .u64 t.L[j].B] 30)) (rep_Caveat.2 ⟨rfl, hw⟩))
      have hal : ((⟨1, oct t.Root⟩ : Rec) :: ⟨2, oct t.Tag⟩ :: capR 16 (t.L.take j)).length ≤ 18 := by simp [capR_len]; omega
      have hlen1 : (((⟨1, oct t.Root⟩ : Rec) :: ⟨2, oct t.Tag⟩ :: capR 16 (t.L.take j)).length + 1) * 32 ≤ 140737488355328 := by omega
      have hlen2 : ((⟨1, oct t.Root⟩ : Rec) :: ⟨2, oct t.Tag⟩ :: capR 16 (t.L.take j)).length + 1 ≤ maxLen := by unfold maxLen; omega
      have hzb : (wr.alloc (Obj.cells #[.int .i64 t.L[j].Kind, .int .u64 t.L[j].A, .int .u64 t.L[j].B] 30)).heap.size = wr.heap.size + 1 := by simp
      have HZB := hid hzb
      have hw1 : IntKind.i64.wrap (16 + (j : Int)) = 16 + (j : Int) := IntWalk.i64_in _ (by omega)
      have hw2 : IntKind.u64.wrap (16 + (j : Int)) = 16 + (j : Int) := IntWalk.u64_in _ (by omega)
      have hwf : (Lit.int .u64 (16 + (j : Int))).wf = true := wf_u64 (by omega)
      clear t1 t2 t3 hzb hal
      go_wp2_with fail
      refine HPU.out.mono ?_
      rintro e w5 ⟨v5, rfl, ho5, hb5⟩
      obtain ⟨A5, n5, c5, rfl, hs5⟩ := ho5.slI
      have hb6 := bel_call hba hb5
      have ho6 := hown.keep hb6
      have hge : ∀ g, tx.ownBlock = some g → g < wr.heap.size := fun g hg => hown.lt hg
      have HGE := hid hge
      have hz5 := hb5.size
      rw [HZB.out] at hz5 hs5
      have HS5 := hid hs5
      clear hge hba hb5 ho5 hs5 HPU q1 q2 q3
      go_wp2_with (at_builtin; go_must (refine wpList_pushL (w := w5) rfl (.tmp 37) (.tmp 43) 81 rfl w1.heap.size (some w1.heap.size) 83 _ 32 Try.underlying81 Try.infoRec rfl (by decide) tx ((⟨1, oct t.Root⟩ : Rec) :: ⟨2, oct t.Tag⟩ :: capR 16 (t.L.take j)) ⟨16 + (j : Int), putC t.L[j]⟩ #[.int .u64 (16 + (j : Int)), .slice A5 n5 c5] (From w5 (wr.heap.size + 1)) rfl rfl ho6 (rep_Record.2 ⟨A5, n5, c5, rfl, hwf, HS5.out⟩) (fun b hb => ⟨⟨by have := hb.1; omega, hb.2.2⟩, hb.2.1, fun he => by have := HGE.out b he.symm; have := hb.1; omega⟩) (by omega) hlen1 hlen2 ?_; intro v7 w7 ho7 hx7; have hb7 : Below w1.heap.size w5 w7 := ho6.below hx7 (by omega)))
      go_roundw
      case rel => exact ⟨j + 1, _, by omega, by go_num, rfl, by rw [HT.out]; exact ho7, (bel_call hbel hb6).trans hb7⟩
      case measure => simp [intOf]; omega
    · have HTK := hid (show t.L.take j = t.L from List.take_of_length_le (by rw [HL.out]; omega))
      rw [HTK.out] at hown
      obtain ⟨A6, n6, c6, rfl, hs6⟩ := hown.read
      have HPR := hid (refPutR_ok A6 n6 c6 (recsT t) wr hs6 (recs_may hok))
      have HPE := hid (show putE (recsT t) = 0 ∧ putO (recsT t) = octsR (recsT t) from ⟨if_pos (recs_short hok), if_pos (recs_short hok)⟩)
      clear hown hs6
      go_wp2_with fail
      refine HPR.out.mono ?_
      rw [HPE.out.1, HPE.out.2]
      rintro e w9 ⟨v9, rfl, ho9, hb9⟩
      have HBE := hid (bel_call (bel_call HB hbel) hb9)
      have HO9 := hid (Own.weaken ho9 (Nat.le_trans hz1 hwz))
      clear ho9
      go_wp2
      go_ret2
      exact ⟨_, by rw [HE.out.1]; rfl, by rw [HE.out.2]; exact HO9.out, HBE.out⟩
end Go.Proofs.Ytgiapfenalhleaa
namespace Go.Proofs.Ytgiapfenalhleaa
open Go.RowKit Go.WalkArith

theorem nV_bd {l : List Rec} {k : Int} (hm : MayBe l) (hw : ∀ r ∈ l, RecWf r) (h1 : fE l k = 0) (h2 : nE l k = 0) : 0 ≤ nV l k ∧ nV l k ≤ 18446744073709551615 := by
  have h3 := h1
  rw [fE_ok hm] at h3
  unfold foE at h3
  cases hf : findR l k with
  | none => rw [hf] at h3; simp at h3
  | some r =>
    obtain ⟨-, a2, a3⟩ := fE_hit hm hf
    rw [a2] at h2
    rw [a3]
    exact (num_back (hw r (List.mem_of_find?_eq_some hf)).2 h2).2

set_option maxRecDepth 100000 in
set_option maxHeartbeats 8000000 in
theorem refGetT_any (A : Option Addr) (n c : Nat) (xs : List Int) (w : World) (hr : Rd w w.heap.size .u8 A n c xs) :
    Calls Try.prog 28 #[.slice A n c] w fun e w' => ∃ vt, e = .returned (.tuple #[vt, .int .i64 (tgtE xs)]) ∧ OwnT w' w.heap.size vt (tgtT xs) ∧ Below w.heap.size w w' := by
  have hwb := wf_bytes hr.wf
  have hb0 : Below w.heap.size w (w.alloc (Obj.cells #[.int .u64 0, .slice none 0 0, .int .i64 0] 28)) := bel_alloc (Below.refl _ _) _
  have v0 : Var3 (w.alloc (Obj.cells #[.int .u64 0, .slice none 0 0, .int .i64 0] 28)) w.heap.size 28 (.int .u64 0) (.slice none 0 0) (.int .i64 0) := Var3.new _ _ _ _ _
  have hr0 := hr.kept hb0
  have HZW := hid (show (w.alloc (Obj.cells #[.int .u64 0, .slice none 0 0, .int .i64 0] 28)).heap.size = w.heap.size + 1 from by simp)
  obtain ⟨l, hl⟩ : ∃ z, (getR xs).1 = z := ⟨_, rfl⟩
  obtain ⟨e0, he0⟩ : ∃ z, (getR xs).2 = z := ⟨_, rfl⟩
  have HGE := hid he0
  have HGL := hid hl
  clear he0 hl
  go_enter Try.func28, Try.ntmps28
  go_wp2_with fail
  generalize w.alloc (Obj.cells #[.int .u64 0, .slice none 0 0, .int .i64 0] 28) = W0 at *
  refine (refGetR_any A n c xs W0 hr0).mono ?_
  rw [HGE.out, HGL.out]
  rintro e w1 ⟨v1, rfl, ho1, hb1⟩
  obtain ⟨A1, n1, c1, rfl, hs1⟩ := ho1.read
  clear ho1 hr hr0
  by_cases hz : e0 = 0
  rotate_left
  · have HE := hid (show tgtE xs = e0 from by unfold tgtE; rw [HGE.out]; exact if_pos hz)
    have HEZ := hid (tgt_err (xs := xs) (by rw [HE.out]; exact hz))
    have V := v0.call hb1
    have t0 := V.c0
    have t1 := V.c1
    have t2 := V.c2
    have f0 := V.f 0
    have f1 := V.f 1
    have f2 := V.f 2
    have V2' := hid (V.set (.int .u64 0) (.slice none 0 0) (.int .i64 0))
    have HBE := hid ((((bel_call hb0 hb1).setCell (p := ⟨w.heap.size, 0, none⟩) (Nat.le_refl _) (.int .u64 0)).setCell (p := ⟨w.heap.size, 1, none⟩) (Nat.le_refl _) (.slice none 0 0)).setCell (p := ⟨w.heap.size, 2, none⟩) (Nat.le_refl _) (.int .i64 0))
    clear V
    have hne : (e0 != 0) = true := by simpa using hz
    go_wp2
    refine bodyPost_ret_by (results_ct rfl _ _ w.heap.size 0 rfl [.int .u64 0, .slice none 0 0, .int .i64 0] _ (range3 V2'.out.c0 V2'.out.c1 V2'.out.c2) Try.underlying28 rfl (by kernel_rfl)) rfl ?_
    exact ⟨_, by rw [HE.out]; rfl, by rw [HEZ.out]; exact ⟨_, rfl, OwnL.nil _ _ _ _ _⟩, HBE.out⟩
  subst hz
  have hgr : getR xs = (l, 0) := by rw [← HGE.out, ← HGL.out]
  have HG := hid (show tgtE xs = rtE l ∧ tgtT xs = rtT l from by unfold tgtE tgtT; rw [hgr]; exact ⟨rfl, rfl⟩)
  obtain ⟨hmb, -, -, hrw⟩ := getR_back hwb hgr
  have HMB := hid hmb
  have HRW := hid hrw
  have HNL := hid hs1.len
  clear hgr hmb hrw hwb
  have hcap := hs1.cap
  unfold maxLen at hcap
  have RS := hid (fun (W : World) (h : Below w1.heap.size w1 W) => Sl.call hs1 h)
  have hba1 : Below w1.heap.size w1 (w1.alloc (Obj.cells #[.int .u64 1, .int .u64 2] 25)) := bel_alloc (Below.refl _ _) _
  have KL := hid (fun (W : World) (h : Below (w1.alloc (Obj.cells #[.int .u64 1, .int .u64 2] 25)).heap.size (w1.alloc (Obj.cells #[.int .u64 1, .int .u64 2] 25)) W) => (show W.cell? ⟨w1.heap.size, 0, none⟩ = some (.int .u64 1) ∧ W.cell? ⟨w1.heap.size, 1, none⟩ = some (.int .u64 2) from by
    have hh := (h.block w1.heap.size (by simp)).trans (heap_alloc_new w1 (Obj.cells #[.int .u64 1, .int .u64 2] 25))
    constructor <;> simp [World.cell?, hh]))
  clear hs1
  go_wp2
  generalize w1.alloc (Obj.cells #[.int .u64 1, .int .u64 2] 25) = W2 at *
  go_loopw [30] (fun i wr => ∃ j : Nat, j ≤ 2 ∧ i = .int .i64 j ∧ Hid (0 < j → fE l 1 = 0) ∧ Hid (1 < j → fE l 2 = 0) ∧ Below W2.heap.size W2 wr) (fun i _ => 2 - (intOf i).toNat)
  case atStart => exact ⟨0, by omega, rfl, hid fun h => absurd h (by omega), hid fun h => absurd h (by omega), Below.refl _ _⟩
  case round =>
  obtain ⟨j, hj, rfl, p1, p2, hbel⟩ := hrel
  rcases (show j = 0 ∨ j = 1 ∨ j = 2 by omega) with rfl | rfl | rfl
  · obtain ⟨k0, k1⟩ := KL.out wr hbel
    obtain ⟨fe, hfe⟩ : ∃ z, fE l 1 = z := ⟨_, rfl⟩
    have HF := hid (refFind_any A1 n1 c1 l 1 wr (RS.out _ (bel_call hba1 hbel)))
    rw [hfe] at HF
    have FE := hid hfe
    clear hfe
    go_wp2_with fail
    refine HF.out.mono ?_
    rintro e w5 ⟨v5, rfl, -, hb5⟩
    clear k0 k1 HF
    have HB5 := bel_call hb1 (bel_call hba1 (bel_call hbel hb5))
    by_cases hz : fe = 0
    · subst hz
      go_wp2
      go_roundw
      case rel => exact ⟨1, by omega, by go_num, hid fun _ => FE.out, hid fun h => absurd h (by omega), bel_call hbel hb5⟩
      case measure => simp [intOf]
    · have HE := hid (show tgtE xs = 5 from by rw [HG.out.1]; exact rt0 (.inl (by rw [FE.out]; exact hz)))
      have HEZ := hid (tgt_err (xs := xs) (by rw [HE.out]; decide))
      have V := v0.call HB5
      have t0 := V.c0
      have t1 := V.c1
      have t2 := V.c2
      have f0 := V.f 0
      have f1 := V.f 1
      have f2 := V.f 2
      have V2' := hid (V.set (.int .u64 0) (.slice none 0 0) (.int .i64 0))
      have HBE := hid ((((bel_call hb0 HB5).setCell (p := ⟨w.heap.size, 0, none⟩) (Nat.le_refl _) (.int .u64 0)).setCell (p := ⟨w.heap.size, 1, none⟩) (Nat.le_refl _) (.slice none 0 0)).setCell (p := ⟨w.heap.size, 2, none⟩) (Nat.le_refl _) (.int .i64 0))
      clear V
      have hne : (fe != 0) = true := by simpa using hz
      go_wp2
      refine bodyPost_ret_by (results_ct rfl _ _ w.heap.size 0 rfl [.int .u64 0, .slice none 0 0, .int .i64 0] _ (range3 V2'.out.c0 V2'.out.c1 V2'.out.c2) Try.underlying28 rfl (by kernel_rfl)) rfl ?_
      exact ⟨_, by rw [HE.out]; rfl, by rw [HEZ.out]; exact ⟨_, rfl, OwnL.nil _ _ _ _ _⟩, HBE.out⟩
  · obtain ⟨k0, k1⟩ := KL.out wr hbel
    obtain ⟨fe, hfe⟩ : ∃ z, fE l 2 = z := ⟨_, rfl⟩
    have HF := hid (refFind_any A1 n1 c1 l 2 wr (RS.out _ (bel_call hba1 hbel)))
    rw [hfe] at HF
    have FE := hid hfe
    clear hfe
    go_wp2_with fail
    refine HF.out.mono ?_
    rintro e w5 ⟨v5, rfl, -, hb5⟩
    clear k0 k1 HF
    have HB5 := bel_call hb1 (bel_call hba1 (bel_call hbel hb5))
    by_cases hz : fe = 0
    · subst hz
      go_wp2
      go_roundw
      case rel => exact ⟨2, by omega, by go_num, hid fun _ => p1.out (by omega), hid fun _ => FE.out, bel_call hbel hb5⟩
      case measure => simp [intOf]
    · have HE := hid (show tgtE xs = 5 from by rw [HG.out.1]; exact rt0 (.inr (by rw [FE.out]; exact hz)))
      have HEZ := hid (tgt_err (xs := xs) (by rw [HE.out]; decide))
      have V := v0.call HB5
      have t0 := V.c0
      have t1 := V.c1
      have t2 := V.c2
      have f0 := V.f 0
      have f1 := V.f 1
      have f2 := V.f 2
      have V2' := hid (V.set (.int .u64 0) (.slice none 0 0) (.int .i64 0))
      have HBE := hid ((((bel_call hb0 HB5).setCell (p := ⟨w.heap.size, 0, none⟩) (Nat.le_refl _) (.int .u64 0)).setCell (p := ⟨w.heap.size, 1, none⟩) (Nat.le_refl _) (.slice none 0 0)).setCell (p := ⟨w.heap.size, 2, none⟩) (Nat.le_refl _) (.int .i64 0))
      clear V
      have hne : (fe != 0) = true := by simpa using hz
      go_wp2
      refine bodyPost_ret_by (results_ct rfl _ _ w.heap.size 0 rfl [.int .u64 0, .slice none 0 0, .int .i64 0] _ (range3 V2'.out.c0 V2'.out.c1 V2'.out.c2) Try.underlying28 rfl (by kernel_rfl)) rfl ?_
      exact ⟨_, by rw [HE.out]; rfl, by rw [HEZ.out]; exact ⟨_, rfl, OwnL.nil _ _ _ _ _⟩, HBE.out⟩
  have F1 := hid (p1.out (by omega))
  have F2 := hid (p2.out (by omega))
  have HBR := bel_call hba1 hbel
  clear p1 p2 hbel hba1 KL hj
  obtain ⟨ne1, hne1⟩ : ∃ z, nE l 1 = z := ⟨_, rfl⟩
  obtain ⟨nv1, hnv1⟩ : ∃ z, nV l 1 = z := ⟨_, rfl⟩
  have HN := hid (refNumber_any A1 n1 c1 l 1 wr (RS.out _ HBR))
  rw [hne1, hnv1] at HN
  have NE1 := hid hne1
  have NV1 := hid hnv1
  clear hne1 hnv1
  go_wp2_with fail
  refine HN.out.mono ?_
  rintro e w6 ⟨rfl, hb6⟩
  replace HBR := bel_call HBR hb6
  clear HN hb6
  by_cases hz1 : ne1 = 0
  rotate_left
  · have HE := hid (show tgtE xs = ne1 from by rw [HG.out.1, rt1 F1.out F2.out (by rw [NE1.out]; exact hz1), NE1.out])
    have HEZ := hid (tgt_err (xs := xs) (by rw [HE.out]; exact hz1))
    have V := v0.call (bel_call hb1 HBR)
    have t0 := V.c0
    have t1 := V.c1
    have t2 := V.c2
    have f0 := V.f 0
    have f1 := V.f 1
    have f2 := V.f 2
    have V2' := hid (V.set (.int .u64 0) (.slice none 0 0) (.int .i64 0))
    have HBE := hid ((((bel_call hb0 (bel_call hb1 HBR)).setCell (p := ⟨w.heap.size, 0, none⟩) (Nat.le_refl _) (.int .u64 0)).setCell (p := ⟨w.heap.size, 1, none⟩) (Nat.le_refl _) (.slice none 0 0)).setCell (p := ⟨w.heap.size, 2, none⟩) (Nat.le_refl _) (.int .i64 0))
    clear V
    have hne : (ne1 != 0) = true := by simpa using hz1
    go_wp2
    refine bodyPost_ret_by (results_ct rfl _ _ w.heap.size 0 rfl [.int .u64 0, .slice none 0 0, .int .i64 0] _ (range3 V2'.out.c0 V2'.out.c1 V2'.out.c2) Try.underlying28 rfl (by kernel_rfl)) rfl ?_
    exact ⟨_, by rw [HE.out]; rfl, by rw [HEZ.out]; exact ⟨_, rfl, OwnL.nil _ _ _ _ _⟩, HBE.out⟩
  subst hz1
  obtain ⟨ne2, hne2⟩ : ∃ z, nE l 2 = z := ⟨_, rfl⟩
  obtain ⟨nv2, hnv2⟩ : ∃ z, nV l 2 = z := ⟨_, rfl⟩
  have HN := hid (refNumber_any A1 n1 c1 l 2 w6 (RS.out _ HBR))
  rw [hne2, hnv2] at HN
  have NE2 := hid hne2
  have NV2 := hid hnv2
  clear hne2 hnv2
  go_wp2_with fail
  refine HN.out.mono ?_
  rintro e w7 ⟨rfl, hb6⟩
  replace HBR := bel_call HBR hb6
  clear HN hb6
  by_cases hz2 : ne2 = 0
  rotate_left
  · have HE := hid (show tgtE xs = ne2 from by rw [HG.out.1, rt2 F1.out F2.out NE1.out (by rw [NE2.out]; exact hz2), NE2.out])
    have HEZ := hid (tgt_err (xs := xs) (by rw [HE.out]; exact hz2))
    have V := v0.call (bel_call hb1 HBR)
    have t0 := V.c0
    have t1 := V.c1
    have t2 := V.c2
    have f0 := V.f 0
    have f1 := V.f 1
    have f2 := V.f 2
    have V2' := hid (V.set (.int .u64 0) (.slice none 0 0) (.int .i64 0))
    have HBE := hid ((((bel_call hb0 (bel_call hb1 HBR)).setCell (p := ⟨w.heap.size, 0, none⟩) (Nat.le_refl _) (.int .u64 0)).setCell (p := ⟨w.heap.size, 1, none⟩) (Nat.le_refl _) (.slice none 0 0)).setCell (p := ⟨w.heap.size, 2, none⟩) (Nat.le_refl _) (.int .i64 0))
    clear V
    have hne : (ne2 != 0) = true := by simpa using hz2
    go_wp2
    refine bodyPost_ret_by (results_ct rfl _ _ w.heap.size 0 rfl [.int .u64 0, .slice none 0 0, .int .i64 0] _ (range3 V2'.out.c0 V2'.out.c1 V2'.out.c2) Try.underlying28 rfl (by kernel_rfl)) rfl ?_
    exact ⟨_, by rw [HE.out]; rfl, by rw [HEZ.out]; exact ⟨_, rfl, OwnL.nil _ _ _ _ _⟩, HBE.out⟩
  subst hz2
  have hl2 : 2 ≤ n1 := by rw [← HNL.out]; exact rt_two HMB.out F1.out F2.out
  have hnb : 0 ≤ nv2 := by rw [← NV2.out]; exact (nV_bd HMB.out HRW.out F2.out NE2.out).1
  by_cases q1 : 1048576 < nv2
  · have HE := hid (show tgtE xs = 2 from by rw [HG.out.1]; exact rt3 F1.out F2.out NE1.out NE2.out (.inl (by rw [NV2.out]; exact q1)))
    have HEZ := hid (tgt_err (xs := xs) (by rw [HE.out]; decide))
    have V := v0.call (bel_call hb1 HBR)
    have t0 := V.c0
    have t1 := V.c1
    have t2 := V.c2
    have f0 := V.f 0
    have f1 := V.f 1
    have f2 := V.f 2
    have V2' := hid (V.set (.int .u64 0) (.slice none 0 0) (.int .i64 0))
    have HBE := hid ((((bel_call hb0 (bel_call hb1 HBR)).setCell (p := ⟨w.heap.size, 0, none⟩) (Nat.le_refl _) (.int .u64 0)).setCell (p := ⟨w.heap.size, 1, none⟩) (Nat.le_refl _) (.slice none 0 0)).setCell (p := ⟨w.heap.size, 2, none⟩) (Nat.le_refl _) (.int .i64 0))
    clear V
    have d1 : decide (1048576 < nv2) = true := decide_eq_true q1
    go_wp2
    refine bodyPost_ret_by (results_ct rfl _ _ w.heap.size 0 rfl [.int .u64 0, .slice none 0 0, .int .i64 0] _ (range3 V2'.out.c0 V2'.out.c1 V2'.out.c2) Try.underlying28 rfl (by kernel_rfl)) rfl ?_
    exact ⟨_, by rw [HE.out]; rfl, by rw [HEZ.out]; exact ⟨_, rfl, OwnL.nil _ _ _ _ _⟩, HBE.out⟩
  have d1 : decide (1048576 < nv2) = false := decide_eq_false q1
  by_cases q2 : 18 < n1
  · have HE := hid (show tgtE xs = 2 from by rw [HG.out.1]; exact rt3 F1.out F2.out NE1.out NE2.out (.inr (by rw [HNL.out]; exact q2)))
    have HEZ := hid (tgt_err (xs := xs) (by rw [HE.out]; decide))
    have V := v0.call (bel_call hb1 HBR)
    have t0 := V.c0
    have t1 := V.c1
    have t2 := V.c2
    have f0 := V.f 0
    have f1 := V.f 1
    have f2 := V.f 2
    have V2' := hid (V.set (.int .u64 0) (.slice none 0 0) (.int .i64 0))
    have HBE := hid ((((bel_call hb0 (bel_call hb1 HBR)).setCell (p := ⟨w.heap.size, 0, none⟩) (Nat.le_refl _) (.int .u64 0)).setCell (p := ⟨w.heap.size, 1, none⟩) (Nat.le_refl _) (.slice none 0 0)).setCell (p := ⟨w.heap.size, 2, none⟩) (Nat.le_refl _) (.int .i64 0))
    clear V
    have d2 : decide ((18 : Int) < (n1 : Int)) = true := decide_eq_true (by omega)
    go_wp2
    refine bodyPost_ret_by (results_ct rfl _ _ w.heap.size 0 rfl [.int .u64 0, .slice none 0 0, .int .i64 0] _ (range3 V2'.out.c0 V2'.out.c1 V2'.out.c2) Try.underlying28 rfl (by kernel_rfl)) rfl ?_
    exact ⟨_, by rw [HE.out]; rfl, by rw [HEZ.out]; exact ⟨_, rfl, OwnL.nil _ _ _ _ _⟩, HBE.out⟩
  have d2 : decide ((18 : Int) < (n1 : Int)) = false := decide_eq_false (by omega)
  have Q5 := hid (show ¬ (1048576 < nV l 2 ∨ 18 < l.length) from by rw [NV2.out, HNL.out]; omega)
  have hcut : ∀ W : World, (Instr.slice 81 (.slice A1 n1 c1) (some (.int .i64 2)) none none).run Try.prog W = .ok (.slice (cutS 2 A1 c1 2) (n1 - 2) (c1 - 2)) W := fun W => run_fromL (P := Try.prog) 81 83 .i64 Try.underlying81 (by kernel_rfl) Try.infoRec A1 n1 c1 2 hl2 W
  have RS2 := hid (fun (W : World) (h : Below w1.heap.size w1 W) => (show Sl lay_Record W (· < W.heap.size) (cutS 2 A1 c1 2) (n1 - 2) (c1 - 2) (l.drop 2) from (RS.out W h).cut hl2))
  obtain ⟨L, hL⟩ : ∃ z, l.drop 2 = z := ⟨_, rfl⟩
  obtain ⟨A2, hA2⟩ : ∃ z, cutS 2 A1 c1 2 = z := ⟨_, rfl⟩
  obtain ⟨m, hm⟩ : ∃ z, n1 - 2 = z := ⟨_, rfl⟩
  obtain ⟨c2, hc2⟩ : ∃ z, c1 - 2 = z := ⟨_, rfl⟩
  rw [hA2, hm, hc2] at hcut
  rw [hA2, hm, hc2, hL] at RS2
  have hm18 : m ≤ 16 := by omega
  have HLD := hid hL
  have HML := hid (RS2.out _ HBR).len
  have HSM := hid (fun (r : Rec) (h : r ∈ L) => (show r.V.length ≤ 4096 ∧ ∀ x ∈ r.V, 0 ≤ x ∧ x ≤ 255 from by
    have hrl : r ∈ l := List.mem_of_mem_drop (by rw [hL]; exact h)
    exact ⟨HMB.out.small r hrl, (HRW.out r hrl).2⟩))
  clear hL hA2 hc2 hm
  go_wp2
  go_loopw [73] (fun i wq => ∃ j : Nat, j ≤ m ∧ i = .int .i64 j ∧ Hid (∀ (i : Nat) (h : i < L.length), i < j → L[i].T = 16 + (i : Int)) ∧ Below w7.heap.size w7 wq) (fun i _ => m - (intOf i).toNat)
  case atStart => exact ⟨0, Nat.zero_le _, rfl, hid fun i h hi => absurd hi (by omega), Below.refl _ _⟩
  case round =>
  obtain ⟨j, hj, rfl, hnum, hbel⟩ := hrel
  have HBQ := bel_call HBR hbel
  by_cases hlt : j < m
  · obtain ⟨b1, o1, A', n', c', hx1, rfl, hb9, t1', t2', hTb, hV⟩ := rec_at (RS2.out _ HBQ) hlt
    have hw1 : IntKind.i64.wrap (16 + (j : Int)) = 16 + (j : Int) := IntWalk.i64_in _ (by omega)
    have hw2 : IntKind.u64.wrap (16 + (j : Int)) = 16 + (j : Int) := IntWalk.u64_in _ (by omega)
    have hba := bel_alloc hbel (Obj.cells #[.int .u64 L[j].T, .slice A' n' c'] 83)
    have HBX := bel_call HBR hba
    clear hV
    by_cases hT : L[j].T = 16 + (j : Int)
    · have dT : (L[j].T != 16 + (j : Int)) = false := by simpa using hT
      have HT := hid (show ∀ (i : Nat) (h : i < L.length), i < j + 1 → L[i].T = 16 + (i : Int) from fun i h hi => by
        by_cases k : i < j
        · exact hnum.out i h k
        · have : i = j := by omega
          subst this; exact hT)
      clear hT
      go_wp2
      go_roundw
      case rel => exact ⟨j + 1, by omega, by go_num, HT, hba⟩
      case measure => simp [intOf]; omega
    · have HE := hid (show tgtE xs = 2 from by rw [HG.out.1]; exact rt4 F1.out F2.out NE1.out NE2.out Q5.out (by rw [HLD.out]; exact fun k => hT (k j hx1)))
      have HEZ := hid (tgt_err (xs := xs) (by rw [HE.out]; decide))
      have V := v0.call (bel_call hb1 HBX)
      have t0 := V.c0
      have t1 := V.c1
      have t2 := V.c2
      have f0 := V.f 0
      have f1 := V.f 1
      have f2 := V.f 2
      have V2' := hid (V.set (.int .u64 0) (.slice none 0 0) (.int .i64 0))
      have HBE := hid ((((bel_call hb0 (bel_call hb1 HBX)).setCell (p := ⟨w.heap.size, 0, none⟩) (Nat.le_refl _) (.int .u64 0)).setCell (p := ⟨w.heap.size, 1, none⟩) (Nat.le_refl _) (.slice none 0 0)).setCell (p := ⟨w.heap.size, 2, none⟩) (Nat.le_refl _) (.int .i64 0))
      clear V
      have dT : (L[j].T != 16 + (j : Int)) = true := by simpa using hT
      clear hT
      go_wp2
      refine bodyPost_ret_by (results_ct rfl _ _ w.heap.size 0 rfl [.int .u64 0, .slice none 0 0, .int .i64 0] _ (range3 V2'.out.c0 V2'.out.c1 V2'.out.c2) Try.underlying28 rfl (by kernel_rfl)) rfl ?_
      exact ⟨_, by rw [HE.out]; rfl, by rw [HEZ.out]; exact ⟨_, rfl, OwnL.nil _ _ _ _ _⟩, HBE.out⟩
  have HNU := hid (show NumOk (l.drop 2) from by rw [HLD.out]; exact fun i h => hnum.out i h (by rw [HML.out] at h; omega))
  clear hnum hbel
  obtain ⟨b0, o0, A0, n0, c0, hx0, hAq, hbq, s1, s2, -, -⟩ := rec_at (RS.out _ HBQ) (j := 0) (by omega)
  subst hAq
  simp only [Nat.zero_mul, Nat.add_zero] at s1 s2
  by_cases h1 : l[0].T = 1
  rotate_left
  · have HE := hid (show tgtE xs = 2 from by rw [HG.out.1]; exact rt5 F1.out F2.out NE1.out NE2.out Q5.out HNU.out (by rw [List.getElem?_eq_getElem hx0]; simpa using h1))
    have HEZ := hid (tgt_err (xs := xs) (by rw [HE.out]; decide))
    have V := v0.call (bel_call hb1 HBQ)
    have t0 := V.c0
    have t1 := V.c1
    have t2 := V.c2
    have f0 := V.f 0
    have f1 := V.f 1
    have f2 := V.f 2
    have V2' := hid (V.set (.int .u64 0) (.slice none 0 0) (.int .i64 0))
    have HBE := hid ((((bel_call hb0 (bel_call hb1 HBQ)).setCell (p := ⟨w.heap.size, 0, none⟩) (Nat.le_refl _) (.int .u64 0)).setCell (p := ⟨w.heap.size, 1, none⟩) (Nat.le_refl _) (.slice none 0 0)).setCell (p := ⟨w.heap.size, 2, none⟩) (Nat.le_refl _) (.int .i64 0))
    clear V
    have dT : (l[0].T != 1) = true := by simpa using h1
    clear h1
    go_wp2
    refine bodyPost_ret_by (results_ct rfl _ _ w.heap.size 0 rfl [.int .u64 0, .slice none 0 0, .int .i64 0] _ (range3 V2'.out.c0 V2'.out.c1 V2'.out.c2) Try.underlying28 rfl (by kernel_rfl)) rfl ?_
    exact ⟨_, by rw [HE.out]; rfl, by rw [HEZ.out]; exact ⟨_, rfl, OwnL.nil _ _ _ _ _⟩, HBE.out⟩
  have dT : (l[0].T != 1) = false := by simpa using h1
  have HR6 := hid (show tgtE xs = csE L from by rw [HG.out.1, rt6 F1.out F2.out NE1.out NE2.out Q5.out HNU.out (by rw [List.getElem?_eq_getElem hx0]; simpa using h1), HLD.out])
  clear h1
  obtain ⟨wq, hwq⟩ : ∃ z, z = wr := ⟨_, rfl⟩
  subst hwq
  have hwv : IntKind.i64.wrap nv2 = nv2 := IntWalk.i64_in _ (by omega)
  have VO := Var3.new wq 28 (.int .u64 nv1) (.slice none 0 0) (.int .i64 nv2)
  have hbo := bel_alloc (Below.refl wq.heap.size wq) (Obj.cells #[.int .u64 nv1, .slice none 0 0, .int .i64 nv2] 28)
  have HZ3 := hid (show (wq.alloc (Obj.cells #[.int .u64 nv1, .slice none 0 0, .int .i64 nv2] 28)).heap.size = wq.heap.size + 1 from by simp)
  go_wp2
  generalize wq.alloc (Obj.cells #[.int .u64 nv1, .slice none 0 0, .int .i64 nv2] 28) = W3 at *
  have hzq := HBQ.size
  have hz01 := hb1.size
  go_loopw [99] (fun i ws => ∃ (j : Nat) (tv : Value), j ≤ m ∧ i = .int .i64 j ∧ Var3 ws wq.heap.size 28 (.int .u64 nv1) tv (.int .i64 nv2) ∧ OwnL lay_Caveat ws W3.heap.size (some W3.heap.size) 30 tv (csL (L.take j)) ∧ Hid (csE (L.drop j) = csE L) ∧ Below wq.heap.size wq ws) (fun i _ => m - (intOf i).toNat)
  case atStart => exact ⟨0, _, Nat.zero_le _, rfl, VO, OwnL.nil _ _ _ _ _, hid rfl, hbo⟩
  case round =>
  clear VO s1 s2
  obtain ⟨j, tv, hj, rfl, VO, hown, hce, hbel⟩ := hrel
  have HBS := bel_call HBQ hbel
  by_cases hlt : j < m
  · obtain ⟨b1, o1, A', n', c', hx1, rfl, hb9, t1', t2', hTb, hV⟩ := rec_at (RS2.out _ HBS) hlt
    have hsm := HSM.out L[j] (List.getElem_mem hx1)
    have hnl := hV.len
    have hrd := (hV.rd (B := wr.heap.size) fun _ h => h).kept (bel_alloc (Below.refl _ _) (Obj.cells #[.int .u64 L[j].T, .slice A' n' c'] 83))
    have hba := bel_alloc (Below.refl wr.heap.size wr) (Obj.cells #[.int .u64 L[j].T, .slice A' n' c'] 83)
    obtain ⟨d, hd⟩ : ∃ z, (getC L[j].V).1 = z := ⟨_, rfl⟩
    obtain ⟨ge, hge⟩ : ∃ z, (getC L[j].V).2 = z := ⟨_, rfl⟩
    have hdw : CavWf d := by rw [← hd]; exact getC_ok_wf hsm.2
    have HGC := hid (refGetC_any A' n' c' L[j].V _ hrd (by omega))
    rw [hd, hge, show cavV d = .agg #[.int .i64 d.Kind, .int .u64 d.A, .int .u64 d.B] from rfl] at HGC
    have HCE := hid (csE_step hx1)
    have HCL := hid (csL_take hx1)
    rw [hge] at HCE
    rw [hd] at HCL
    have hal : (csL (L.take j)).length ≤ 16 := by unfold csL; simp; omega
    have hlen1 : ((csL (L.take j)).length + 1) * 24 ≤ 140737488355328 := by omega
    have hlen2 : (csL (L.take j)).length + 1 ≤ maxLen := by unfold maxLen; omega
    clear hV hsm hnl hrd hd hge hal
    go_wp2_with fail
    refine HGC.out.mono ?_
    rintro e w9 ⟨rfl, hb9'⟩
    have hb10 := bel_alloc (bel_call hba hb9') (Obj.cells #[.int .i64 d.Kind, .int .u64 d.A, .int .u64 d.B] 30)
    have HBT := bel_call HBS hb10
    have hz10 := hb10.size
    have hzr := hbel.size
    clear hba hb9' HGC t1' t2'
    by_cases hz : ge = 0
    rotate_left
    · have HE := hid (show tgtE xs = ge from by rw [HR6.out, ← hce.out, HCE.out]; exact if_pos hz)
      have HEZ := hid (tgt_err (xs := xs) (by rw [HE.out]; exact hz))
      have V := v0.call (bel_call hb1 HBT)
      have t0 := V.c0
      have t1 := V.c1
      have t2 := V.c2
      have f0 := V.f 0
      have f1 := V.f 1
      have f2 := V.f 2
      have V2' := hid (V.set (.int .u64 0) (.slice none 0 0) (.int .i64 0))
      have HBE := hid ((((bel_call hb0 (bel_call hb1 HBT)).setCell (p := ⟨w.heap.size, 0, none⟩) (Nat.le_refl _) (.int .u64 0)).setCell (p := ⟨w.heap.size, 1, none⟩) (Nat.le_refl _) (.slice none 0 0)).setCell (p := ⟨w.heap.size, 2, none⟩) (Nat.le_refl _) (.int .i64 0))
      clear V
      have hne : (ge != 0) = true := by simpa using hz
      go_wp2
      refine bodyPost_ret_by (results_ct rfl _ _ w.heap.size 0 rfl [.int .u64 0, .slice none 0 0, .int .i64 0] _ (range3 V2'.out.c0 V2'.out.c1 V2'.out.c2) Try.underlying28 rfl (by kernel_rfl)) rfl ?_
      exact ⟨_, by rw [HE.out]; rfl, by rw [HEZ.out]; exact ⟨_, rfl, OwnL.nil _ _ _ _ _⟩, HBE.out⟩
    subst hz
    have VO6 := VO.call hb10
    have o1' := VO6.c1
    have ho6 := hown.keep hb10
    have z3 := HZ3.out
    have vlt := VO.lt
    have HSZ := hid (show w9.heap.size + 1 = (w9.alloc (Obj.cells #[.int .i64 d.Kind, .int .u64 d.A, .int .u64 d.B] 30)).heap.size from by simp)
    go_wp2_with (at_builtin; go_must (refine wpList_pushL (w := w9.alloc (Obj.cells #[.int .i64 d.Kind, .int .u64 d.A, .int .u64 d.B] 30)) rfl (.tmp 114) (.tmp 116) 26 rfl W3.heap.size (some W3.heap.size) 30 _ 24 Try.underlying26 Try.infoCav7 rfl (by decide) tv (csL (L.take j)) d #[.int .i64 d.Kind, .int .u64 d.A, .int .u64 d.B] (fun _ => False) rfl (congrArg (fun z => Value.slice (some ⟨z, 0, none⟩) 1 1) HSZ.out) ho6 (rep_Caveat.2 ⟨rfl, hdw⟩) (fun b hb => hb.elim) (by omega) hlen1 hlen2 ?_; intro v7 w11 ho7 hx7; have hb7 : Below W3.heap.size (w9.alloc (Obj.cells #[.int .i64 d.Kind, .int .u64 d.A, .int .u64 d.B] 30)) w11 := ho6.below hx7 (by omega); have VO7 := VO6.keep hb7 (by omega); have o7 := VO7.c1; have f7 := VO7.f 1; obtain ⟨A9, n9, c9, rfl, hs9⟩ := ho7.read; clear hs9))
    go_roundw
    case rel => exact ⟨j + 1, _, by omega, by go_num, VO7.set1 _, by rw [HCL.out]; exact ho7.setLow (by omega) (by omega) 1 _, hid (by rw [← hce.out, HCE.out]; rfl), ((bel_call hbel hb10).trans (hb7.mono (by omega))).setCell (p := ⟨wq.heap.size, 1, none⟩) (Nat.le_refl _) _⟩
    case measure => simp [intOf]; omega
  have HLT := hid (show L.take j = L ∧ csE L = 0 from ⟨List.take_of_length_le (by rw [HML.out]; omega), by rw [← hce.out, List.drop_eq_nil_of_le (by rw [HML.out]; omega)]; rfl⟩)
  rw [HLT.out.1] at hown
  obtain ⟨A5, n5, c5, rfl, -⟩ := hown.read
  have HTT := hid (show tgtE xs = 0 ∧ tgtT xs = ⟨nv1, csL L, nv2⟩ from by
    have e0 : tgtE xs = 0 := by rw [HR6.out]; exact HLT.out.2
    refine ⟨e0, ?_⟩
    rw [HG.out.2, rt_ok (by rw [← HG.out.1]; exact e0), NV1.out, NV2.out, HLD.out])
  have HBU := bel_call hb1 HBS
  have g0 := VO.c0
  have g1 := VO.c1
  have g2 := VO.c2
  have V := v0.call HBU
  have t0 := V.c0
  have t1 := V.c1
  have t2 := V.c2
  have f0 := V.f 0
  have f1 := V.f 1
  have f2 := V.f 2
  have z3 := HZ3.out
  have zw := HZW.out
  have V2' := hid (V.set (.int .u64 nv1) (.slice A5 n5 c5) (.int .i64 nv2))
  have HBE := hid ((((bel_call hb0 HBU).setCell (p := ⟨w.heap.size, 0, none⟩) (Nat.le_refl _) (.int .u64 nv1)).setCell (p := ⟨w.heap.size, 1, none⟩) (Nat.le_refl _) (.slice A5 n5 c5)).setCell (p := ⟨w.heap.size, 2, none⟩) (Nat.le_refl _) (.int .i64 nv2))
  have HO := hid ((((hown.setLow (b := w.heap.size) (by omega) (by omega) 0 (.int .u64 nv1)).setLow (b := w.heap.size) (by omega) (by omega) 1 (.slice A5 n5 c5)).setLow (b := w.heap.size) (by omega) (by omega) 2 (.int .i64 nv2)).lows (base' := w.heap.size) (lo' := w.heap.size) (by omega) (by omega))
  clear V z3 zw VO hown
  go_wp2
  refine bodyPost_ret_by (results_ct rfl _ _ w.heap.size 0 rfl [.int .u64 nv1, .slice A5 n5 c5, .int .i64 nv2] _ (range3 V2'.out.c0 V2'.out.c1 V2'.out.c2) Try.underlying28 rfl (by kernel_rfl)) rfl ?_
  exact ⟨_, by rw [HTT.out.1]; rfl, by rw [HTT.out.2]; exact ⟨_, rfl, HO.out⟩, HBE.out⟩
end Go.Proofs.Ytgiapfenalhleaa
namespace Go.Proofs.Ytgiapfenalhleaa
open Go.RowKit Go.WalkArith

def fewK (l : List Tok) : Bool := l.all fun t => decide (t.L.length ≤ 20)

theorem tok_at {w : World} {S : Nat → Prop} {A : Option Addr} {n c : Nat} {l : List Tok} (h : Sl lay_Token w S A n c l) {j : Nat} (hj : j < n) :
    ∃ b off A' n' c', ∃ hx : j < l.length, A = some ⟨b, off, none⟩ ∧ S b ∧ w.cell? ⟨b, off + j * 3, none⟩ = some (.int .u64 l[j].Root) ∧ w.cell? ⟨b, off + j * 3 + 1, none⟩ = some (.slice A' n' c') ∧ w.cell? ⟨b, off + j * 3 + 2, none⟩ = some (.int .i64 l[j].Tag) ∧ (Lit.int .u64 l[j].Root).wf = true ∧ (Lit.int .i64 l[j].Tag).wf = true ∧ Sl lay_Caveat w S A' n' c' l[j].L := by
  obtain ⟨b, off, cs, hx, rfl, hb, hr, hc⟩ := h.at_ hj
  obtain ⟨A', n', c', rfl, h1, h2, h3⟩ := rep_Token.1 hr
  exact ⟨b, off, A', n', c', hx, rfl, hb, hc 0 _ rfl, hc 1 _ rfl, hc 2 _ rfl, h1, h2, h3⟩
theorem fewK_take {l : List Tok} {j : Nat} (hj : j < l.length) : fewK (l.take (j + 1)) = (fewK (l.take j) && decide (l[j].L.length ≤ 20)) := by
  unfold fewK
  rw [List.take_succ_eq_append_getElem hj, List.all_append]
  simp
theorem fewK_no {l : List Tok} {j : Nat} (hj : j < l.length) (h : ¬ l[j].L.length ≤ 20) : fewK l = false := by
  unfold fewK
  rw [List.all_eq_false]
  exact ⟨l[j], List.getElem_mem hj, by simpa using h⟩

set_option maxRecDepth 100000 in
set_option maxHeartbeats 4000000 in
theorem fewK_any (A : Option Addr) (n c : Nat) (l : List Tok) (w : World) (h : Sl lay_Token w (· < w.heap.size) A n c l) :
    Calls Try.prog 11 #[.slice A n c] w fun e w' => e = .returned (.bool (fewK l)) ∧ Below w.heap.size w w' := by
  have HL := hid h.len
  have hcap := h.cap
  unfold maxLen at hcap
  go_enter Try.func11, Try.ntmps11
  go_wp2
  go_loopw [7] (fun i wr => ∃ j : Nat, j ≤ n ∧ i = .int .i64 j ∧ fewK (l.take j) = true ∧ Below w.heap.size w wr) (fun i _ => n - (intOf i).toNat)
  case atStart => exact ⟨0, Nat.zero_le _, rfl, by simp [fewK], Below.refl _ _⟩
  case round =>
    obtain ⟨j, hj, rfl, hpre, hbel⟩ := hrel
    have HP := hid hpre
    clear hpre
    by_cases hlt : j < n
    · obtain ⟨b1, o1, A', n', c', hx1, rfl, hb1, t1, t2, t3, hw1, hw2, hs⟩ := tok_at h hlt
      have q1 := (hbel.cell (p := ⟨b1, o1 + j * 3, none⟩) hb1).trans t1
      have q2 := (hbel.cell (p := ⟨b1, o1 + j * 3 + 1, none⟩) hb1).trans t2
      have q3 := (hbel.cell (p := ⟨b1, o1 + j * 3 + 2, none⟩) hb1).trans t3
      have HT := hid (fewK_take hx1)
      have HN' := hid hs.len
      have hcp := hs.cap
      unfold maxLen at hcp
      have hba := bel_alloc hbel (Obj.cells #[.int .u64 l[j].Root, .slice A' n' c', .int .i64 l[j].Tag] 28)
      clear t1 t2 t3
      by_cases hle : n' ≤ 20
      · have d1 : decide ((20 : Int) < (n' : Int)) = false := decide_eq_false (by omega)
        have HN := hid (show fewK (l.take (j + 1)) = true from by rw [HT.out, HP.out, decide_eq_true (by rw [HN'.out]; exact hle)]; rfl)
        clear hs
        go_wp2
        go_roundw
        case rel => exact ⟨j + 1, by omega, by go_num, HN.out, hba⟩
        case measure => simp [intOf]; omega
      · have d1 : decide ((20 : Int) < (n' : Int)) = true := decide_eq_true (by omega)
        have HN := hid (fewK_no hx1 (by rw [HN'.out]; exact hle))
        clear hs
        go_wp2
        go_ret
        exact ⟨ret_bool HN.out.symm, hba⟩
    · have HN := hid (show fewK l = true from by
        have h1 := HP.out
        rw [List.take_of_length_le (by rw [HL.out]; omega)] at h1
        exact h1)
      go_wp2
      go_ret
      exact ⟨ret_bool HN.out.symm, hbel⟩
end Go.Proofs.Ytgiapfenalhleaa
namespace Go.Proofs.Ytgiapfenalhleaa
open Go.RowKit Go.WalkArith

theorem oct_len_le (n : Int) : (oct n).length ≤ 9 := by
  have := octs_len_le [n]
  simpa [octs] using this
theorem putC_le (c : Cav) : (putC c).length ≤ 4096 := by
  unfold putC numsC
  have h9 : ∀ n : Int, (oct n).length ≤ 9 := oct_len_le
  split
  · split
    · simp only [octs, List.flatMap_cons, List.flatMap_nil, List.append_nil, List.length_append]
      have h1 := h9 4
      have h2 := h9 c.A
      have h3 := h9 c.B
      omega
    · simp only [octs, List.flatMap_cons, List.flatMap_nil, List.append_nil, List.length_append]
      have h1 := h9 c.Kind
      have h2 := h9 c.A
      omega
  · simp
/-- A tag that is made is one of the arena's. -/
theorem bn_made {l : List Trm} {root key : Int} {cs : List Cav} (h : (bnS l root key cs).e = 0) : ∃ (o : List Trm) (i : Nat), i < (l ++ o).length ∧ (bnS l root key cs).l = l ++ o ∧ (bnS l root key cs).t = ⟨root, cs, i⟩ ∧ ArOk (l ++ o) ∧ pthK (l ++ o) i = key ∧ pthT (l ++ o) i = oct root :: txts cs ∧ o.length ≤ cs.length + 1 ∧ (∀ c ∈ cs, CavOk c) ∧ cs.length ≤ 16 := by
  obtain ⟨h1, h2, h3, h4, h5⟩ := bn_is l root key cs h
  obtain ⟨o, i, hi, e1, e2, a, p1, p2, n⟩ := mk_good l key (oct root) (txts cs) h1
  exact ⟨o, i, hi, h2.trans e1, by rw [h3, e2], a, p1, p2, by simpa [txts] using n, h4, h5⟩
theorem tokOk_mk {l : List Trm} (h : ArOk l) {root : Int} {cs : List Cav} {i : Nat} (hi : i < l.length) (h1 : ∀ c ∈ cs, CavOk c) (h2 : cs.length ≤ 16) : TokOk ⟨root, cs, i⟩ := by
  have := h.1
  refine ⟨⟨h2, ?_⟩, by show (0 : Int) ≤ (i : Int); omega, by show (i : Int) ≤ 1048576; omega⟩
  unfold cavsB
  rw [List.all_eq_true]
  exact fun c hc => decide_eq_true (h1 c hc)
theorem tokOk_cavs {t : Tok} (h : TokOk t) : ∀ c ∈ t.L, CavOk c := fun c hc => by
  have := h.1.2
  unfold cavsB at this
  rw [List.all_eq_true] at this
  exact of_decide_eq_true (this c hc)
/-- As what was minted, and bound, is seen in an arena that holds it. -/
theorem seen {C : List Trm} (h : ArOk C) {root key : Int} {cs : List Cav} {i : Nat} (hi : i < C.length) (hk : pthK C i = key) (ht : pthT C i = oct root :: txts cs) (h1 : ∀ c ∈ cs, CavOk c) (h2 : cs.length ≤ 16) :
    vfE C ⟨root, cs, i⟩ = 0 ∧ (∀ other, vfV C other ⟨root, cs, i⟩ = decide (other = key)) ∧
    (∀ (t : Tok), (0 ≤ t.Root ∧ t.Root ≤ 18446744073709551615) → (0 ≤ root ∧ root ≤ 18446744073709551615) → CavsWf cs → CavsWf t.L → vfE C ⟨t.Root, t.L, i⟩ = 0 → vfV C key ⟨t.Root, t.L, i⟩ = decide (t.Root = root ∧ t.L = cs)) ∧
    (∀ (tag : Int), vfE C ⟨root, cs, tag⟩ = 0 → vfV C key ⟨root, cs, tag⟩ = decide (tag = i)) := by
  have hv : VerOk C ⟨root, cs, i⟩ := ⟨tokOk_mk h hi h1 h2, h⟩
  refine ⟨if_pos hv, fun other => ?_, fun t bt br wc wt he => ?_, fun tag he => ?_⟩
  · rcases vf_is (l := C) (key := other) (t := ⟨root, cs, i⟩) with ⟨-, e, -⟩ | ⟨-, -, e⟩
    · rw [e, Bool.eq_iff_iff, decide_eq_true_iff, right_iff h hi rfl, hk, ht]
      simp only [and_true]
      exact eq_comm
    · exact absurd hv e
  · rcases vf_is (l := C) (key := key) (t := ⟨t.Root, t.L, i⟩) with ⟨-, e, q⟩ | ⟨e, -⟩
    · rw [e, Bool.eq_iff_iff, decide_eq_true_iff, right_iff h hi rfl, hk, ht]
      constructor
      · rintro ⟨-, k⟩
        injection k with k1 k2
        exact ⟨(oct_inj br bt k1).symm, (txts_inj wc wt h1 (tokOk_cavs (t := ⟨t.Root, t.L, i⟩) q.1) k2).symm⟩
      · rintro ⟨k1, k2⟩
        rw [k1, k2]
        exact ⟨rfl, rfl⟩
    · rw [he] at e; cases e
  · rcases vf_is (l := C) (key := key) (t := ⟨root, cs, tag⟩) with ⟨-, e, q⟩ | ⟨e, -⟩
    · rw [e]
      have q0 : 0 ≤ tag := q.1.2.1
      rcases Int.lt_or_le tag C.length with hlt | hge
      · obtain ⟨m, rfl⟩ := Int.eq_ofNat_of_zero_le q0
        have hm : m < C.length := by omega
        rw [Bool.eq_iff_iff, decide_eq_true_iff, right_iff h hm rfl]
        constructor
        · rintro ⟨k1, k2⟩
          have := pth_inj h hm hi (k1.trans hk.symm) (k2.trans ht.symm)
          omega
        · intro k
          have : m = i := by omega
          subst this
          exact ⟨hk, ht⟩
      · rw [right_no hge]
        exact (decide_eq_false (by omega)).symm
    · rw [he] at e; cases e
/-- With a caveat fewer it is not right. -/
theorem fewer {C : List Trm} (h : ArOk C) {root key : Int} {cs : List Cav} {i : Nat} (hi : i < C.length) (hk : pthK C i = key) (ht : pthT C i = oct root :: txts cs) (h1 : ∀ c ∈ cs, CavOk c) (h2 : cs.length ≤ 16) (h0 : 0 < cs.length) :
    vfE C ⟨root, cs.take (cs.length - 1), i⟩ = 0 ∧ vfV C key ⟨root, cs.take (cs.length - 1), i⟩ = false ∧ pathE C i = 0 ∧ pathK C i = key ∧ (pathT C i).length = cs.length + 1 := by
  have hv : VerOk C ⟨root, cs.take (cs.length - 1), i⟩ := ⟨tokOk_mk h hi (fun c hc => h1 c (List.mem_of_mem_take hc)) (by simp; omega), h⟩
  refine ⟨if_pos hv, ?_, ?_⟩
  · rcases vf_is (l := C) (key := key) (t := ⟨root, cs.take (cs.length - 1), i⟩) with ⟨-, e, -⟩ | ⟨-, -, e⟩
    · rw [e, Bool.eq_false_iff]
      intro k
      have := ((right_iff h hi rfl).1 k).2
      rw [ht] at this
      injection this with _ k2
      have := congrArg List.length k2
      simp [txts] at this
      omega
    · exact absurd hv e
  · have hp : ArOk C ∧ (0 : Int) ≤ (i : Int) ∧ (i : Int) < C.length := ⟨h, by omega, by omega⟩
    have e : pathE C i = 0 := if_pos hp
    refine ⟨e, ?_, ?_⟩
    · unfold pathK
      rw [if_pos e, Int.toNat_natCast, hk]
    · unfold pathT
      rw [if_pos e, Int.toNat_natCast, ht]
      simp [txts]
theorem stepM_e {s : Mk} {t : List Int} (h : (stepM s t).e = 0) : s.e = 0 := by
  by_cases h0 : s.e = 0
  · exact h0
  · rw [stepM_no h0] at h
    exact h
/-- What is made of caveats that may be is bound. -/
theorem bn_of (l : List Trm) (root key : Int) (cs : List Cav) : (mkS l key (oct root) (txts cs)).e = 0 → (∀ c ∈ cs, CavOk c) → cs.length ≤ 16 → (bnS l root key cs).e = 0 := by
  refine snoc_ind (p := fun cs => (mkS l key (oct root) (txts cs)).e = 0 → (∀ c ∈ cs, CavOk c) → cs.length ≤ 16 → (bnS l root key cs).e = 0) cs (fun h _ _ => h) fun cs c ih h hc hn => ?_
  have ht : txts (cs ++ [c]) = txts cs ++ [putC c] := by simp [txts]
  rw [ht, mkS_snoc] at h
  have h0 := stepM_e h
  simp only [List.length_append, List.length_singleton] at hn
  have hb := ih h0 (fun d hd => hc d (by simp [hd])) (by omega)
  obtain ⟨o, i, hi, e1, e2, a, p1, p2, n, k1, k2⟩ := bn_made hb
  obtain ⟨i1, i2, i3, -, -⟩ := bn_is l root key cs hb
  rw [bnS_snoc]
  unfold stepB
  rw [if_pos hb]
  show bdE _ _ c = 0
  have hm : stepM (mkS l key (oct root) (txts cs)) (putC c) = ⟨nextL (mkS l key (oct root) (txts cs)).l (mkS l key (oct root) (txts cs)).i (putC c), nextI (mkS l key (oct root) (txts cs)).l (mkS l key (oct root) (txts cs)).i (putC c), nextE (mkS l key (oct root) (txts cs)).l (mkS l key (oct root) (txts cs)).i (putC c)⟩ := if_pos h0
  rw [hm] at h
  unfold bdE
  have hok : BindOk (bnS l root key cs).l (bnS l root key cs).t c := ⟨hc c (by simp), by rw [e2]; exact tokOk_mk a hi k1 k2, by rw [e1]; exact a⟩
  rw [if_pos hok]
  have hne : ¬ (bnS l root key cs).t.L.length = 16 := by rw [e2]; show ¬ cs.length = 16; omega
  rw [if_neg hne, i2, i3]
  exact h
/-- What was bound is bound again to the same, in an arena that holds it. -/
theorem bn_again {C : List Trm} (h : ArOk C) {root key : Int} {cs : List Cav} {i : Nat} (hi : i < C.length) (hk : pthK C i = key) (ht : pthT C i = oct root :: txts cs) (h1 : ∀ c ∈ cs, CavOk c) (h2 : cs.length ≤ 16) : bnS C root key cs = ⟨C, ⟨root, cs, i⟩, 0⟩ := by
  have hm := mk_same h hi hk ht
  have he := bn_of C root key cs (by rw [hm]) h1 h2
  obtain ⟨-, i2, i3, -⟩ := bn_is C root key cs he
  rw [hm] at i2 i3
  simp only at i2 i3
  rcases hB : bnS C root key cs with ⟨a, b, c⟩
  rw [hB] at he i2 i3
  simp only at he i2 i3
  rw [he, i2, i3]
theorem root_ok {l : List Trm} (h : ArOk l) (hl : l.length < 1048576) {k : Int} {t : List Int} (ht : t.length ≤ 4096) : withE l (rootT k t) = 0 := by
  rcases with_cases (l := l) (rootT k t) with ⟨e, _⟩ | ⟨e, _⟩ | ⟨_, _, _, _, _, _, e, _⟩ | ⟨_, _, _, _, e, _⟩ | ⟨_, e, _⟩
  · exact e
  · exact e
  · omega
  · exact absurd (show t.length ≤ 4096 from ht) (by have : 4096 < t.length := e; omega)
  · exact absurd ⟨h, by show (-1 : Int) < l.length; omega, by show (-1 : Int) ≤ -1; omega⟩ e
theorem next_ok {l : List Trm} (h : ArOk l) (hl : l.length < 1048576) {u : Int} (h0 : 0 ≤ u) (hu : u < l.length) {t : List Int} (ht : t.length ≤ 4096) : nextE l u t = 0 := by
  unfold nextE
  rw [if_neg (by omega)]
  rcases with_cases (l := l) (nextT u t) with ⟨e, _⟩ | ⟨e, _⟩ | ⟨_, _, _, _, _, _, e, _⟩ | ⟨_, _, _, _, e, _⟩ | ⟨_, e, _⟩
  · exact e
  · exact e
  · omega
  · exact absurd (show t.length ≤ 4096 from ht) (by have : 4096 < t.length := e; omega)
  · exact absurd ⟨h, hu, by show -1 ≤ u; omega⟩ e
/-- In an arena with room all is made. -/
theorem mk_ok {l : List Trm} (h : ArOk l) (key root : Int) (cs : List Cav) (hr : l.length + cs.length < 1048576) : (mkS l key (oct root) (txts cs)).e = 0 := by
  refine snoc_ind (p := fun cs => l.length + cs.length < 1048576 → (mkS l key (oct root) (txts cs)).e = 0) cs (fun hr => root_ok h (by simpa using hr) (by have := oct_len_le root; omega)) (fun cs c ih hr => ?_) hr
  have ht : txts (cs ++ [c]) = txts cs ++ [putC c] := by simp [txts]
  simp only [List.length_append, List.length_singleton] at hr
  have h0 := ih (by omega)
  rw [ht, mkS_snoc]
  obtain ⟨o, i, hi, e1, e2, a, p1, p2, n⟩ := mk_good l key (oct root) (txts cs) h0
  unfold stepM
  rw [if_pos h0]
  show nextE _ _ _ = 0
  rw [e1, e2]
  simp [txts] at n
  rw [List.length_append] at hi
  exact next_ok a (by rw [List.length_append]; omega) (by omega) (by rw [List.length_append]; omega) (putC_le c)
/-- Two caveats in the other order. -/
theorem order {l : List Trm} {root key : Int} {c d : Cav} (hc : CavWf c) (hd : CavWf d) (hl : l.length ≤ 80) (h : (bnS l root key [c, d]).e = 0) :
    ∃ (i j : Nat) (Y : List Trm), (bnS l root key [c, d]).t = ⟨root, [c, d], i⟩ ∧ bnS (bnS l root key [c, d]).l root key [d, c] = ⟨Y, ⟨root, [d, c], j⟩, 0⟩ ∧ bnS Y root key [c, d] = ⟨Y, ⟨root, [c, d], i⟩, 0⟩ ∧ (i = j ↔ c = d) ∧ i < 1048576 ∧ j < 1048576 := by
  obtain ⟨o, i, hi, e1, e2, a, p1, p2, n, k1, k2⟩ := bn_made h
  have hk' : ∀ x ∈ [d, c], CavOk x := fun x hx => k1 x (by simp at hx ⊢; exact hx.symm)
  simp at n
  have h2 : (bnS (l ++ o) root key [d, c]).e = 0 := bn_of _ _ _ _ (mk_ok a key root [d, c] (by rw [List.length_append]; simp; omega)) hk' (by simp)
  obtain ⟨o2, j, hj, f1, f2, b, q1, q2, n2, -, -⟩ := bn_made h2
  obtain ⟨r1, r2⟩ := pth_append a o2 hi
  have hi' : i < (l ++ o ++ o2).length := by rw [List.length_append]; omega
  refine ⟨i, j, l ++ o ++ o2, e2, ?_, bn_again b hi' (r1.trans p1) (r2.trans p2) k1 k2, ?_, by have := b.1; omega, by have := b.1; omega⟩
  · rw [e1]
    rcases hB : bnS (l ++ o) root key [d, c] with ⟨x, y, z⟩
    rw [hB] at h2 f1 f2
    simp only at h2 f1 f2
    rw [h2, f1, f2]
  · constructor
    · rintro rfl
      rw [r2, p2] at q2
      injection q2 with _ q3
      simp only [txts, List.map_cons, List.map_nil, List.cons.injEq, and_true] at q3
      exact putC_inj hc hd (k1 c (by simp)) (k1 d (by simp)) q3.1
    · rintro rfl
      exact pth_inj b hi' hj (by rw [r1, p1, q1]) (by rw [r2, p2, q2])
/-- The chapter's example. -/
theorem eg7 : ∃ (i : Nat) (L : List Trm), mtE [] 5 9 = 0 ∧ mtL [] 5 9 = L ∧ mtT [] 5 9 = ⟨5, [], i⟩ ∧ i ≤ 1048576 ∧ vfE L ⟨5, [], i⟩ = 0 ∧ vfV L 9 ⟨5, [], i⟩ = true ∧ vfV L 8 ⟨5, [], i⟩ = false := by
  have hn : ArOk [] := ⟨by simp, fun i hi => by simp at hi⟩
  have h : (bnS [] 5 9 []).e = 0 := bn_of [] 5 9 [] (mk_ok hn 9 5 [] (by simp)) (by simp) (by simp)
  obtain ⟨o, i, hi, e1, e2, a, p1, p2, n, k1, k2⟩ := bn_made h
  obtain ⟨s1, s2, -, -⟩ := seen a hi p1 p2 k1 k2
  exact ⟨i, [] ++ o, h, e1, e2, by have := a.1; omega, s1, (s2 9).trans (by simp), (s2 8).trans (by simp)⟩
/-- What 'bound' answers is a token's root, and tag. -/
theorem bn_wf {l : List Trm} {root key : Int} {cs : List Cav} (h : (bnS l root key cs).e = 0) : (bnS l root key cs).t.Root = root ∧ 0 ≤ (bnS l root key cs).t.Tag ∧ (bnS l root key cs).t.Tag < 1048576 := by
  obtain ⟨o, i, hi, e1, e2, a, -⟩ := bn_made h
  have := a.1
  rw [e2]
  exact ⟨rfl, by show (0 : Int) ≤ (i : Int); omega, by show (i : Int) < 1048576; omega⟩
theorem bnS_take {l : List Trm} {root key : Int} {cs : List Cav} {j : Nat} (hj : j < cs.length) : bnS l root key (cs.take (j + 1)) = stepB (bnS l root key (cs.take j)) cs[j] := by
  rw [List.take_succ_eq_append_getElem hj, bnS_snoc]
end Go.Proofs.Ytgiapfenalhleaa
