/-
  The contracts of package token's texts, Check, Same, and Mint.
  The contract of package token's Mint.
  The contracts of package token's own types, and of Verify.
  The contract of package token's Bind.
-/
import Derived.Test.YtgiapfenalhleaaPackTokRef
import Derived.Test.YtgiapfenalhleaaPackAr
import Derived.Test.YtgiapfenalhleaaPackCav
import Derived.Test.YtgiapfenalhleaaCaveatEq
import Derived.Test.YtgiapfenalhleaaTokenMath2
import Derived.Deep.RegionHeld3
import Derived.Deep.Cut
namespace Go.Proofs.Ytgiapfenalhleaa
open Go.RowKit Go.WalkArith

def ttL (t : Tok) : List (List Int) := if TokOk t then txts t.L else []
theorem cavsB_of {l : List Cav} (h : ∀ c ∈ l, CavOk c) : cavsB l = true := by
  unfold cavsB
  rw [List.all_eq_true]
  exact fun c hc => decide_eq_true (h c hc)

set_option maxRecDepth 100000 in
set_option maxHeartbeats 4000000 in
theorem ttexts_any (s : Array Value) (t : Tok) (w : World) (h : lay_Token.rep w (· < w.heap.size) t s.toList) :
    Calls Try.prog 44 #[.agg s] w fun e w' => ∃ v', e = .returned (.tuple #[v', .int .i64 (tkE t)]) ∧ OwnL lay_Txt w' w.heap.size (some w.heap.size) 46 v' (ttL t) ∧ Below w.heap.size w w' := by
  obtain ⟨A2, n2, c2, rfl, hR, hT, hL⟩ := agg_Token h
  clear h
  have bT := bounds_i64 hT
  have HL := hid hL.len
  have hcap := hL.cap
  unfold maxLen at hcap
  have hb0 : Below w.heap.size w (w.alloc (Obj.cells #[.int .u64 t.Root, .slice A2 n2 c2, .int .i64 t.Tag] 28)) := bel_alloc (Below.refl _ _) _
  have v0 := Var3.new w 28 (.int .u64 t.Root) (.slice A2 n2 c2) (.int .i64 t.Tag)
  have HZ0 := hid (show (w.alloc (Obj.cells #[.int .u64 t.Root, .slice A2 n2 c2, .int .i64 t.Tag] 28)).heap.size = w.heap.size + 1 from by simp)
  have k1 := v0.c1
  have k2 := v0.c2
  have no : ¬ TokOk t → tkE t = 1 ∧ ttL t = [] := fun h => ⟨if_neg h, if_neg h⟩
  by_cases g0 : 16 < n2
  · have HE := hid (no fun k => by have := k.1.1; rw [HL.out] at this; omega)
    have d0 : decide ((16 : Int) < (n2 : Int)) = true := by simp; omega
    clear no
    generalize t.Tag = tg at *
    go_enter Try.func44, Try.ntmps44
    go_wp2
    go_ret2
    exact ⟨_, by rw [HE.out.1]; rfl, by rw [HE.out.2]; exact OwnL.nil _ _ _ _ _, hb0⟩
  have d0 : decide ((16 : Int) < (n2 : Int)) = false := by simp; omega
  by_cases g1 : t.Tag < 0
  · have HE := hid (no fun k => by have := k.2.1; omega)
    have d1 : decide (t.Tag < 0) = true := by simpa using g1
    clear no
    generalize t.Tag = tg at *
    go_enter Try.func44, Try.ntmps44
    go_wp2
    go_ret2
    exact ⟨_, by rw [HE.out.1]; rfl, by rw [HE.out.2]; exact OwnL.nil _ _ _ _ _, hb0⟩
  have d1 : decide (t.Tag < 0) = false := by simpa using g1
  by_cases g2 : 1048576 < t.Tag
  · have HE := hid (no fun k => by have := k.2.2; omega)
    have d2 : decide (1048576 < t.Tag) = true := by simpa using g2
    clear no
    generalize t.Tag = tg at *
    go_enter Try.func44, Try.ntmps44
    go_wp2
    go_ret2
    exact ⟨_, by rw [HE.out.1]; rfl, by rw [HE.out.2]; exact OwnL.nil _ _ _ _ _, hb0⟩
  have d2 : decide (1048576 < t.Tag) = false := by simpa using g2
  have yes : (∀ c ∈ t.L, CavOk c) → tkE t = 0 ∧ ttL t = txts t.L := fun h => by
    have ok : TokOk t := ⟨⟨by rw [HL.out]; omega, cavsB_of h⟩, by omega, by omega⟩
    exact ⟨if_pos ok, if_pos ok⟩
  have NO := hid no
  have YES := hid yes
  clear no yes bT
  go_enter Try.func44, Try.ntmps44
  go_upto_region 3 with (fail)
  clear d1 d2 g1 g2 k2
  generalize (w.alloc (Obj.cells #[.int .u64 t.Root, .slice A2 n2 c2, .int .i64 t.Tag] 28)) = W0 at *
  go_wp2
  clear k1 v0
  go_loopw [4, 26] (fun tx i wr => ∃ (j : Nat) (tv : Value), j ≤ n2 ∧ i = .int .i64 j ∧ tx = tv ∧ Hid (∀ c ∈ t.L.take j, CavOk c) ∧ OwnL lay_Txt wr (w.heap.size + 1) (some (w.heap.size + 1)) 46 tv (txts (t.L.take j)) ∧ Below W0.heap.size W0 wr) (fun _ i _ => n2 - (intOf i).toNat)
  case atStart => exact ⟨0, _, Nat.zero_le _, rfl, rfl, hid (fun c hc => by simp at hc), OwnL.nil _ _ _ _ _, Below.refl _ _⟩
  case round =>
    obtain ⟨j, tx, hj, rfl, htx, HQ, hown, hbel⟩ := hrel
    replace htx := htx.symm
    subst htx
    have hwz := hbel.size
    have hz0 := HZ0.out
    by_cases hlt : j < n2
    · obtain ⟨b1, o1, hx1, rfl, hb1, t1, t2, t3, hw⟩ := cav_at hL hlt
      have hbw := bel_call hb0 hbel
      have q1 := (hbw.cell (p := ⟨b1, o1 + j * 3, none⟩) hb1).trans t1
      have q2 := (hbw.cell (p := ⟨b1, o1 + j * 3 + 1, none⟩) hb1).trans t2
      have q3 := (hbw.cell (p := ⟨b1, o1 + j * 3 + 2, none⟩) hb1).trans t3
      have HT := hid (txts_take hx1)
      have hba := bel_alloc (Below.refl wr.heap.size wr) (Obj.cells #[.int .i64 t.L[j].Kind, .int .u64 t.L[j].A, .int .u64 t.L[j].B] 30)
      have HPU := hid (cPut_any #[.int .i64 t.L[j].Kind, .int .u64 t.L[j].A, .int .u64 t.L[j].B] (fun _ => True) t.L[j] (wr.alloc (Obj.cells #[.int .i64 t.L[j].Kind, .int .u64 t.L[j].A, .int .u64 t.L[j].B] 30)) (rep_Caveat.2 ⟨rfl, hw⟩))
      have hal : (txts (t.L.take j)).length ≤ 16 := by unfold txts; simp; omega
      have hlen1 : ((txts (t.L.take j)).length + 1) * 24 ≤ 140737488355328 := by omega
      have hlen2 : (txts (t.L.take j)).length + 1 ≤ maxLen := by unfold maxLen; omega
      have hzb : (wr.alloc (Obj.cells #[.int .i64 t.L[j].Kind, .int .u64 t.L[j].A, .int .u64 t.L[j].B] 30)).heap.size = wr.heap.size + 1 := by simp
      have HZB := hid hzb
      clear t1 t2 t3 hzb hal
      go_wp2_with fail
      refine HPU.out.mono ?_
      rintro e w5 ⟨v5, rfl, ho5, hb5⟩
      obtain ⟨A5, n5, c5, rfl, hs5⟩ := ho5.slI
      have hb6 := bel_call hba hb5
      have ho6 := hown.keep hb6
      have hge : ∀ g, tx.ownBlock = some g → g < wr.heap.size := fun g hg => hown.lt hg
      have HGE := hid hge
      have hz5 := hb5.size
      rw [HZB.out] at hz5 hs5
      have HS5 := hid hs5
      clear hge hba hb5 ho5 hs5 HPU q1 q2 q3
      rcases cavE_is (c := t.L[j]) with ⟨hE, hok⟩ | ⟨hE, hok⟩
      · rw [hE]
        have HQ' := hid (show ∀ c ∈ t.L.take (j + 1), CavOk c from fun c hc => by
          rw [List.take_succ_eq_append_getElem hx1, List.mem_append, List.mem_singleton] at hc
          rcases hc with hc | rfl
          · exact HQ.out c hc
          · exact hok)
        clear hE hok
        go_wp2_with (at_builtin; go_must (refine wpList_pushL (w := w5) rfl (.tmp 38) (.tmp 40) 56 rfl (w.heap.size + 1) (some (w.heap.size + 1)) 46 _ 24 Try.underlying56 Try.infoTxt rfl (by decide) tx (txts (t.L.take j)) (putC t.L[j]) #[.slice A5 n5 c5] (From w5 (wr.heap.size + 1)) rfl rfl ho6 ⟨A5, n5, c5, rfl, HS5.out⟩ (fun b hb => ⟨⟨by have := hb.1; omega, hb.2.2⟩, hb.2.1, fun he => by have := HGE.out b he.symm; have := hb.1; omega⟩) (by omega) hlen1 hlen2 ?_; intro v7 w7 ho7 hx7; have hb7 : Below (w.heap.size + 1) w5 w7 := ho6.below hx7 (by omega)))
        go_roundw
        case rel => exact ⟨j + 1, _, by omega, by go_num, rfl, HQ', by rw [HT.out]; exact ho7, (bel_call hbel hb6).trans (by rw [hz0]; exact hb7)⟩
        case measure => simp [intOf]; omega
      · rw [hE]
        have HE := hid (NO.out fun k => hok (caps_all k.1 _ (List.getElem_mem hx1)))
        clear hE hok
        go_wp2
        go_ret2
        exact ⟨_, by rw [HE.out.1]; rfl, by rw [HE.out.2]; exact OwnL.nil _ _ _ _ _, bel_call hbw hb6⟩
    · have HTK := hid (show t.L.take j = t.L from List.take_of_length_le (by rw [HL.out]; omega))
      rw [HTK.out] at hown HQ
      have HE := hid (YES.out HQ.out)
      go_wp2
      go_ret2
      exact ⟨_, by rw [HE.out.1]; rfl, by rw [HE.out.2]; exact hown.lows (by omega) (by omega), bel_call hb0 hbel⟩

theorem token_in {w W : World} {t : Tok} {A : Option Addr} {n c : Nat} (h1 : (Lit.int .u64 t.Root).wf = true) (h2 : (Lit.int .i64 t.Tag).wf = true) (hL : Sl lay_Caveat w (· < w.heap.size) A n c t.L) (hb : Below w.heap.size w W) : lay_Token.rep W (· < W.heap.size) t #[.int .u64 t.Root, .slice A n c, .int .i64 t.Tag].toList := rep_Token.2 ⟨_, _, _, rfl, h1, h2, Sl.call hL hb⟩

set_option maxHeartbeats 1000000 in
theorem tCheck_any (s : Array Value) (t : Tok) (w : World) (h : lay_Token.rep w (· < w.heap.size) t s.toList) :
    Calls Try.prog 21 #[.agg s] w fun e w' => e = .returned (.int .i64 (tkE t)) ∧ Below w.heap.size w w' := by
  obtain ⟨A, n, c, rfl, h1, h2, hL⟩ := agg_Token h
  have hb0 : Below w.heap.size w (w.alloc (Obj.cells #[.int .u64 t.Root, .slice A n c, .int .i64 t.Tag] 28)) := bel_alloc (Below.refl _ _) _
  have P := hid (token_in h1 h2 hL hb0)
  clear h hL
  go_enter Try.func21, Try.ntmps21
  go_wp2_with fail
  refine (ttexts_any _ t _ P.out).mono ?_
  rintro e w1 ⟨v1, rfl, -, hb1⟩
  go_wp2
  go_ret
  exact ⟨rfl, bel_call hb0 hb1⟩

set_option maxRecDepth 100000 in
set_option maxHeartbeats 1000000 in
theorem equalCavs_any (A1 A2 : Option Addr) (n1 c1 n2 c2 : Nat) (S : Nat → Prop) (l o : List Cav) (w : World) (h1 : Sl lay_Caveat w S A1 n1 c1 l) (h2 : Sl lay_Caveat w S A2 n2 c2 o) :
    Calls Try.prog 49 #[.slice A1 n1 c1, .slice A2 n2 c2] w fun e w' => e = .returned (.bool (decide (l = o))) ∧ ∃ m, w' = w.drewN m := by
  have K1 := hid h1.len
  have K2 := hid h2.len
  have k1 := h1.cap
  have k2 := h2.cap
  unfold maxLen at k1 k2
  by_cases hl : n1 = n2
  · subst hl
    have hne : ((n1 : Int) != (n1 : Int)) = false := by simp
    go_enter Try.func49, Try.ntmps49
    go_wp2
    go_loopw [13] (fun i wr => ∃ j : Nat, j ≤ n1 ∧ i = .int .i64 j ∧ l.take j = o.take j ∧ ∃ m, wr = w.drewN m) (fun i _ => n1 - (intOf i).toNat)
    case atStart => exact ⟨0, Nat.zero_le _, rfl, rfl, 0, rfl⟩
    case round =>
      obtain ⟨j, hj, rfl, hpre, m, hwr⟩ := hrel
      have HP := hid hpre
      have HW := hid hwr
      clear hpre hwr
      by_cases hlt : j < n1
      · obtain ⟨b1, o1, hx1, rfl, -, t1, t2, t3, w1⟩ := cav_at h1 hlt
        obtain ⟨b2, o2, hx2, rfl, -, u1, u2, u3, w2⟩ := cav_at h2 hlt
        have hne2 := run_neCav w1 w2
        clear w1 w2
        have q1 : wr.cell? ⟨b1, o1 + j * 3, none⟩ = some (.int .i64 l[j].Kind) := by rw [HW.out]; exact t1
        have q2 : wr.cell? ⟨b1, o1 + j * 3 + 1, none⟩ = some (.int .u64 l[j].A) := by rw [HW.out]; exact t2
        have q3 : wr.cell? ⟨b1, o1 + j * 3 + 2, none⟩ = some (.int .u64 l[j].B) := by rw [HW.out]; exact t3
        have p1 : wr.cell? ⟨b2, o2 + j * 3, none⟩ = some (.int .i64 o[j].Kind) := by rw [HW.out]; exact u1
        have p2 : wr.cell? ⟨b2, o2 + j * 3 + 1, none⟩ = some (.int .u64 o[j].A) := by rw [HW.out]; exact u2
        have p3 : wr.cell? ⟨b2, o2 + j * 3 + 2, none⟩ = some (.int .u64 o[j].B) := by rw [HW.out]; exact u3
        clear t1 t2 t3 u1 u2 u3
        by_cases he : l[j] = o[j]
        · have HN := hid (take_sameV hx1 hx2 HP.out he)
          rw [decide_eq_true he] at hne2
          clear he
          go_wp2_with fail
          go_quiet (fail)
          go_wp2
          go_roundw
          case rel => exact ⟨j + 1, by omega, by go_num, HN.out, m + _, by rw [HW.out]; exact drew_add w m _⟩
          case measure => simp [intOf]; omega
        · have HN := hid (show decide (l = o) = false from decide_eq_false fun e => he (by simp only [e]))
          rw [decide_eq_false he] at hne2
          clear he
          go_wp2_with fail
          go_quiet (fail)
          go_wp2
          go_ret
          exact ⟨ret_bool HN.out.symm, m + _, by rw [HW.out]; exact drew_add w m _⟩
      · have HN := hid (show decide (l = o) = true from by
          have := HP.out
          rw [List.take_of_length_le (by rw [K1.out]; omega), List.take_of_length_le (by rw [K2.out]; omega)] at this
          exact decide_eq_true this)
        go_wp2
        go_ret
        exact ⟨ret_bool HN.out.symm, m, HW.out⟩
  · have hne : ((n1 : Int) != (n2 : Int)) = true := by simp; omega
    have HN := hid (show decide (l = o) = false from decide_eq_false fun e => by rw [e] at K1; have a1 := K1.out; have a2 := K2.out; omega)
    go_enter Try.func49, Try.ntmps49
    go_wp2
    go_ret
    exact ⟨ret_bool HN.out.symm, 0, rfl⟩
set_option maxHeartbeats 1000000 in
theorem tSame_any (s1 s2 : Array Value) (x y : Tok) (w : World) (h1 : lay_Token.rep w (· < w.heap.size) x s1.toList) (h2 : lay_Token.rep w (· < w.heap.size) y s2.toList) :
    Calls Try.prog 23 #[.agg s1, .agg s2] w fun e w' => e = .returned (.bool (decide (x = y))) ∧ Below w.heap.size w w' := by
  obtain ⟨A1, n1, c1, rfl, -, -, hV1⟩ := agg_Token h1
  obtain ⟨A2, n2, c2, rfl, -, -, hV2⟩ := agg_Token h2
  have hb0 : Below w.heap.size w ((w.alloc (Obj.cells #[.int .u64 x.Root, .slice A1 n1 c1, .int .i64 x.Tag] 28)).alloc (Obj.cells #[.int .u64 y.Root, .slice A2 n2 c2, .int .i64 y.Tag] 28)) := bel_alloc (bel_alloc (Below.refl _ _) _) _
  have HS := hid (equalCavs_any _ _ _ _ _ _ _ x.L y.L _ (Sl.call hV1 hb0) (Sl.call hV2 hb0))
  clear hV1 hV2 h1 h2
  by_cases hk : x.Root = y.Root
  · have hk' : (x.Root == y.Root) = true := by simpa using hk
    by_cases hu : x.Tag = y.Tag
    · have hu' : (x.Tag == y.Tag) = true := by simpa using hu
      have HD := hid (show decide (x = y) = decide (x.L = y.L) from by
        by_cases hv : x.L = y.L
        · rw [decide_eq_true (Tok.ext' hk hv hu), decide_eq_true hv]
        · rw [decide_eq_false hv, decide_eq_false fun e => hv (by rw [e])])
      clear hk hu
      go_enter Try.func23, Try.ntmps23
      go_wp2_with (go_at_call 49; go_must (refine HS.out.mono ?_; rintro e w' ⟨rfl, m, rfl⟩))
      go_ret
      exact ⟨ret_bool HD.out.symm, bel_drewN hb0 m⟩
    · have hu' : (x.Tag == y.Tag) = false := by simpa using hu
      have HD := hid (show decide (x = y) = false from decide_eq_false fun e => hu (by rw [e]))
      clear hk hu
      go_enter Try.func23, Try.ntmps23
      go_wp2
      go_ret
      exact ⟨ret_bool HD.out.symm, hb0⟩
  · have hk' : (x.Root == y.Root) = false := by simpa using hk
    have HD := hid (show decide (x = y) = false from decide_eq_false fun e => hk (by rw [e]))
    clear hk
    go_enter Try.func23, Try.ntmps23
    go_wp2
    go_ret
    exact ⟨ret_bool HD.out.symm, hb0⟩

end Go.Proofs.Ytgiapfenalhleaa
namespace Go.Proofs.Ytgiapfenalhleaa
open Go.RowKit Go.WalkArith

set_option maxRecDepth 100000 in
set_option maxHeartbeats 4000000 in
theorem tMint_any (s1 : Array Value) (l : List Trm) (root key : Int) (w : World) (g1 : lay_Arena.rep w (· < w.heap.size) l s1.toList) (hr : (Lit.int .u64 root).wf = true) (hk : (Lit.int .u64 key).wf = true) :
    Calls Try.prog 13 #[.agg s1, .int .u64 root, .int .u64 key] w fun e w' => ∃ v' vt, e = .returned (.tuple #[.agg #[v'], vt, .int .i64 (mtE l root key)]) ∧ OwnL lay_Term w' w.heap.size (some w.heap.size) 62 v' (mtL l root key) ∧ OwnT w' w.heap.size vt (mtT l root key) ∧ Below w.heap.size w w' := by
  obtain ⟨A1, n1, c1, rfl, hA⟩ := agg_Arena g1
  clear g1
  have hb0 : Below w.heap.size w (((w.alloc (Obj.cells #[.slice A1 n1 c1] 24)).alloc (Obj.cells #[.slice none 0 0] 24)).alloc (Obj.cells #[.int .u64 0, .slice none 0 0, .int .i64 0] 28)) := bel_alloc (bel_alloc (bel_alloc (Below.refl _ _) _) _) _
  have hB3 := fun (W : World) (h : Below (w.heap.size + 3) (((w.alloc (Obj.cells #[.slice A1 n1 c1] 24)).alloc (Obj.cells #[.slice none 0 0] 24)).alloc (Obj.cells #[.int .u64 0, .slice none 0 0, .int .i64 0] 28)) W) => three_blocks h
  have hz3 : (((w.alloc (Obj.cells #[.slice A1 n1 c1] 24)).alloc (Obj.cells #[.slice none 0 0] 24)).alloc (Obj.cells #[.int .u64 0, .slice none 0 0, .int .i64 0] 28)).heap.size = w.heap.size + 3 := by simp
  have PA := hid (fun (W : World) (h : Below w.heap.size w W) => (show lay_Arena.rep W (· < W.heap.size) l #[.slice A1 n1 c1].toList from rep_Arena.2 ⟨_, _, _, rfl, Sl.call hA h⟩))
  clear hA
  go_enter Try.func13, Try.ntmps13
  go_upto_region 1 with (fail)
  generalize (((w.alloc (Obj.cells #[.slice A1 n1 c1] 24)).alloc (Obj.cells #[.slice none 0 0] 24)).alloc (Obj.cells #[.int .u64 0, .slice none 0 0, .int .i64 0] 28)) = W0 at *
  obtain ⟨q0, q1, q2⟩ := hB3 W0 (Below.refl _ _)
  have HZ3 := hid hz3
  clear hz3 hB3
  have KK := hid (fun (W : World) (h : Below W0.heap.size W0 W) => (show W.cell? ⟨w.heap.size, 0, none⟩ = some (.slice A1 n1 c1) from cell_of_one ((h.block _ (lt_of_block q0)).trans q0)))
  obtain ⟨we, hwe⟩ : ∃ z, withE l (rootT key (oct root)) = z := ⟨_, rfl⟩
  obtain ⟨wi, hwi⟩ : ∃ z, withI l (rootT key (oct root)) = z := ⟨_, rfl⟩
  obtain ⟨wl, hwl⟩ : ∃ z, withL l (rootT key (oct root)) = z := ⟨_, rfl⟩
  have WE := hid hwe
  have WI := hid hwi
  have WL := hid hwl
  clear hwe hwi hwl
  go_cut [9, 10, 11] from 12 to 21 (fun p i e wc => ∃ g v, p = .pointer (some ⟨g, 0, none⟩) ∧ i = .int .i64 wi ∧ e = .int .i64 we ∧ Var1 wc g 24 v ∧ W0.heap.size ≤ g ∧ OwnL lay_Term wc W0.heap.size (some W0.heap.size) 62 v wl ∧ Below W0.heap.size W0 wc)
  case first =>
    have HH := Below.refl W0.heap.size W0
    have k0 := KK.out _ HH
    have hbR : Below W0.heap.size W0 (W0.alloc (Obj.cells #[.int .u64 root] 25)).drew := (bel_alloc HH _).drew
    have hbV : Below W0.heap.size W0 (W0.alloc (Obj.cells #[.slice none 0 0] 24)).drew := (bel_alloc HH _).drew
    have hbVR : Below W0.heap.size W0 ((W0.alloc (Obj.cells #[.slice none 0 0] 24)).alloc (Obj.cells #[.int .u64 root] 25)).drew := (bel_alloc (bel_alloc HH _) _).drew
    have hbRV : Below W0.heap.size W0 ((W0.alloc (Obj.cells #[.int .u64 root] 25)).alloc (Obj.cells #[.slice none 0 0] 24)).drew := (bel_alloc (bel_alloc HH _) _).drew
    have R1 := rd_nums1 (w := W0) (t := 25) hr
    have R2 := rd_nums1 (w := W0.alloc (Obj.cells #[.slice none 0 0] 24)) (t := 25) hr
    have R3 := R1.kept (bel_alloc (Below.refl _ _) (Obj.cells #[.slice none 0 0] 24))
    have P1 := hid (put_any _ _ _ _ _ (R1.kept (Below.refl _ _).drew) (by decide))
    have P2 := hid (put_any _ _ _ _ _ (R2.kept (Below.refl _ _).drew) (by decide))
    have P3 := hid (put_any _ _ _ _ _ (R3.kept (Below.refl _ _).drew) (by decide))
    rw [octs_one] at P1 P2 P3
    rw [show (W0.alloc (Obj.cells #[.slice none 0 0] 24)).heap.size = W0.heap.size + 1 from by simp] at P2
    have TV : Var1 ((W0.alloc (Obj.cells #[.slice none 0 0] 24)).alloc (Obj.cells #[.int .u64 root] 25)).drew W0.heap.size 24 (.slice none 0 0) := ((Var1.new W0 24 (.slice none 0 0)).call (bel_alloc (Below.refl _ _) _)).call (Below.refl _ _).drew
    have TW : Var1 ((W0.alloc (Obj.cells #[.int .u64 root] 25)).alloc (Obj.cells #[.slice none 0 0] 24)).drew (W0.heap.size + 1) 24 (.slice none 0 0) := by
      have := (Var1.new (W0.alloc (Obj.cells #[.int .u64 root] 25)) 24 (.slice none 0 0)).call (Below.refl _ _).drew
      simpa using this
    have HTV := hid TV
    have HTW := hid TW
    clear R1 R2 R3 TV TW
    go_region_held3 (fun W => W.cell? ⟨w.heap.size, 0, none⟩ = some (.slice A1 n1 c1))
      (first | exact KK.out _ HH | exact KK.out _ HH.drew | exact KK.out _ hbR | exact KK.out _ hbV | exact KK.out _ hbVR | exact KK.out _ hbRV | exact KK.out _ HBB | exact KK.out _ (bel_alloc HBB _) | exact KK.out _ (HBB.setCell (p := ⟨W0.heap.size, 0, none⟩) (Nat.le_refl _) _) | exact KK.out _ (HBB.setCell (p := ⟨W0.heap.size + 1, 0, none⟩) (Nat.le_succ _) _) | exact KK.out _ (HBB.setCell (p := ⟨wA.heap.size, 0, none⟩) HBA.size _) | exact KK.out _ HBA | exact KK.out _ (bel_alloc HBA _) | go_keep)
      (first
        | (go_at_call 34; (with_reducible refine P1.out.mono ?_); rintro e wA ⟨vA, rfl, hoA, hbA⟩; obtain ⟨A7, n7, c7, rfl, hs7⟩ := hoA.formN; have HBA := bel_call hbR hbA)
        | (go_at_call 34; (with_reducible refine P2.out.mono ?_); rintro e wA ⟨vA, rfl, hoA, hbA⟩; obtain ⟨A7, n7, c7, rfl, hs7⟩ := hoA.formN; have HBA := bel_call hbVR hbA; have TA := HTV.out.call hbA; have tag := TA.lt)
        | (go_at_call 34; (with_reducible refine P3.out.mono ?_); rintro e wA ⟨vA, rfl, hoA, hbA⟩; obtain ⟨A7, n7, c7, rfl, hs7⟩ := hoA.formN; have HBA := bel_call hbRV hbA; have TA := HTW.out.call hbA; have tag := TA.lt)
        | (go_at_call 33; (refine (aRoot_any _ l key _ _ _ (oct root) wA (PA.out _ (bel_call hb0 HBA)) hk hs7).mono ?_); rw [WI.out, WE.out, WL.out]; rintro e wB ⟨vB, rfl, hoB, hbB⟩; obtain ⟨A8, n8, c8, rfl, hs8⟩ := hoB.read; have HBB := bel_call HBA hbB; have TB := TA.call hbB; have tb0 := TB.c0; have tbf := free_of_one TB)
        | (go_at_call 33; (refine (aRoot_any _ l key _ _ _ (oct root) wA (PA.out _ (bel_call hb0 HBA)) hk hs7).mono ?_); rw [WI.out, WE.out, WL.out]; rintro e wB ⟨vB, rfl, hoB, hbB⟩; obtain ⟨A8, n8, c8, rfl, hs8⟩ := hoB.read; have HBB := bel_call HBA hbB)
        | (go_at_call 33; (refine (aRoot_any _ l key _ _ _ (oct root) _ (PA.out _ (bel_call hb0 (bel_alloc HBA _))) hk (hs7.kept (bel_alloc (Below.refl _ _) _))).mono ?_); rw [WI.out, WE.out, WL.out]; rintro e wB ⟨vB, rfl, hoB, hbB⟩; obtain ⟨A8, n8, c8, rfl, hs8⟩ := hoB.read; have HBB := bel_call (bel_alloc HBA _) hbB; have TB := (Var1.new wA 24 (.slice none 0 0)).call hbB; have tb0 := TB.c0; have tbf := free_of_one TB))
    all_goals
      go_wp2_with fail
      go_meet
      case rel =>
        first
          | exact ⟨_, _, rfl, rfl, rfl, Var1.new _ _ _, HBB.size, (hoB.lows HBA.size HBA.size).keep (bel_alloc (Below.refl _ _) _), bel_alloc HBB _⟩
          | exact ⟨_, _, rfl, rfl, rfl, TB.set _, Nat.le_refl _, (hoB.setLow tag tag 0 _).lows HBA.size HBA.size, HBB.setCell (p := ⟨_, 0, none⟩) (Nat.le_refl _) _⟩
          | exact ⟨_, _, rfl, rfl, rfl, TB.set _, Nat.le_succ _, (hoB.setLow tag tag 0 _).lows HBA.size HBA.size, HBB.setCell (p := ⟨_, 0, none⟩) (Nat.le_succ _) _⟩
          | exact ⟨_, _, rfl, rfl, rfl, TB.set _, HBA.size, (hoB.setLow (by simp) (by simp) 0 _).lows (bel_alloc HBA _).size (bel_alloc HBA _).size, HBB.setCell (p := ⟨_, 0, none⟩) HBA.size _⟩
  case rest =>
  obtain ⟨g, v, rfl, rfl, rfl, TB, hg, ho, hb⟩ := hcut
  obtain ⟨A8, n8, c8, rfl, hs8⟩ := ho.read
  have V1 : Var1 wc (w.heap.size + 1) 24 (.slice none 0 0) := (hb.block _ (lt_of_block q1)).trans q1
  have V2 : Var3 wc (w.heap.size + 1 + 1) 28 (.int .u64 0) (.slice none 0 0) (.int .i64 0) := (hb.block _ (lt_of_block q2)).trans q2
  have hgz : w.heap.size + 3 ≤ g := by rw [← HZ3.out]; exact hg
  have HB := bel_call hb0 hb
  have a0 := V1.c0
  have af := V1.f
  have t0 := V2.c0
  have t1 := V2.c1
  have t2 := V2.c2
  have f0 := V2.f 0
  have f1 := V2.f 1
  have f2 := V2.f 2
  have z0 := TB.c0
  clear q0 q1 q2 hb0 hb hg
  by_cases he : we = 0
  · subst he
    have HT := hid (show mtT l root key = ⟨root, [], wi⟩ from by unfold mtT mtE; rw [WE.out, if_pos rfl, WI.out])
    have V1' := hid (((((V1.set (.slice A8 n8 c8)).setOther (b := w.heap.size + 1 + 1) (by omega) 0 (.int .u64 root)).setOther (b := w.heap.size + 1 + 1) (by omega) 1 (.slice none 0 0)).setOther (b := w.heap.size + 1 + 1) (by omega) 2 (.int .i64 wi)))
    have V2' := hid ((V2.setOther (b := w.heap.size + 1) (by omega) 0 (.slice A8 n8 c8)).set (.int .u64 root) (.slice none 0 0) (.int .i64 wi))
    have HO := hid (((((ho.setLow (b := w.heap.size + 1) (by rw [HZ3.out]; omega) (by rw [HZ3.out]; omega) 0 (.slice A8 n8 c8)).setLow (b := w.heap.size + 1 + 1) (by rw [HZ3.out]; omega) (by rw [HZ3.out]; omega) 0 (.int .u64 root)).setLow (b := w.heap.size + 1 + 1) (by rw [HZ3.out]; omega) (by rw [HZ3.out]; omega) 1 (.slice none 0 0)).setLow (b := w.heap.size + 1 + 1) (by rw [HZ3.out]; omega) (by rw [HZ3.out]; omega) 2 (.int .i64 wi)).lows (base' := w.heap.size) (lo' := w.heap.size) (by rw [HZ3.out]; omega) (by rw [HZ3.out]; omega))
    have HBE := hid ((((HB.setCell (p := ⟨w.heap.size + 1, 0, none⟩) (by show w.heap.size ≤ w.heap.size + 1; omega) (.slice A8 n8 c8)).setCell (p := ⟨w.heap.size + 1 + 1, 0, none⟩) (by show w.heap.size ≤ w.heap.size + 1 + 1; omega) (.int .u64 root)).setCell (p := ⟨w.heap.size + 1 + 1, 1, none⟩) (by show w.heap.size ≤ w.heap.size + 1 + 1; omega) (.slice none 0 0)).setCell (p := ⟨w.heap.size + 1 + 1, 2, none⟩) (by show w.heap.size ≤ w.heap.size + 1 + 1; omega) (.int .i64 wi))
    clear V1 V2 TB ho HB
    go_wp2
    refine bodyPost_ret_by (results_cct rfl _ _ (w.heap.size + 1) 0 rfl [.slice A8 n8 c8] _ (range1 V1'.out.c0) Try.underlying24 rfl (by kernel_rfl) (w.heap.size + 1 + 1) 0 rfl [.int .u64 root, .slice none 0 0, .int .i64 wi] _ (range3 V2'.out.c0 V2'.out.c1 V2'.out.c2) Try.underlying28 rfl (by kernel_rfl)) rfl ?_
    exact ⟨_, _, by unfold mtE; rw [WE.out]; rfl, by unfold mtL; rw [WL.out]; exact HO.out, by rw [HT.out]; exact ⟨_, rfl, OwnL.nil _ _ _ _ _⟩, HBE.out⟩
  · have HT := hid (show mtT l root key = zeroT from by unfold mtT mtE; rw [WE.out, if_neg he])
    have HWL := hid (show wl = [] from by rw [← WL.out]; unfold withL; rw [if_neg (by rw [WE.out]; exact he)])
    have hne : (we != 0) = true := by simpa using he
    have V1' := hid (((((V1.set (.slice none 0 0)).setOther (b := w.heap.size + 1 + 1) (by omega) 0 (.int .u64 0)).setOther (b := w.heap.size + 1 + 1) (by omega) 1 (.slice none 0 0)).setOther (b := w.heap.size + 1 + 1) (by omega) 2 (.int .i64 0)))
    have V2' := hid ((V2.setOther (b := w.heap.size + 1) (by omega) 0 (.slice none 0 0)).set (.int .u64 0) (.slice none 0 0) (.int .i64 0))
    have HBE := hid ((((HB.setCell (p := ⟨w.heap.size + 1, 0, none⟩) (by show w.heap.size ≤ w.heap.size + 1; omega) (.slice none 0 0)).setCell (p := ⟨w.heap.size + 1 + 1, 0, none⟩) (by show w.heap.size ≤ w.heap.size + 1 + 1; omega) (.int .u64 0)).setCell (p := ⟨w.heap.size + 1 + 1, 1, none⟩) (by show w.heap.size ≤ w.heap.size + 1 + 1; omega) (.slice none 0 0)).setCell (p := ⟨w.heap.size + 1 + 1, 2, none⟩) (by show w.heap.size ≤ w.heap.size + 1 + 1; omega) (.int .i64 0))
    clear V1 V2 TB ho HB he
    go_wp2
    refine bodyPost_ret_by (results_cct rfl _ _ (w.heap.size + 1) 0 rfl [.slice none 0 0] _ (range1 V1'.out.c0) Try.underlying24 rfl (by kernel_rfl) (w.heap.size + 1 + 1) 0 rfl [.int .u64 0, .slice none 0 0, .int .i64 0] _ (range3 V2'.out.c0 V2'.out.c1 V2'.out.c2) Try.underlying28 rfl (by kernel_rfl)) rfl ?_
    exact ⟨_, _, by unfold mtE; rw [WE.out]; rfl, by unfold mtL; rw [WL.out, HWL.out]; exact OwnL.nil _ _ _ _ _, by rw [HT.out]; exact ⟨_, rfl, OwnL.nil _ _ _ _ _⟩, HBE.out⟩
end Go.Proofs.Ytgiapfenalhleaa
namespace Go.Proofs.Ytgiapfenalhleaa
open Go.RowKit Go.WalkArith

/-- The type of a token's record, by its place. -/
def tyAt (i : Nat) : Int := if i < 2 then 1 + (i : Int) else 16 + ((i : Int) - 2)
set_option maxHeartbeats 1000000 in
theorem tyAt_any (i b : Nat) (w : World) (hc : w.cell? ⟨b, 0, none⟩ = some (.int .i64 2)) (hi : i ≤ 1000) :
    Calls Try.prog 78 #[.int .i64 (i : Int), .pointer (some ⟨b, 0, none⟩)] w fun e w' => e = .returned (.int .u64 (tyAt i)) ∧ w = w' := by
  by_cases h : i < 2
  · have HE := hid (show tyAt i = 1 + (i : Int) from if_pos h)
    have d : decide ((i : Int) < 2) = true := decide_eq_true (by omega)
    have w1 : IntKind.u64.wrap (i : Int) = (i : Int) := IntWalk.u64_in _ (by omega)
    have w2 : IntKind.u64.wrap (1 + (i : Int)) = 1 + (i : Int) := IntWalk.u64_in _ (by omega)
    go_enter Try.func78, Try.ntmps78
    go_wp2
    go_ret
    exact ⟨ret_num HE.out.symm, rfl⟩
  · have HE := hid (show tyAt i = 16 + ((i : Int) - 2) from if_neg h)
    have d : decide ((i : Int) < 2) = false := decide_eq_false (by omega)
    have w0 : IntKind.i64.wrap ((i : Int) - 2) = (i : Int) - 2 := IntWalk.i64_in _ (by omega)
    have w1 : IntKind.u64.wrap ((i : Int) - 2) = (i : Int) - 2 := IntWalk.u64_in _ (by omega)
    have w2 : IntKind.u64.wrap (16 + ((i : Int) - 2)) = 16 + ((i : Int) - 2) := IntWalk.u64_in _ (by omega)
    go_enter Try.func78, Try.ntmps78
    go_wp2
    go_ret
    exact ⟨ret_num HE.out.symm, rfl⟩
abbrev tyF (b : Nat) : Value := .func (.func 78) #[] #[.pointer (some ⟨b, 0, none⟩)]
set_option maxHeartbeats 1000000 in
theorem types_any (w : World) :
    Calls Try.prog 50 #[.int .i64 2] w fun e w' => e = .returned (tyF w.heap.size) ∧ w' = w.alloc (Obj.cells #[.int .i64 2] 3) := by
  go_enter Try.func50, Try.ntmps50
  go_wp2
  go_ret
  exact ⟨rfl, rfl⟩

theorem find_errs {l : List Trm} {key : Int} {t : Tok} : (ArOk l ∧ (findE l key (oct t.Root) (txts t.L) = 0 ∨ findE l key (oct t.Root) (txts t.L) = 5)) ∨ (¬ ArOk l ∧ findE l key (oct t.Root) (txts t.L) = 1) := by
  unfold findE
  by_cases h : ArOk l
  · refine .inl ⟨h, ?_⟩
    have hs : shortT (oct t.Root :: txts t.L) := fun x hx => by
      rw [List.mem_cons] at hx
      rcases hx with rfl | hx
      · have := oct_len9 t.Root; omega
      · unfold txts at hx
        rw [List.mem_map] at hx
        obtain ⟨c, -, rfl⟩ := hx
        have := putC_len8 c; omega
    rw [if_pos h, if_pos hs]
    by_cases q : 0 ≤ goTo l (seat l (rootT key (oct t.Root))) (txts t.L)
    · exact .inl (if_pos q)
    · exact .inr (if_neg q)
  · exact .inr ⟨h, if_neg h⟩

set_option maxRecDepth 100000 in
set_option maxHeartbeats 4000000 in
theorem tVerify_any (s1 s2 : Array Value) (l : List Trm) (key : Int) (t : Tok) (w : World) (g1 : lay_Arena.rep w (· < w.heap.size) l s1.toList) (hk : (Lit.int .u64 key).wf = true) (g2 : lay_Token.rep w (· < w.heap.size) t s2.toList) :
    Calls Try.prog 17 #[.agg s1, .int .u64 key, .agg s2] w fun e w' => e = .returned (.tuple #[.bool (vfV l key t), .int .i64 (vfE l t)]) ∧ Below w.heap.size w w' := by
  obtain ⟨A1, n1, c1, rfl, hA⟩ := agg_Arena g1
  obtain ⟨A2, n2, c2, rfl, hR, hT, hL⟩ := agg_Token g2
  clear g1 g2
  have HL := hid hL.len
  have hcap := hL.cap
  unfold maxLen at hcap
  have hb0 : Below w.heap.size w ((w.alloc (Obj.cells #[.slice A1 n1 c1] 24)).alloc (Obj.cells #[.int .u64 t.Root, .slice A2 n2 c2, .int .i64 t.Tag] 28)) := bel_alloc (bel_alloc (Below.refl _ _) _) _
  have v0 : Var1 ((w.alloc (Obj.cells #[.slice A1 n1 c1] 24)).alloc (Obj.cells #[.int .u64 t.Root, .slice A2 n2 c2, .int .i64 t.Tag] 28)) w.heap.size 24 (.slice A1 n1 c1) := heap_alloc2_old _ _ _
  have v1 : Var3 ((w.alloc (Obj.cells #[.slice A1 n1 c1] 24)).alloc (Obj.cells #[.int .u64 t.Root, .slice A2 n2 c2, .int .i64 t.Tag] 28)) (w.heap.size + 1) 28 (.int .u64 t.Root) (.slice A2 n2 c2) (.int .i64 t.Tag) := alloc2_new _ _ _
  have hz0 : ((w.alloc (Obj.cells #[.slice A1 n1 c1] 24)).alloc (Obj.cells #[.int .u64 t.Root, .slice A2 n2 c2, .int .i64 t.Tag] 28)).heap.size = w.heap.size + 2 := by simp
  have PA := hid (fun (W : World) (h : Below w.heap.size w W) => (show lay_Arena.rep W (· < W.heap.size) l #[.slice A1 n1 c1].toList from rep_Arena.2 ⟨_, _, _, rfl, Sl.call hA h⟩))
  have PT := hid (fun (W : World) (h : Below w.heap.size w W) => (show lay_Token.rep W (· < W.heap.size) t #[.int .u64 t.Root, .slice A2 n2 c2, .int .i64 t.Tag].toList from rep_Token.2 ⟨_, _, _, rfl, hR, hT, Sl.call hL h⟩))
  clear hA
  go_enter Try.func17, Try.ntmps17
  go_wp2_with fail
  generalize ((w.alloc (Obj.cells #[.slice A1 n1 c1] 24)).alloc (Obj.cells #[.int .u64 t.Root, .slice A2 n2 c2, .int .i64 t.Tag] 28)) = W0 at *
  have KK := hid (fun (W : World) (h : Below W0.heap.size W0 W) => (show W.cell? ⟨w.heap.size, 0, none⟩ = some (.slice A1 n1 c1) ∧ W.cell? ⟨w.heap.size + 1, 0, none⟩ = some (.int .u64 t.Root) ∧ W.cell? ⟨w.heap.size + 1, 1, none⟩ = some (.slice A2 n2 c2) ∧ W.cell? ⟨w.heap.size + 1, 2, none⟩ = some (.int .i64 t.Tag) from ⟨(v0.call h).c0, (v1.call h).c0, (v1.call h).c1, (v1.call h).c2⟩))
  clear v0 v1
  refine (ttexts_any _ t W0 (PT.out _ hb0)).mono ?_
  rintro e w1 ⟨vl, rfl, hol, hb1⟩
  obtain ⟨A6, n6, c6, rfl, hs6⟩ := hol.read
  clear hol
  rcases tk_is (t := t) with ⟨hE, hok⟩ | ⟨hE, hok⟩
  rotate_left
  · rw [hE]
    have HN := hid (show vfE l t = 1 ∧ vfV l key t = false from by
      rcases vf_is (l := l) (key := key) (t := t) with ⟨-, -, k⟩ | ⟨a, b, -⟩
      · exact absurd k.1 hok
      · exact ⟨a, b⟩)
    clear hE hok
    go_wp2
    go_ret2
    exact ⟨by rw [HN.out.1, HN.out.2]; rfl, bel_call hb0 hb1⟩
  rw [hE]
  rw [show ttL t = txts t.L from if_pos hok] at hs6
  have hn6 : n6 ≤ 1000 := by rw [← hs6.len]; unfold txts; rw [List.length_map]; have := hok.1.1; omega
  have HS6 := hid hs6
  clear hE hs6
  obtain ⟨fi, hfi⟩ : ∃ z, findI l key (oct t.Root) (txts t.L) = z := ⟨_, rfl⟩
  obtain ⟨fe, hfe⟩ : ∃ z, findE l key (oct t.Root) (txts t.L) = z := ⟨_, rfl⟩
  have HFE := find_errs (l := l) (key := key) (t := t)
  rw [hfe] at HFE
  have HRB := hid (show rightB l key t = decide (fe = 0 ∧ fi = t.Tag) from by unfold rightB; rw [hfi, hfe])
  have HX := hid HFE
  have HOK := hid hok
  have FI := hid hfi
  have FE := hid hfe
  clear hfi hfe HFE hok
  have KW := hid (fun (W : World) (h : Below w1.heap.size w1 W) => KK.out _ (bel_call hb1 h))
  have HH := Below.refl w1.heap.size w1
  obtain ⟨k0, k1, k2, k3⟩ := KK.out _ hb1
  have HPU := hid (put_any _ _ _ _ _ (rd_nums1 (w := w1.drewN 1) (t := 25) hR) (by decide))
  rw [octs_one] at HPU
  have hbw := bel_call hb0 hb1
  have hbx : Below w1.heap.size w1 ((w1.drewN 1).alloc (Obj.cells #[.int .u64 t.Root] 25)) := bel_alloc (bel_drewN (Below.refl _ _) 1) _
  go_upto_region 4 with (fail)
  go_region_held3 (fun W => W.cell? ⟨w.heap.size, 0, none⟩ = some (.slice A1 n1 c1) ∧ W.cell? ⟨w.heap.size + 1, 0, none⟩ = some (.int .u64 t.Root) ∧ W.cell? ⟨w.heap.size + 1, 1, none⟩ = some (.slice A2 n2 c2) ∧ W.cell? ⟨w.heap.size + 1, 2, none⟩ = some (.int .i64 t.Tag))
    (first | exact KW.out _ HH | exact KW.out _ HH.drew | exact KW.out _ hbx | exact KW.out _ HBA | exact KW.out _ HBB | go_keep)
    (first
      | (go_at_call 34; go_must (refine HPU.out.mono ?_; rintro e wA ⟨vA, rfl, hoA, hbA⟩; obtain ⟨A7, n7, c7, rfl, hs7⟩ := hoA.formN; have HBA := bel_call hbx hbA))
      | (go_at_call 45; go_must (refine (aFind_any _ l key _ _ _ (oct t.Root) _ _ _ (txts t.L) wA (PA.out _ (bel_call hbw HBA)) hk hs7.sl (Sl.call HS6.out HBA) hn6).mono ?_; rw [FI.out, FE.out]; rintro e wB ⟨rfl, hbB⟩; have HBB := bel_call HBA hbB)))
  all_goals
    have HBE := hid (bel_call hbw HBB)
    obtain ⟨i0, i1, i2, i3⟩ := KW.out _ HBB
    clear k0 k1 k2 k3
    rcases HX.out with ⟨har, h0 | h5⟩ | ⟨har, h1⟩
    · have HR := hid (show vfE l t = 0 ∧ vfV l key t = (fi == t.Tag) from by
        rcases vf_is (l := l) (key := key) (t := t) with ⟨a, b, -⟩ | ⟨-, -, k⟩
        · refine ⟨a, ?_⟩
          rw [b, HRB.out, h0, Bool.eq_iff_iff]
          simp
        · exact absurd ⟨HOK.out, har⟩ k)
      clear har
      subst h0
      generalize t.Tag = tg at *
      go_wp2
      go_ret2
      exact ⟨by rw [HR.out.1, HR.out.2]; rfl, HBE.out⟩
    · have HR := hid (show vfE l t = 0 ∧ vfV l key t = false from by
        rcases vf_is (l := l) (key := key) (t := t) with ⟨a, b, -⟩ | ⟨-, -, k⟩
        · refine ⟨a, ?_⟩
          rw [b, HRB.out, h5]
          exact decide_eq_false fun k => absurd k.1 (by decide)
        · exact absurd ⟨HOK.out, har⟩ k)
      clear har
      subst h5
      go_wp2
      go_ret2
      exact ⟨by rw [HR.out.1, HR.out.2]; rfl, HBE.out⟩
    · have HR := hid (show vfE l t = 1 ∧ vfV l key t = false from by
        rcases vf_is (l := l) (key := key) (t := t) with ⟨-, -, k⟩ | ⟨a, b, -⟩
        · exact absurd k.2 har
        · exact ⟨a, b⟩)
      clear har
      subst h1
      go_wp2
      go_ret2
      exact ⟨by rw [HR.out.1, HR.out.2]; rfl, HBE.out⟩
end Go.Proofs.Ytgiapfenalhleaa
namespace Go.Proofs.Ytgiapfenalhleaa
open Go.RowKit Go.WalkArith

set_option maxHeartbeats 1000000 in
/-- slices.Clone, of caveats. -/
theorem cloneC_any (A : Option Addr) (n c : Nat) (l : List Cav) (w : World) (h : Sl lay_Caveat w (· < w.heap.size) A n c l) (hn : n ≤ 1048576) :
    Calls Try.prog 40 #[.slice A n c] w fun e w' => ∃ v', e = .returned v' ∧ OwnL lay_Caveat w' w.heap.size none 30 v' l ∧ Below w.heap.size w w' := by
  have hnil := fun W => run_is_nil (P := Try.prog) W 26 30 A n c Try.underlying26
  cases A with
  | none =>
    have hc := h.no rfl
    have hn0 : n = 0 := by have := h.cap; omega
    subst hc hn0
    have hx : l = [] := List.eq_nil_of_length_eq_zero h.len
    subst hx
    go_enter Try.func40, Try.ntmps40
    go_wp2
    go_ret
    exact ⟨_, rfl, OwnL.nil _ _ _ _ _, Below.refl _ _⟩
  | some a =>
    have hb0 : Below w.heap.size w (w.alloc (Obj.cells #[] 30)) := bel_alloc (Below.refl _ _) _
    have HS := hid (h.keep fun _ hp => hb0.cell hp)
    go_enter Try.func40, Try.ntmps40
    go_wp2_with (at_builtin; go_must (refine wpList_catL rfl _ _ 26 rfl w.heap.size none 30 _ 24 Try.underlying26 Try.infoCav7 rfl (by decide) (.slice (some ⟨w.heap.size, 0, none⟩) 0 0) [] l (· < w.heap.size) (some a) n c rfl rfl (OwnL.lit0 lay_Caveat _ _ none) HS.out (fun b hb => ⟨trivial, Nat.lt_of_lt_of_le hb hb0.size, fun he => by simp [Value.ownBlock] at he; omega⟩) (by simp) (by simp; omega) (by unfold maxLen; simp; omega) ?_; intro v3 w3 hown3 hext3))
    go_ret
    simp only [List.nil_append] at hown3
    exact ⟨_, rfl, hown3, hb0.trans ((OwnL.lit0 lay_Caveat w _ none).below hext3 (by simp))⟩
theorem next_bad {l : List Trm} {u : Int} {x : List Int} (h : ¬ ArOk l) : nextE l u x = 1 := by
  unfold nextE withE
  split
  · rfl
  · exact if_neg fun k => h k.1

set_option maxRecDepth 100000 in
set_option maxHeartbeats 8000000 in
theorem tBind_any (s1 s2 s3 : Array Value) (l : List Trm) (t : Tok) (c : Cav) (w : World) (g1 : lay_Arena.rep w (· < w.heap.size) l s1.toList) (g2 : lay_Token.rep w (· < w.heap.size) t s2.toList) (g3 : lay_Caveat.rep w (fun _ => True) c s3.toList) :
    Calls Try.prog 15 #[.agg s1, .agg s2, .agg s3] w fun e w' => ∃ v' vt, e = .returned (.tuple #[.agg #[v'], vt, .int .i64 (bdE l t c)]) ∧ OwnL lay_Term w' w.heap.size (some w.heap.size) 62 v' (bdL l t c) ∧ OwnT w' w.heap.size vt (bdT l t c) ∧ Below w.heap.size w w' := by
  obtain ⟨A1, n1, c1, rfl, hA⟩ := agg_Arena g1
  obtain ⟨A2, n2, c2, rfl, hR, hT, hL⟩ := agg_Token g2
  obtain ⟨rfl, hC⟩ := agg_Caveat g3
  clear g1 g2 g3
  have HL := hid hL.len
  have hcap := hL.cap
  unfold maxLen at hcap
  have hb0 : Below w.heap.size w (((((w.alloc (Obj.cells #[.slice A1 n1 c1] 24)).alloc (Obj.cells #[.int .u64 t.Root, .slice A2 n2 c2, .int .i64 t.Tag] 28)).alloc (Obj.cells #[.int .i64 c.Kind, .int .u64 c.A, .int .u64 c.B] 30)).alloc (Obj.cells #[.slice none 0 0] 24)).alloc (Obj.cells #[.int .u64 0, .slice none 0 0, .int .i64 0] 28)) := bel_alloc (bel_alloc (bel_alloc (bel_alloc (bel_alloc (Below.refl _ _) _) _) _) _) _
  have hv := five_vars (w := w) (a := Obj.cells #[.slice A1 n1 c1] 24) (b := Obj.cells #[.int .u64 t.Root, .slice A2 n2 c2, .int .i64 t.Tag] 28) (c := Obj.cells #[.int .i64 c.Kind, .int .u64 c.A, .int .u64 c.B] 30) (d := Obj.cells #[.slice none 0 0] 24) (e := Obj.cells #[.int .u64 0, .slice none 0 0, .int .i64 0] 28)
  have v0 : Var1 (((((w.alloc (Obj.cells #[.slice A1 n1 c1] 24)).alloc (Obj.cells #[.int .u64 t.Root, .slice A2 n2 c2, .int .i64 t.Tag] 28)).alloc (Obj.cells #[.int .i64 c.Kind, .int .u64 c.A, .int .u64 c.B] 30)).alloc (Obj.cells #[.slice none 0 0] 24)).alloc (Obj.cells #[.int .u64 0, .slice none 0 0, .int .i64 0] 28)) w.heap.size 24 (.slice A1 n1 c1) := hv.1
  have v1 : Var3 (((((w.alloc (Obj.cells #[.slice A1 n1 c1] 24)).alloc (Obj.cells #[.int .u64 t.Root, .slice A2 n2 c2, .int .i64 t.Tag] 28)).alloc (Obj.cells #[.int .i64 c.Kind, .int .u64 c.A, .int .u64 c.B] 30)).alloc (Obj.cells #[.slice none 0 0] 24)).alloc (Obj.cells #[.int .u64 0, .slice none 0 0, .int .i64 0] 28)) (w.heap.size + 1) 28 _ _ _ := hv.2.1
  have v2 : Var3 (((((w.alloc (Obj.cells #[.slice A1 n1 c1] 24)).alloc (Obj.cells #[.int .u64 t.Root, .slice A2 n2 c2, .int .i64 t.Tag] 28)).alloc (Obj.cells #[.int .i64 c.Kind, .int .u64 c.A, .int .u64 c.B] 30)).alloc (Obj.cells #[.slice none 0 0] 24)).alloc (Obj.cells #[.int .u64 0, .slice none 0 0, .int .i64 0] 28)) (w.heap.size + 1 + 1) 30 _ _ _ := hv.2.2.1
  have v3 : Var1 (((((w.alloc (Obj.cells #[.slice A1 n1 c1] 24)).alloc (Obj.cells #[.int .u64 t.Root, .slice A2 n2 c2, .int .i64 t.Tag] 28)).alloc (Obj.cells #[.int .i64 c.Kind, .int .u64 c.A, .int .u64 c.B] 30)).alloc (Obj.cells #[.slice none 0 0] 24)).alloc (Obj.cells #[.int .u64 0, .slice none 0 0, .int .i64 0] 28)) (w.heap.size + 1 + 1 + 1) 24 (.slice none 0 0) := hv.2.2.2.1
  have v4 : Var3 (((((w.alloc (Obj.cells #[.slice A1 n1 c1] 24)).alloc (Obj.cells #[.int .u64 t.Root, .slice A2 n2 c2, .int .i64 t.Tag] 28)).alloc (Obj.cells #[.int .i64 c.Kind, .int .u64 c.A, .int .u64 c.B] 30)).alloc (Obj.cells #[.slice none 0 0] 24)).alloc (Obj.cells #[.int .u64 0, .slice none 0 0, .int .i64 0] 28)) (w.heap.size + 1 + 1 + 1 + 1) 28 (.int .u64 0) (.slice none 0 0) (.int .i64 0) := hv.2.2.2.2
  have hz5 : (((((w.alloc (Obj.cells #[.slice A1 n1 c1] 24)).alloc (Obj.cells #[.int .u64 t.Root, .slice A2 n2 c2, .int .i64 t.Tag] 28)).alloc (Obj.cells #[.int .i64 c.Kind, .int .u64 c.A, .int .u64 c.B] 30)).alloc (Obj.cells #[.slice none 0 0] 24)).alloc (Obj.cells #[.int .u64 0, .slice none 0 0, .int .i64 0] 28)).heap.size = w.heap.size + 5 := by simp
  have HZ5 := hid hz5
  clear hv hz5
  have PA := hid (fun (W : World) (h : Below w.heap.size w W) => (show lay_Arena.rep W (· < W.heap.size) l #[.slice A1 n1 c1].toList from rep_Arena.2 ⟨_, _, _, rfl, Sl.call hA h⟩))
  have PT := hid (fun (W : World) (h : Below w.heap.size w W) => (show lay_Token.rep W (· < W.heap.size) t #[.int .u64 t.Root, .slice A2 n2 c2, .int .i64 t.Tag].toList from rep_Token.2 ⟨_, _, _, rfl, hR, hT, Sl.call hL h⟩))
  have PL := hid (fun (W : World) (h : Below w.heap.size w W) => Sl.call hL h)
  have PC := hid (fun (W : World) (S : Nat → Prop) => (show lay_Caveat.rep W S c #[.int .i64 c.Kind, .int .u64 c.A, .int .u64 c.B].toList from rep_Caveat.2 ⟨rfl, hC⟩))
  have hlt := putC_len7 c
  clear hA hL
  go_enter Try.func15, Try.ntmps15
  go_wp2_with fail
  generalize (((((w.alloc (Obj.cells #[.slice A1 n1 c1] 24)).alloc (Obj.cells #[.int .u64 t.Root, .slice A2 n2 c2, .int .i64 t.Tag] 28)).alloc (Obj.cells #[.int .i64 c.Kind, .int .u64 c.A, .int .u64 c.B] 30)).alloc (Obj.cells #[.slice none 0 0] 24)).alloc (Obj.cells #[.int .u64 0, .slice none 0 0, .int .i64 0] 28)) = W0 at *
  have KK := hid (fun (W : World) (h : Below W0.heap.size W0 W) => (show W.cell? ⟨w.heap.size, 0, none⟩ = some (.slice A1 n1 c1) ∧ W.cell? ⟨w.heap.size + 1, 0, none⟩ = some (.int .u64 t.Root) ∧ W.cell? ⟨w.heap.size + 1, 1, none⟩ = some (.slice A2 n2 c2) ∧ W.cell? ⟨w.heap.size + 1, 2, none⟩ = some (.int .i64 t.Tag) ∧ W.cell? ⟨w.heap.size + 1 + 1, 0, none⟩ = some (.int .i64 c.Kind) ∧ W.cell? ⟨w.heap.size + 1 + 1, 1, none⟩ = some (.int .u64 c.A) ∧ W.cell? ⟨w.heap.size + 1 + 1, 2, none⟩ = some (.int .u64 c.B) from ⟨(v0.call h).c0, (v1.call h).c0, (v1.call h).c1, (v1.call h).c2, (v2.call h).c0, (v2.call h).c1, (v2.call h).c2⟩))
  have V12 := hid (And.intro v1 v2)
  clear v0 v1 v2
  refine (cPut_any _ (fun _ => True) c W0 (PC.out _ _)).mono ?_
  rintro e w1 ⟨vp, rfl, hop, hb1⟩
  obtain ⟨Ap, np, cp, rfl, hsp⟩ := hop.formN
  have HSP := hid hsp
  have H1 := Below.refl w1.heap.size w1
  have HB := hb1
  clear hb1 hop hsp
  rcases cavE_is (c := c) with ⟨hE, hok⟩ | ⟨hE, hok⟩
  rotate_left
  · rw [hE]
    have HE := hid (bd_no (l := l) (t := t) (c := c) (e := 1) (if_neg fun k => hok k.1) (by decide))
    clear hE hok
    have HBW := bel_call hb0 HB
    have V3 : Var1 w1 (w.heap.size + 1 + 1 + 1) 24 (.slice none 0 0) := v3.call HB
    have V4 : Var3 w1 (w.heap.size + 1 + 1 + 1 + 1) 28 (.int .u64 0) (.slice none 0 0) (.int .i64 0) := v4.call HB
    have a0 := V3.c0
    have af := V3.f
    have t0 := V4.c0
    have t1 := V4.c1
    have t2 := V4.c2
    have f0 := V4.f 0
    have f1 := V4.f 1
    have f2 := V4.f 2
    have V1' := hid (((((V3.set (.slice none 0 0)).setOther (b := w.heap.size + 1 + 1 + 1 + 1) (by omega) 0 (.int .u64 0)).setOther (b := w.heap.size + 1 + 1 + 1 + 1) (by omega) 1 (.slice none 0 0)).setOther (b := w.heap.size + 1 + 1 + 1 + 1) (by omega) 2 (.int .i64 0)))
    have V2' := hid ((V4.setOther (b := w.heap.size + 1 + 1 + 1) (by omega) 0 (.slice none 0 0)).set (.int .u64 0) (.slice none 0 0) (.int .i64 0))
    have HBE := hid ((((HBW.setCell (p := ⟨w.heap.size + 1 + 1 + 1, 0, none⟩) (by show w.heap.size ≤ w.heap.size + 1 + 1 + 1; omega) (.slice none 0 0)).setCell (p := ⟨w.heap.size + 1 + 1 + 1 + 1, 0, none⟩) (by show w.heap.size ≤ w.heap.size + 1 + 1 + 1 + 1; omega) (.int .u64 0)).setCell (p := ⟨w.heap.size + 1 + 1 + 1 + 1, 1, none⟩) (by show w.heap.size ≤ w.heap.size + 1 + 1 + 1 + 1; omega) (.slice none 0 0)).setCell (p := ⟨w.heap.size + 1 + 1 + 1 + 1, 2, none⟩) (by show w.heap.size ≤ w.heap.size + 1 + 1 + 1 + 1; omega) (.int .i64 0))
    clear V3 V4 HBW
    go_wp2
    refine bodyPost_ret_by (results_cct rfl _ _ (w.heap.size + 1 + 1 + 1) 0 rfl [.slice none 0 0] _ (range1 V1'.out.c0) Try.underlying24 rfl (by kernel_rfl) (w.heap.size + 1 + 1 + 1 + 1) 0 rfl [.int .u64 0, .slice none 0 0, .int .i64 0] _ (range3 V2'.out.c0 V2'.out.c1 V2'.out.c2) Try.underlying28 rfl (by kernel_rfl)) rfl ?_
    exact ⟨_, _, by rw [HE.out.1]; rfl, by rw [HE.out.2.1]; exact OwnL.nil _ _ _ _ _, by rw [HE.out.2.2]; exact ⟨_, rfl, OwnL.nil _ _ _ _ _⟩, HBE.out⟩
  rw [hE]
  clear hE
  obtain ⟨k0, k1, k2, k3, k4, k5, k6⟩ := KK.out _ HB
  go_wp2_with fail
  refine (tCheck_any _ t w1 (PT.out _ (bel_call hb0 HB))).mono ?_
  rintro e w2 ⟨rfl, hb2⟩
  replace HB := bel_call HB hb2
  replace H1 := bel_call H1 hb2
  clear hb2 k0 k1 k2 k3 k4 k5 k6
  rcases tk_is (t := t) with ⟨hE, hok2⟩ | ⟨hE, hok2⟩
  rotate_left
  · rw [hE]
    have HE := hid (bd_no (l := l) (t := t) (c := c) (e := 1) (if_neg fun k => hok2 k.2.1) (by decide))
    clear hE hok2 hok
    have HBW := bel_call hb0 HB
    have V3 : Var1 w2 (w.heap.size + 1 + 1 + 1) 24 (.slice none 0 0) := v3.call HB
    have V4 : Var3 w2 (w.heap.size + 1 + 1 + 1 + 1) 28 (.int .u64 0) (.slice none 0 0) (.int .i64 0) := v4.call HB
    have a0 := V3.c0
    have af := V3.f
    have t0 := V4.c0
    have t1 := V4.c1
    have t2 := V4.c2
    have f0 := V4.f 0
    have f1 := V4.f 1
    have f2 := V4.f 2
    have V1' := hid (((((V3.set (.slice none 0 0)).setOther (b := w.heap.size + 1 + 1 + 1 + 1) (by omega) 0 (.int .u64 0)).setOther (b := w.heap.size + 1 + 1 + 1 + 1) (by omega) 1 (.slice none 0 0)).setOther (b := w.heap.size + 1 + 1 + 1 + 1) (by omega) 2 (.int .i64 0)))
    have V2' := hid ((V4.setOther (b := w.heap.size + 1 + 1 + 1) (by omega) 0 (.slice none 0 0)).set (.int .u64 0) (.slice none 0 0) (.int .i64 0))
    have HBE := hid ((((HBW.setCell (p := ⟨w.heap.size + 1 + 1 + 1, 0, none⟩) (by show w.heap.size ≤ w.heap.size + 1 + 1 + 1; omega) (.slice none 0 0)).setCell (p := ⟨w.heap.size + 1 + 1 + 1 + 1, 0, none⟩) (by show w.heap.size ≤ w.heap.size + 1 + 1 + 1 + 1; omega) (.int .u64 0)).setCell (p := ⟨w.heap.size + 1 + 1 + 1 + 1, 1, none⟩) (by show w.heap.size ≤ w.heap.size + 1 + 1 + 1 + 1; omega) (.slice none 0 0)).setCell (p := ⟨w.heap.size + 1 + 1 + 1 + 1, 2, none⟩) (by show w.heap.size ≤ w.heap.size + 1 + 1 + 1 + 1; omega) (.int .i64 0))
    clear V3 V4 HBW
    go_wp2
    refine bodyPost_ret_by (results_cct rfl _ _ (w.heap.size + 1 + 1 + 1) 0 rfl [.slice none 0 0] _ (range1 V1'.out.c0) Try.underlying24 rfl (by kernel_rfl) (w.heap.size + 1 + 1 + 1 + 1) 0 rfl [.int .u64 0, .slice none 0 0, .int .i64 0] _ (range3 V2'.out.c0 V2'.out.c1 V2'.out.c2) Try.underlying28 rfl (by kernel_rfl)) rfl ?_
    exact ⟨_, _, by rw [HE.out.1]; rfl, by rw [HE.out.2.1]; exact OwnL.nil _ _ _ _ _, by rw [HE.out.2.2]; exact ⟨_, rfl, OwnL.nil _ _ _ _ _⟩, HBE.out⟩
  rw [hE]
  clear hE
  obtain ⟨k0, k1, k2, k3, k4, k5, k6⟩ := KK.out _ HB
  have hn16 : n2 ≤ 16 := by rw [← HL.out]; exact hok2.1.1
  go_upto_region 4 with (fail)
  go_cut [35] from 27 to 35 (fun p wc => p = .bool (decide (n2 = 16 ∧ ArOk l)) ∧ Below W0.heap.size W0 wc ∧ Below w1.heap.size w1 wc)
  case first =>
    by_cases hfull : n2 = 16
    · have d16 : ((n2 : Int) == 16) = true := by simp; omega
      have HF := hid hfull
      clear hfull
      go_wp2_with fail
      refine (aCheck_any _ l w2 (PA.out _ (bel_call hb0 HB))).mono ?_
      rintro e w3 ⟨rfl, hb3⟩
      have HBX := bel_call HB hb3
      have H1X := bel_call H1 hb3
      by_cases har : ArOk l
      · rw [show arE l = 0 from if_pos har]
        have HD := hid (show decide (n2 = 16 ∧ ArOk l) = true from decide_eq_true ⟨HF.out, har⟩)
        clear hb3 har k0 k1 k2 k3 k4 k5 k6
        go_wp2_with fail
        go_meet
        case rel => exact ⟨by rw [HD.out], HBX, H1X⟩
      · rw [show arE l = 1 from if_neg har]
        have HD := hid (show decide (n2 = 16 ∧ ArOk l) = false from decide_eq_false fun k => har k.2)
        clear hb3 har k0 k1 k2 k3 k4 k5 k6
        go_wp2_with fail
        go_meet
        case rel => exact ⟨by rw [HD.out], HBX, H1X⟩
    · have d16 : ((n2 : Int) == 16) = false := by simp; omega
      have HD := hid (show decide (n2 = 16 ∧ ArOk l) = false from decide_eq_false fun k => hfull k.1)
      go_wp2_with fail
      go_meet
      case rel => exact ⟨by rw [HD.out], HB, H1⟩
  case rest =>
  obtain ⟨rfl, HBC, H1C⟩ := hcut
  clear HB H1 k0 k1 k2 k3 k4 k5 k6
  have HB := HBC
  have H1 := H1C
  clear HBC H1C
  obtain ⟨w3, hw3⟩ : ∃ z, z = wc := ⟨_, rfl⟩
  subst hw3
  by_cases hfull : n2 = 16 ∧ ArOk l
  · rw [decide_eq_true hfull]
    have HE := hid (bd_no (l := l) (t := t) (c := c) (e := 7) (by unfold bdE; rw [if_pos ⟨hok, hok2, hfull.2⟩, if_pos (by rw [HL.out]; exact hfull.1)]) (by decide))
    clear hfull hok hok2
    have HBW := bel_call hb0 HB
    have V3 : Var1 w3 (w.heap.size + 1 + 1 + 1) 24 (.slice none 0 0) := v3.call HB
    have V4 : Var3 w3 (w.heap.size + 1 + 1 + 1 + 1) 28 (.int .u64 0) (.slice none 0 0) (.int .i64 0) := v4.call HB
    have a0 := V3.c0
    have af := V3.f
    have t0 := V4.c0
    have t1 := V4.c1
    have t2 := V4.c2
    have f0 := V4.f 0
    have f1 := V4.f 1
    have f2 := V4.f 2
    have V1' := hid (((((V3.set (.slice none 0 0)).setOther (b := w.heap.size + 1 + 1 + 1 + 1) (by omega) 0 (.int .u64 0)).setOther (b := w.heap.size + 1 + 1 + 1 + 1) (by omega) 1 (.slice none 0 0)).setOther (b := w.heap.size + 1 + 1 + 1 + 1) (by omega) 2 (.int .i64 0)))
    have V2' := hid ((V4.setOther (b := w.heap.size + 1 + 1 + 1) (by omega) 0 (.slice none 0 0)).set (.int .u64 0) (.slice none 0 0) (.int .i64 0))
    have HBE := hid ((((HBW.setCell (p := ⟨w.heap.size + 1 + 1 + 1, 0, none⟩) (by show w.heap.size ≤ w.heap.size + 1 + 1 + 1; omega) (.slice none 0 0)).setCell (p := ⟨w.heap.size + 1 + 1 + 1 + 1, 0, none⟩) (by show w.heap.size ≤ w.heap.size + 1 + 1 + 1 + 1; omega) (.int .u64 0)).setCell (p := ⟨w.heap.size + 1 + 1 + 1 + 1, 1, none⟩) (by show w.heap.size ≤ w.heap.size + 1 + 1 + 1 + 1; omega) (.slice none 0 0)).setCell (p := ⟨w.heap.size + 1 + 1 + 1 + 1, 2, none⟩) (by show w.heap.size ≤ w.heap.size + 1 + 1 + 1 + 1; omega) (.int .i64 0))
    clear V3 V4 HBW
    go_wp2
    refine bodyPost_ret_by (results_cct rfl _ _ (w.heap.size + 1 + 1 + 1) 0 rfl [.slice none 0 0] _ (range1 V1'.out.c0) Try.underlying24 rfl (by kernel_rfl) (w.heap.size + 1 + 1 + 1 + 1) 0 rfl [.int .u64 0, .slice none 0 0, .int .i64 0] _ (range3 V2'.out.c0 V2'.out.c1 V2'.out.c2) Try.underlying28 rfl (by kernel_rfl)) rfl ?_
    exact ⟨_, _, by rw [HE.out.1]; rfl, by rw [HE.out.2.1]; exact OwnL.nil _ _ _ _ _, by rw [HE.out.2.2]; exact ⟨_, rfl, OwnL.nil _ _ _ _ _⟩, HBE.out⟩
  rw [decide_eq_false hfull]
  have HBD := hid (show bdE l t c = nextE l t.Tag (putC c) from by
    unfold bdE
    by_cases har : ArOk l
    · rw [if_pos ⟨hok, hok2, har⟩, if_neg (by rw [HL.out]; exact fun k => hfull ⟨k, har⟩)]
    · rw [if_neg fun k => har k.2.2, next_bad har])
  clear hfull
  obtain ⟨k0, k1, k2, k3, k4, k5, k6⟩ := KK.out _ HB
  obtain ⟨we, hwe⟩ : ∃ z, nextE l t.Tag (putC c) = z := ⟨_, rfl⟩
  obtain ⟨wi, hwi⟩ : ∃ z, nextI l t.Tag (putC c) = z := ⟨_, rfl⟩
  obtain ⟨wl, hwl⟩ : ∃ z, nextL l t.Tag (putC c) = z := ⟨_, rfl⟩
  have WE := hid hwe
  have WI := hid hwi
  have WL := hid hwl
  clear hwe hwi hwl
  go_wp2_with fail
  refine (aNext_any _ l t.Tag _ _ _ (putC c) w3 (PA.out _ (bel_call hb0 HB)) hT (HSP.out.kept H1)).mono ?_
  rw [WE.out, WI.out, WL.out]
  rintro e w4 ⟨v4', rfl, ho4, hb4⟩
  obtain ⟨A8, n8, c8, rfl, hs8⟩ := ho4.read
  have hz3 := HB.size
  have hba := bel_alloc (Below.refl w4.heap.size w4) (Obj.cells #[.slice A8 n8 c8] 24)
  have TB := Var1.new w4 24 (.slice A8 n8 c8)
  have ho5 := ho4.keep hba
  have hgz : w.heap.size + 5 ≤ w4.heap.size := by rw [← HZ5.out]; exact (bel_call HB hb4).size
  replace HB := bel_call (bel_call HB hb4) hba
  clear hb4 hba k0 k1 k2 k3 k4 k5 k6 hs8 ho4 H1
  go_upto_region 7 with (fail)
  generalize w4.alloc (Obj.cells #[.slice A8 n8 c8] 24) = W4 at *
  generalize hgv : w4.heap.size = gv at *
  clear hgv
  by_cases he : we = 0
  rotate_left
  · have HE := hid (bd_no (l := l) (t := t) (c := c) (e := we) (by rw [HBD.out, WE.out]) he)
    have hne : (we != 0) = true := by simpa using he
    clear he
    have HBW := bel_call hb0 HB
    have V3 : Var1 W4 (w.heap.size + 1 + 1 + 1) 24 (.slice none 0 0) := v3.call HB
    have V4 : Var3 W4 (w.heap.size + 1 + 1 + 1 + 1) 28 (.int .u64 0) (.slice none 0 0) (.int .i64 0) := v4.call HB
    have a0 := V3.c0
    have af := V3.f
    have t0 := V4.c0
    have t1 := V4.c1
    have t2 := V4.c2
    have f0 := V4.f 0
    have f1 := V4.f 1
    have f2 := V4.f 2
    have V1' := hid (((((V3.set (.slice none 0 0)).setOther (b := w.heap.size + 1 + 1 + 1 + 1) (by omega) 0 (.int .u64 0)).setOther (b := w.heap.size + 1 + 1 + 1 + 1) (by omega) 1 (.slice none 0 0)).setOther (b := w.heap.size + 1 + 1 + 1 + 1) (by omega) 2 (.int .i64 0)))
    have V2' := hid ((V4.setOther (b := w.heap.size + 1 + 1 + 1) (by omega) 0 (.slice none 0 0)).set (.int .u64 0) (.slice none 0 0) (.int .i64 0))
    have HBE := hid ((((HBW.setCell (p := ⟨w.heap.size + 1 + 1 + 1, 0, none⟩) (by show w.heap.size ≤ w.heap.size + 1 + 1 + 1; omega) (.slice none 0 0)).setCell (p := ⟨w.heap.size + 1 + 1 + 1 + 1, 0, none⟩) (by show w.heap.size ≤ w.heap.size + 1 + 1 + 1 + 1; omega) (.int .u64 0)).setCell (p := ⟨w.heap.size + 1 + 1 + 1 + 1, 1, none⟩) (by show w.heap.size ≤ w.heap.size + 1 + 1 + 1 + 1; omega) (.slice none 0 0)).setCell (p := ⟨w.heap.size + 1 + 1 + 1 + 1, 2, none⟩) (by show w.heap.size ≤ w.heap.size + 1 + 1 + 1 + 1; omega) (.int .i64 0))
    clear V3 V4 HBW
    go_wp2
    refine bodyPost_ret_by (results_cct rfl _ _ (w.heap.size + 1 + 1 + 1) 0 rfl [.slice none 0 0] _ (range1 V1'.out.c0) Try.underlying24 rfl (by kernel_rfl) (w.heap.size + 1 + 1 + 1 + 1) 0 rfl [.int .u64 0, .slice none 0 0, .int .i64 0] _ (range3 V2'.out.c0 V2'.out.c1 V2'.out.c2) Try.underlying28 rfl (by kernel_rfl)) rfl ?_
    exact ⟨_, _, by rw [HE.out.1]; rfl, by rw [HE.out.2.1]; exact OwnL.nil _ _ _ _ _, by rw [HE.out.2.2]; exact ⟨_, rfl, OwnL.nil _ _ _ _ _⟩, HBE.out⟩
  subst he
  have HT := hid (show bdE l t c = 0 ∧ bdL l t c = wl ∧ bdT l t c = ⟨t.Root, t.L ++ [c], wi⟩ from by
    have e0 : bdE l t c = 0 := by rw [HBD.out, WE.out]
    exact ⟨e0, by unfold bdL; rw [if_pos e0, WL.out], by unfold bdT; rw [if_pos e0, WI.out]⟩)
  go_upto_region 9 with (fail)
  have KG := hid (fun (W : World) (x a b d : Value) (V1 : Var1 W gv 24 (.slice A8 n8 c8)) (V2 : Var3 W (w.heap.size + 1) 28 (.int .u64 t.Root) (.slice A2 n2 c2) (.int .i64 t.Tag)) (V3 : Var3 W (w.heap.size + 1 + 1) 30 (.int .i64 c.Kind) (.int .u64 c.A) (.int .u64 c.B)) (V4 : Var1 W (w.heap.size + 1 + 1 + 1) 24 x) (V5 : Var3 W (w.heap.size + 1 + 1 + 1 + 1) 28 a b d) => (show W.cell? ⟨gv, 0, none⟩ = some (.slice A8 n8 c8) ∧ W.cell? ⟨w.heap.size + 1, 0, none⟩ = some (.int .u64 t.Root) ∧ W.cell? ⟨w.heap.size + 1, 1, none⟩ = some (.slice A2 n2 c2) ∧ W.cell? ⟨w.heap.size + 1 + 1, 0, none⟩ = some (.int .i64 c.Kind) ∧ W.cell? ⟨w.heap.size + 1 + 1, 1, none⟩ = some (.int .u64 c.A) ∧ W.cell? ⟨w.heap.size + 1 + 1, 2, none⟩ = some (.int .u64 c.B) ∧ (W.cell? ⟨w.heap.size + 1 + 1 + 1, 0, none⟩).isSome = true ∧ W.frozen? ⟨w.heap.size + 1 + 1 + 1, 0, none⟩ = false ∧ (W.cell? ⟨w.heap.size + 1 + 1 + 1 + 1, 0, none⟩).isSome = true ∧ (W.cell? ⟨w.heap.size + 1 + 1 + 1 + 1, 1, none⟩).isSome = true ∧ (W.cell? ⟨w.heap.size + 1 + 1 + 1 + 1, 2, none⟩).isSome = true ∧ W.frozen? ⟨w.heap.size + 1 + 1 + 1 + 1, 0, none⟩ = false ∧ W.frozen? ⟨w.heap.size + 1 + 1 + 1 + 1, 1, none⟩ = false ∧ W.frozen? ⟨w.heap.size + 1 + 1 + 1 + 1, 2, none⟩ = false from ⟨V1.c0, V2.c0, V2.c1, V3.c0, V3.c1, V3.c2, by rw [V4.c0]; rfl, V4.f, by rw [V5.c0]; rfl, by rw [V5.c1]; rfl, by rw [V5.c2]; rfl, V5.f 0, V5.f 1, V5.f 2⟩))
  have HGV := hid hgz
  have KV := hid (fun (W : World) (h : Below W4.heap.size W4 W) => (show (Var1 W gv 24 (.slice A8 n8 c8) ∧ Var3 W (w.heap.size + 1) 28 (.int .u64 t.Root) (.slice A2 n2 c2) (.int .i64 t.Tag) ∧ Var3 W (w.heap.size + 1 + 1) 30 (.int .i64 c.Kind) (.int .u64 c.A) (.int .u64 c.B)) ∧ Var1 W (w.heap.size + 1 + 1 + 1) 24 (.slice none 0 0) ∧ Var3 W (w.heap.size + 1 + 1 + 1 + 1) 28 (.int .u64 0) (.slice none 0 0) (.int .i64 0) from ⟨⟨TB.call h, (V12.out.1.call HB).call h, (V12.out.2.call HB).call h⟩, (v3.call HB).call h, (v4.call HB).call h⟩))
  have K7 := hid (fun (W : World) (h : Below W4.heap.size W4 W) => by obtain ⟨⟨q1, q2, q3⟩, q4, q5⟩ := KV.out W h; exact KG.out W _ _ _ _ q1 q2 q3 q4 q5)
  have K8 := hid (fun (W : World) (h : Below W4.heap.size W4 W) (x : Value) => by obtain ⟨⟨q1, q2, q3⟩, q4, q5⟩ := KV.out W h; have g := HGV.out; exact KG.out (W.setCell ⟨w.heap.size + 1 + 1 + 1, 0, none⟩ x) _ _ _ _ (q1.setOther (by omega) 0 x) (q2.setOther (by omega) 0 x) (q3.setOther (by omega) 0 x) (q4.set x) (q5.setOther (by omega) 0 x))
  have K9 := hid (fun (W : World) (h : Below W4.heap.size W4 W) (x a b d : Value) => by obtain ⟨⟨q1, q2, q3⟩, q4, q5⟩ := KV.out W h; have g := HGV.out; exact KG.out ((((W.setCell ⟨w.heap.size + 1 + 1 + 1, 0, none⟩ x).setCell ⟨w.heap.size + 1 + 1 + 1 + 1, 0, none⟩ a).setCell ⟨w.heap.size + 1 + 1 + 1 + 1, 1, none⟩ b).setCell ⟨w.heap.size + 1 + 1 + 1 + 1, 2, none⟩ d) _ _ _ _ ((((q1.setOther (by omega) 0 x).setOther (by omega) 0 a).setOther (by omega) 1 b).setOther (by omega) 2 d) ((((q2.setOther (by omega) 0 x).setOther (by omega) 0 a).setOther (by omega) 1 b).setOther (by omega) 2 d) ((((q3.setOther (by omega) 0 x).setOther (by omega) 0 a).setOther (by omega) 1 b).setOther (by omega) 2 d) ((((q4.set x).setOther (by omega) 0 a).setOther (by omega) 1 b).setOther (by omega) 2 d) ((q5.setOther (by omega) 0 x).set a b d))
  have P6 := hid (PL.out _ (bel_call hb0 HB))
  have hS0 := K7.out _ (Below.refl W4.heap.size W4)
  obtain ⟨j0, j1, j2, j3, j4, j5, j6, j7, j8, j9, j10, j11, j12, j13⟩ := K7.out _ (Below.refl W4.heap.size W4)
  have hlen1 : (t.L.length + 1) * 24 ≤ 140737488355328 := by rw [HL.out]; omega
  have hlen2 : t.L.length + 1 ≤ maxLen := by rw [HL.out]; unfold maxLen; omega
  have hba := fun (W : World) (h : Below W4.heap.size W4 W) => bel_alloc h (Obj.cells #[.int .i64 c.Kind, .int .u64 c.A, .int .u64 c.B] 30)
  have HH := Below.refl W4.heap.size W4
  have KD := hid (K7.out (W4.drewN 1) HH.drew)
  have KE := hid (K7.out _ (hba (W4.drewN 1) HH.drew))
  have HHB := hid HB
  have HO5 := hid ho5
  have HV3 := hid v3
  have HV4 := hid v4
  have HZ3 := hid hz3
  clear v3 v4 TB ho5 HB hz3 hgz
  have HZP := hid (show (W4.alloc (Obj.cells #[.int .i64 c.Kind, .int .u64 c.A, .int .u64 c.B] 30)).drew.heap.size = W4.heap.size + 1 from by show (W4.alloc _).heap.size = _; simp)
  have PCL1 := hid (cloneC_any A2 n2 c2 t.L W4.drew (Sl.call P6.out HH.drew) (by omega))
  have PCL2 := hid (cloneC_any A2 n2 c2 t.L (W4.alloc (Obj.cells #[.int .i64 c.Kind, .int .u64 c.A, .int .u64 c.B] 30)).drew (Sl.call P6.out (hba _ HH).drew) (by omega))
  rw [HZP.out] at PCL2
  go_region_held3 (fun W => W.cell? ⟨gv, 0, none⟩ = some (.slice A8 n8 c8) ∧ W.cell? ⟨w.heap.size + 1, 0, none⟩ = some (.int .u64 t.Root) ∧ W.cell? ⟨w.heap.size + 1, 1, none⟩ = some (.slice A2 n2 c2) ∧ W.cell? ⟨w.heap.size + 1 + 1, 0, none⟩ = some (.int .i64 c.Kind) ∧ W.cell? ⟨w.heap.size + 1 + 1, 1, none⟩ = some (.int .u64 c.A) ∧ W.cell? ⟨w.heap.size + 1 + 1, 2, none⟩ = some (.int .u64 c.B) ∧ (W.cell? ⟨w.heap.size + 1 + 1 + 1, 0, none⟩).isSome = true ∧ W.frozen? ⟨w.heap.size + 1 + 1 + 1, 0, none⟩ = false ∧ (W.cell? ⟨w.heap.size + 1 + 1 + 1 + 1, 0, none⟩).isSome = true ∧ (W.cell? ⟨w.heap.size + 1 + 1 + 1 + 1, 1, none⟩).isSome = true ∧ (W.cell? ⟨w.heap.size + 1 + 1 + 1 + 1, 2, none⟩).isSome = true ∧ W.frozen? ⟨w.heap.size + 1 + 1 + 1 + 1, 0, none⟩ = false ∧ W.frozen? ⟨w.heap.size + 1 + 1 + 1 + 1, 1, none⟩ = false ∧ W.frozen? ⟨w.heap.size + 1 + 1 + 1 + 1, 2, none⟩ = false)
    (first | (with_reducible exact K7.out _ hb8) | (with_reducible exact K8.out _ hb8 _) | (with_reducible exact K9.out _ hb8 _ _ _ _) | (with_reducible exact K7.out _ (hba _ hb7)) | (with_reducible exact K7.out _ hb7) | (with_reducible exact hS0) | (with_reducible exact KD.out) | (with_reducible exact KE.out) | (with_reducible exact K7.out _ (hba _ HH).drew) | (with_reducible exact K7.out _ HH.drew) | (with_reducible exact K7.out _ (hba _ HH.drew)) | fail "keep")
    (first
      | (go_at_call 40; (with_reducible refine PCL1.out.mono ?_); rintro e w7 ⟨v7, rfl, ho7, hb7'⟩; have hb7 : Below W4.heap.size W4 w7 := bel_call HH.drew hb7'; obtain ⟨A10, n10, c10, rfl, hs10⟩ := ho7.read; clear hs10)
      | (go_at_call 40; (with_reducible refine PCL2.out.mono ?_); rintro e w7 ⟨v7, rfl, ho7, hbx⟩; have hb7 : Below W4.heap.size W4 w7 := ((hba _ HH).drew).trans (hbx.mono (Nat.le_succ _)); have hg7 := (hbx.block W4.heap.size (Nat.lt_succ_self _)).trans (heap_alloc_new W4 (.cells #[.int .i64 c.Kind, .int .u64 c.A, .int .u64 c.B] 30)); obtain ⟨A10, n10, c10, rfl, hs10⟩ := ho7.read; clear hs10)
      | (refine step_pushL (w := w7) (by rfl) (.tmp 57) (.tmp 59) 26 (by rfl) W4.heap.size none 30 _ 24 Try.underlying26 Try.infoCav7 rfl (by decide) (.slice A10 n10 c10) t.L c #[.int .i64 c.Kind, .int .u64 c.A, .int .u64 c.B] (fun _ => False) w7.heap.size (by rfl) (by rfl) (bel_alloc (Below.refl _ _) _) (heap_alloc_new _ _) ho7 (PC.out _ _) (fun b hb => hb.elim) hb7.size hlen1 hlen2 ?_; intro v8 w8 ho8 hx8; obtain ⟨A9, n9, c9, rfl, hs9⟩ := ho8.read; have hb8 : Below W4.heap.size W4 w8 := (hb7.alloc hb7.size _).trans ((ho7.keep (bel_alloc (Below.refl _ _) _)).below hx8 (Nat.le_trans hb7.size (by simp))); have HU := hid (ho8.cav W4.heap.size); have q45 := (KV.out w8 hb8).2; have a0 := q45.1.c0; have af := q45.1.f; have t0 := q45.2.c0; have t1 := q45.2.c1; have t2 := q45.2.c2; have f0 := q45.2.f 0; have f1 := q45.2.f 1; have f2 := q45.2.f 2; clear q45)
      | (refine step_pushW (w := w7) (by rfl) (.tmp 57) (.tmp 59) 26 (by rfl) (W4.heap.size + 1) none 30 _ 24 Try.underlying26 Try.infoCav7 rfl (by decide) (.slice A10 n10 c10) t.L c #[.int .i64 c.Kind, .int .u64 c.A, .int .u64 c.B] (fun _ => False) W4.heap.size (by rfl) (by rfl) hg7 ho7 (PC.out _ _) (fun b hb => hb.elim) (lt_of_block hg7) hlen1 hlen2 ?_; intro v8 w8 ho8 hx8; obtain ⟨A9, n9, c9, rfl, hs9⟩ := ho8.read; have hb8 : Below W4.heap.size W4 w8 := hb7.trans ((ho7.below hx8 (lt_of_block hg7)).mono (by omega)); have HU := hid (((ho8.cav (W4.heap.size + 1)).lows (Nat.le_succ W4.heap.size) (Nat.le_succ W4.heap.size))); have q45 := (KV.out w8 hb8).2; have a0 := q45.1.c0; have af := q45.1.f; have t0 := q45.2.c0; have t1 := q45.2.c1; have t2 := q45.2.c2; have f0 := q45.2.f 0; have f1 := q45.2.f 1; have f2 := q45.2.f 2; clear q45))
  all_goals
    have HB8 := bel_call HHB.out hb8
    have HBW := bel_call hb0 HB8
    have hz4 := HHB.out.size
    have z5 := HZ5.out
    have z3 := HZ3.out
    have V3 : Var1 w8 (w.heap.size + 1 + 1 + 1) 24 (.slice none 0 0) := HV3.out.call HB8
    have V4 : Var3 w8 (w.heap.size + 1 + 1 + 1 + 1) 28 (.int .u64 0) (.slice none 0 0) (.int .i64 0) := HV4.out.call HB8
    have V1' := hid (((((V3.set (.slice A8 n8 c8)).setOther (b := w.heap.size + 1 + 1 + 1 + 1) (by omega) 0 (.int .u64 t.Root)).setOther (b := w.heap.size + 1 + 1 + 1 + 1) (by omega) 1 (.slice A9 n9 c9)).setOther (b := w.heap.size + 1 + 1 + 1 + 1) (by omega) 2 (.int .i64 wi)))
    have V2' := hid ((V4.setOther (b := w.heap.size + 1 + 1 + 1) (by omega) 0 (.slice A8 n8 c8)).set (.int .u64 t.Root) (.slice A9 n9 c9) (.int .i64 wi))
    have HO := hid ((((((HO5.out.keep hb8).setLow (b := w.heap.size + 1 + 1 + 1) (by omega) (by omega) 0 (.slice A8 n8 c8)).setLow (b := w.heap.size + 1 + 1 + 1 + 1) (by omega) (by omega) 0 (.int .u64 t.Root)).setLow (b := w.heap.size + 1 + 1 + 1 + 1) (by omega) (by omega) 1 (.slice A9 n9 c9)).setLow (b := w.heap.size + 1 + 1 + 1 + 1) (by omega) (by omega) 2 (.int .i64 wi)).lows (base' := w.heap.size) (lo' := w.heap.size) (by omega) (by omega))
    have HU2 := hid (((((HU.out.setLow (b := w.heap.size + 1 + 1 + 1) (by omega) (by omega) 0 (.slice A8 n8 c8)).setLow (b := w.heap.size + 1 + 1 + 1 + 1) (by omega) (by omega) 0 (.int .u64 t.Root)).setLow (b := w.heap.size + 1 + 1 + 1 + 1) (by omega) (by omega) 1 (.slice A9 n9 c9)).setLow (b := w.heap.size + 1 + 1 + 1 + 1) (by omega) (by omega) 2 (.int .i64 wi)).lows (base' := w.heap.size) (lo' := w.heap.size) (by omega) (by omega))
    have HBE := hid ((((HBW.setCell (p := ⟨w.heap.size + 1 + 1 + 1, 0, none⟩) (by show w.heap.size ≤ w.heap.size + 1 + 1 + 1; omega) (.slice A8 n8 c8)).setCell (p := ⟨w.heap.size + 1 + 1 + 1 + 1, 0, none⟩) (by show w.heap.size ≤ w.heap.size + 1 + 1 + 1 + 1; omega) (.int .u64 t.Root)).setCell (p := ⟨w.heap.size + 1 + 1 + 1 + 1, 1, none⟩) (by show w.heap.size ≤ w.heap.size + 1 + 1 + 1 + 1; omega) (.slice A9 n9 c9)).setCell (p := ⟨w.heap.size + 1 + 1 + 1 + 1, 2, none⟩) (by show w.heap.size ≤ w.heap.size + 1 + 1 + 1 + 1; omega) (.int .i64 wi))
    clear V3 V4 HBW z5 z3 hz4
    go_wp2
    refine bodyPost_ret_by (results_cct rfl _ _ (w.heap.size + 1 + 1 + 1) 0 rfl [.slice A8 n8 c8] _ (range1 V1'.out.c0) Try.underlying24 rfl (by kernel_rfl) (w.heap.size + 1 + 1 + 1 + 1) 0 rfl [.int .u64 t.Root, .slice A9 n9 c9, .int .i64 wi] _ (range3 V2'.out.c0 V2'.out.c1 V2'.out.c2) Try.underlying28 rfl (by kernel_rfl)) rfl ?_
    exact ⟨_, _, by rw [HT.out.1]; rfl, by rw [HT.out.2.1]; exact HO.out, by rw [HT.out.2.2]; exact ⟨_, rfl, HU2.out⟩, HBE.out⟩
end Go.Proofs.Ytgiapfenalhleaa
