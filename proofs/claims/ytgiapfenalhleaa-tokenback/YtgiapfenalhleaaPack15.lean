/-
  The contracts of the document's Same, and Verify, of layer 7.
  The contract of the document's Mint of layer 7.
-/
import Derived.Deep.RegionHeld3
import Derived.Deep.Cut
import Derived.Deep.CutRange
import Derived.Test.YtgiapfenalhleaaPack1
import Derived.Test.YtgiapfenalhleaaPack2
import Derived.Test.YtgiapfenalhleaaPack3
import Derived.Test.YtgiapfenalhleaaPack4
import Derived.Test.YtgiapfenalhleaaPack5
import Derived.Test.YtgiapfenalhleaaPack6
import Derived.Test.YtgiapfenalhleaaPack7
import Derived.Test.YtgiapfenalhleaaPack8
import Derived.Test.YtgiapfenalhleaaPack9
import Derived.Test.YtgiapfenalhleaaPack10
import Derived.Test.YtgiapfenalhleaaPack11
import Derived.Test.YtgiapfenalhleaaPack12
import Derived.Test.YtgiapfenalhleaaPack13
import Derived.Test.YtgiapfenalhleaaPack14
namespace Go.Proofs.Ytgiapfenalhleaa
open Go.RowKit Go.WalkArith

theorem Tok.ext' {a b : Tok} (h1 : a.Root = b.Root) (h2 : a.L = b.L) (h3 : a.Tag = b.Tag) : a = b := by cases a; cases b; simp_all

set_option maxHeartbeats 1000000 in
theorem refSameT_any (s1 s2 : Array Value) (x y : Tok) (w : World) (h1 : lay_Token.rep w (· < w.heap.size) x s1.toList) (h2 : lay_Token.rep w (· < w.heap.size) y s2.toList) :
    Calls Try.prog 20 #[.agg s1, .agg s2] w fun e w' => e = .returned (.bool (decide (x = y))) ∧ Below w.heap.size w w' := by
  obtain ⟨A1, n1, c1, rfl, -, -, hV1⟩ := agg_Token h1
  obtain ⟨A2, n2, c2, rfl, -, -, hV2⟩ := agg_Token h2
  have hb0 : Below w.heap.size w ((w.alloc (Obj.cells #[.int .u64 x.Root, .slice A1 n1 c1, .int .i64 x.Tag] 28)).alloc (Obj.cells #[.int .u64 y.Root, .slice A2 n2 c2, .int .i64 y.Tag] 28)) := bel_alloc (bel_alloc (Below.refl _ _) _) _
  have HS := hid (refSameCavs_any _ _ _ _ _ _ _ x.L y.L _ (Sl.call hV1 hb0) (Sl.call hV2 hb0))
  clear hV1 hV2 h1 h2
  by_cases hk : x.Root = y.Root
  · have hk' : (x.Root == y.Root) = true := by simpa using hk
    by_cases hu : x.Tag = y.Tag
    · have hu' : (x.Tag == y.Tag) = true := by simpa using hu
      have HD := hid (show decide (x = y) = decide (x.L = y.L) from by
        by_cases hv : x.L = y.L
        · rw [decide_eq_true (Tok.ext' hk hv hu), decide_eq_true hv]
        · rw [decide_eq_false hv, decide_eq_false fun e => hv (by rw [e])])
      clear hk hu
      go_enter Try.func20, Try.ntmps20
      go_wp2_with (go_at_call 24; go_must (refine HS.out.mono ?_; rintro e w' ⟨rfl, m, rfl⟩))
      go_ret
      exact ⟨ret_bool HD.out.symm, bel_drewN hb0 m⟩
    · have hu' : (x.Tag == y.Tag) = false := by simpa using hu
      have HD := hid (show decide (x = y) = false from decide_eq_false fun e => hu (by rw [e]))
      clear hk hu
      go_enter Try.func20, Try.ntmps20
      go_wp2
      go_ret
      exact ⟨ret_bool HD.out.symm, hb0⟩
  · have hk' : (x.Root == y.Root) = false := by simpa using hk
    have HD := hid (show decide (x = y) = false from decide_eq_false fun e => hk (by rw [e]))
    clear hk
    go_enter Try.func20, Try.ntmps20
    go_wp2
    go_ret
    exact ⟨ret_bool HD.out.symm, hb0⟩

theorem tk_is {t : Tok} : (tkE t = 0 ∧ TokOk t) ∨ (tkE t = 1 ∧ ¬ TokOk t) := by
  unfold tkE
  by_cases h : TokOk t
  · exact .inl ⟨if_pos h, h⟩
  · exact .inr ⟨if_neg h, h⟩
theorem octs_one (n : Int) : octs [n] = oct n := by simp [octs]
theorem txts_take {l : List Cav} {j : Nat} (hj : j < l.length) : txts (l.take (j + 1)) = txts (l.take j) ++ [putC l[j]] := by
  unfold txts
  rw [List.take_succ_eq_append_getElem hj, List.map_append]
  rfl
theorem rd_nums1 {w : World} {t : TypeId} {x : Int} (hx : (Lit.int .u64 x).wf = true) : Rd (w.alloc (.cells #[.int .u64 x] t)) (w.alloc (.cells #[.int .u64 x] t)).heap.size .u64 (some ⟨w.heap.size, 0, none⟩) 1 1 [x] :=
  Rd.lit1 (by rw [World.cell?_alloc_at _ _ _ _ rfl]; rfl) hx

set_option maxRecDepth 100000 in
set_option maxHeartbeats 4000000 in
theorem refVerify_any (s1 s2 : Array Value) (l : List Trm) (key : Int) (t : Tok) (w : World) (g1 : lay_Arena.rep w (· < w.heap.size) l s1.toList) (hk : (Lit.int .u64 key).wf = true) (g2 : lay_Token.rep w (· < w.heap.size) t s2.toList) :
    Calls Try.prog 18 #[.agg s1, .int .u64 key, .agg s2] w fun e w' => e = .returned (.tuple #[.bool (vfV l key t), .int .i64 (vfE l t)]) ∧ Below w.heap.size w w' := by
  obtain ⟨A1, n1, c1, rfl, hA⟩ := agg_Arena g1
  obtain ⟨A2, n2, c2, rfl, hR, hT, hL⟩ := agg_Token g2
  clear g1 g2
  have HL := hid hL.len
  have hcap := hL.cap
  unfold maxLen at hcap
  have hb0 : Below w.heap.size w ((w.alloc (Obj.cells #[.slice A1 n1 c1] 24)).alloc (Obj.cells #[.int .u64 t.Root, .slice A2 n2 c2, .int .i64 t.Tag] 28)) := bel_alloc (bel_alloc (Below.refl _ _) _) _
  have v0 : Var1 ((w.alloc (Obj.cells #[.slice A1 n1 c1] 24)).alloc (Obj.cells #[.int .u64 t.Root, .slice A2 n2 c2, .int .i64 t.Tag] 28)) w.heap.size 24 (.slice A1 n1 c1) := heap_alloc2_old _ _ _
  have v1 : Var3 ((w.alloc (Obj.cells #[.slice A1 n1 c1] 24)).alloc (Obj.cells #[.int .u64 t.Root, .slice A2 n2 c2, .int .i64 t.Tag] 28)) (w.heap.size + 1) 28 (.int .u64 t.Root) (.slice A2 n2 c2) (.int .i64 t.Tag) := alloc2_new _ _ _
  have hz0 : ((w.alloc (Obj.cells #[.slice A1 n1 c1] 24)).alloc (Obj.cells #[.int .u64 t.Root, .slice A2 n2 c2, .int .i64 t.Tag] 28)).heap.size = w.heap.size + 2 := by simp
  have PA := hid (fun (W : World) (h : Below w.heap.size w W) => (show lay_Arena.rep W (· < W.heap.size) l #[.slice A1 n1 c1].toList from rep_Arena.2 ⟨_, _, _, rfl, Sl.call hA h⟩))
  have PT := hid (fun (W : World) (h : Below w.heap.size w W) => (show lay_Token.rep W (· < W.heap.size) t #[.int .u64 t.Root, .slice A2 n2 c2, .int .i64 t.Tag].toList from rep_Token.2 ⟨_, _, _, rfl, hR, hT, Sl.call hL h⟩))
  clear hA
  go_enter Try.func18, Try.ntmps18
  go_wp2_with fail
  generalize ((w.alloc (Obj.cells #[.slice A1 n1 c1] 24)).alloc (Obj.cells #[.int .u64 t.Root, .slice A2 n2 c2, .int .i64 t.Tag] 28)) = W0 at *
  have KK := hid (fun (W : World) (h : Below W0.heap.size W0 W) => (show W.cell? ⟨w.heap.size, 0, none⟩ = some (.slice A1 n1 c1) ∧ W.cell? ⟨w.heap.size + 1, 0, none⟩ = some (.int .u64 t.Root) ∧ W.cell? ⟨w.heap.size + 1, 1, none⟩ = some (.slice A2 n2 c2) ∧ W.cell? ⟨w.heap.size + 1, 2, none⟩ = some (.int .i64 t.Tag) from ⟨(v0.call h).c0, (v1.call h).c0, (v1.call h).c1, (v1.call h).c2⟩))
  clear v0 v1
  refine (refCheckT_any _ t W0 (PT.out _ hb0)).mono ?_
  rintro e w1 ⟨rfl, hb1⟩
  have HB := hb1
  clear hb1
  rcases tk_is (t := t) with ⟨hE, hok⟩ | ⟨hE, hok⟩
  rotate_left
  · rw [hE]
    have HN := hid (show vfE l t = 1 ∧ vfV l key t = false from by
      rcases vf_is (l := l) (key := key) (t := t) with ⟨-, -, k⟩ | ⟨a, b, -⟩
      · exact absurd k.1 hok
      · exact ⟨a, b⟩)
    clear hE hok
    go_wp2
    go_ret2
    exact ⟨by rw [HN.out.1, HN.out.2]; rfl, bel_call hb0 HB⟩
  rw [hE]
  clear hE
  obtain ⟨k0, k1, k2, k3⟩ := KK.out _ HB
  go_wp2_with fail
  refine (refCheckA_any _ l w1 (PA.out _ (bel_call hb0 HB))).mono ?_
  rintro e w2 ⟨rfl, hb2⟩
  replace HB := bel_call HB hb2
  clear hb2 k0 k1 k2 k3
  by_cases har : ArOk l
  rotate_left
  · rw [show arE l = 1 from if_neg har]
    have HN := hid (show vfE l t = 1 ∧ vfV l key t = false from by
      rcases vf_is (l := l) (key := key) (t := t) with ⟨-, -, k⟩ | ⟨a, b, -⟩
      · exact absurd k.2 har
      · exact ⟨a, b⟩)
    clear har
    go_wp2
    go_ret2
    exact ⟨by rw [HN.out.1, HN.out.2]; rfl, bel_call hb0 HB⟩
  rw [show arE l = 0 from if_pos har]
  have HN := hid (show vfE l t = 0 ∧ vfV l key t = rightB l key t from by
    rcases vf_is (l := l) (key := key) (t := t) with ⟨a, b, -⟩ | ⟨-, -, k⟩
    · exact ⟨a, b⟩
    · exact absurd ⟨hok, har⟩ k)
  have hn16 : n2 ≤ 16 := by rw [← HL.out]; exact hok.1.1
  clear hok har
  obtain ⟨k0, k1, k2, k3⟩ := KK.out _ HB
  go_wp2
  have hz2 := HB.size
  go_loopw [8, 26] (fun tx i wr => ∃ (j : Nat) (tv : Value), j ≤ n2 ∧ i = .int .i64 j ∧ tx = tv ∧ OwnL lay_Txt wr (w.heap.size + 2) (some (w.heap.size + 2)) 46 tv (txts (t.L.take j)) ∧ Below W0.heap.size W0 wr) (fun _ i _ => n2 - (intOf i).toNat)
  case atStart => exact ⟨0, _, Nat.zero_le _, rfl, rfl, OwnL.nil _ _ _ _ _, HB⟩
  case round =>
    obtain ⟨j, tx, hj, rfl, htx, hown, hbel⟩ := hrel
    replace htx := htx.symm
    subst htx
    clear HB k0 k1 k2 k3
    have hwz := hbel.size
    by_cases hlt : j < n2
    · obtain ⟨b1, o1, hx1, rfl, hb1, t1, t2, t3, hw⟩ := cav_at hL hlt
      have hbw := bel_call hb0 hbel
      have q1 := (hbw.cell (p := ⟨b1, o1 + j * 3, none⟩) hb1).trans t1
      have q2 := (hbw.cell (p := ⟨b1, o1 + j * 3 + 1, none⟩) hb1).trans t2
      have q3 := (hbw.cell (p := ⟨b1, o1 + j * 3 + 2, none⟩) hb1).trans t3
      have HT := hid (txts_take hx1)
      have hba := bel_alloc (Below.refl wr.heap.size wr) (Obj.cells #[.int .i64 t.L[j].Kind, .int .u64 t.L[j].A, .int .u64 t.L[j].B] 30)
      have HPU := hid (refPutC_any #[.int .i64 t.L[j].Kind, .int .u64 t.L[j].A, .int .u64 t.L[j].B] (fun _ => True) t.L[j] (wr.alloc (Obj.cells #[.int .i64 t.L[j].Kind, .int .u64 t.L[j].A, .int .u64 t.L[j].B] 30)) (rep_Caveat.2 ⟨rfl, hw⟩))
      have hal : (txts (t.L.take j)).length ≤ 16 := by unfold txts; simp; omega
      have hlen1 : ((txts (t.L.take j)).length + 1) * 24 ≤ 140737488355328 := by omega
      have hlen2 : (txts (t.L.take j)).length + 1 ≤ maxLen := by unfold maxLen; omega
      have hzb : (wr.alloc (Obj.cells #[.int .i64 t.L[j].Kind, .int .u64 t.L[j].A, .int .u64 t.L[j].B] 30)).heap.size = wr.heap.size + 1 := by simp
      have HZB := hid hzb
      clear t1 t2 t3 hzb hal
      go_wp2_with fail
      refine HPU.out.mono ?_
      rintro e w5 ⟨v5, rfl, ho5, hb5⟩
      obtain ⟨A5, n5, c5, rfl, hs5⟩ := ho5.slI
      have hb6 := bel_call hba hb5
      have ho6 := hown.keep hb6
      have hge : ∀ g, tx.ownBlock = some g → g < wr.heap.size := fun g hg => hown.lt hg
      have HGE := hid hge
      have hz5 := hb5.size
      rw [HZB.out] at hz5 hs5
      have HS5 := hid hs5
      clear hge hba hb5 ho5 hs5 HPU q1 q2 q3
      go_wp2_with (at_builtin; go_must (refine wpList_pushL (w := w5) rfl (.tmp 35) (.tmp 37) 56 rfl (w.heap.size + 2) (some (w.heap.size + 2)) 46 _ 24 Try.underlying56 Try.infoTxt rfl (by decide) tx (txts (t.L.take j)) (putC t.L[j]) #[.slice A5 n5 c5] (From w5 (wr.heap.size + 1)) rfl rfl ho6 ⟨A5, n5, c5, rfl, HS5.out⟩ (fun b hb => ⟨⟨by have := hb.1; omega, hb.2.2⟩, hb.2.1, fun he => by have := HGE.out b he.symm; have := hb.1; omega⟩) (by omega) hlen1 hlen2 ?_; intro v7 w7 ho7 hx7; have hb7 : Below (w.heap.size + 2) w5 w7 := ho6.below hx7 (by omega)))
      go_roundw
      case rel => exact ⟨j + 1, _, by omega, by go_num, rfl, by rw [HT.out]; exact ho7, (bel_call hbel hb6).trans (by rw [hz0]; exact hb7)⟩
      case measure => simp [intOf]; omega
    · have HTK := hid (show t.L.take j = t.L from List.take_of_length_le (by rw [HL.out]; omega))
      rw [HTK.out] at hown
      obtain ⟨A6, n6, c6, rfl, hs6⟩ := hown.read
      have hn6 : n6 ≤ 1000 := by rw [← hs6.len]; unfold txts; rw [List.length_map, HL.out]; omega
      have HS6 := hid hs6
      obtain ⟨fi, hfi⟩ : ∃ z, findI l key (oct t.Root) (txts t.L) = z := ⟨_, rfl⟩
      obtain ⟨fe, hfe⟩ : ∃ z, findE l key (oct t.Root) (txts t.L) = z := ⟨_, rfl⟩
      have HRB := hid (show rightB l key t = decide (fe = 0 ∧ fi = t.Tag) from by unfold rightB; rw [hfi, hfe])
      have FI := hid hfi
      have FE := hid hfe
      clear hfi hfe hown hs6
      have KW := hid (fun (W : World) (h : Below wr.heap.size wr W) => KK.out _ (bel_call hbel h))
      have HH := Below.refl wr.heap.size wr
      obtain ⟨k0, k1, k2, k3⟩ := KK.out _ hbel
      have hba := fun (W : World) (h : Below wr.heap.size wr W) => bel_alloc h (Obj.cells #[.int .u64 t.Root] 25)
      have HPU := hid (refPut_any _ _ _ _ _ (rd_nums1 (w := wr.drewN 1) (t := 25) hR) (by decide))
      rw [octs_one] at HPU
      have hbw := bel_call hb0 hbel
      have hbx : Below wr.heap.size wr ((wr.drewN 1).alloc (Obj.cells #[.int .u64 t.Root] 25)) := bel_alloc (bel_drewN (Below.refl _ _) 1) _
      go_upto_region 10 with (fail)
      go_region_held3 (fun W => W.cell? ⟨w.heap.size, 0, none⟩ = some (.slice A1 n1 c1) ∧ W.cell? ⟨w.heap.size + 1, 0, none⟩ = some (.int .u64 t.Root) ∧ W.cell? ⟨w.heap.size + 1, 1, none⟩ = some (.slice A2 n2 c2) ∧ W.cell? ⟨w.heap.size + 1, 2, none⟩ = some (.int .i64 t.Tag))
        (first | exact KW.out _ HH | exact KW.out _ HH.drew | exact KW.out _ hbx | exact KW.out _ HBA | exact KW.out _ HBB | go_keep)
        (first
          | (go_at_call 36; go_must (refine HPU.out.mono ?_; rintro e wA ⟨vA, rfl, hoA, hbA⟩; obtain ⟨A7, n7, c7, rfl, hs7⟩ := hoA.formN; have HBA := bel_call hbx hbA))
          | (go_at_call 46; go_must (refine (refFindA_any _ l key _ _ _ (oct t.Root) _ _ _ (txts t.L) wA (PA.out _ (bel_call hbw HBA)) hk hs7.sl (Sl.call HS6.out HBA) hn6).mono ?_; rw [FI.out, FE.out]; rintro e wB ⟨rfl, hbB⟩; have HBB := bel_call HBA hbB)))
      all_goals
        have HBE := hid (bel_call hbw HBB)
        obtain ⟨i0, i1, i2, i3⟩ := KW.out _ HBB
        by_cases g1 : fe = 0
        · subst g1
          have HR := hid (show rightB l key t = (fi == t.Tag) from by
            rw [HRB.out, Bool.eq_iff_iff]
            simp)
          clear k0 k1 k2 k3
          generalize t.Tag = tg at *
          go_wp2
          go_ret2
          exact ⟨by rw [HN.out.1, HN.out.2, HR.out]; rfl, HBE.out⟩
        · have d1 : (fe == 0) = false := by simpa using g1
          have HR := hid (show rightB l key t = false from by
            rw [HRB.out, decide_eq_false]
            exact fun k => g1 k.1)
          clear k0 k1 k2 k3
          go_wp2
          go_ret2
          exact ⟨by rw [HN.out.1, HN.out.2, HR.out]; rfl, HBE.out⟩
end Go.Proofs.Ytgiapfenalhleaa
namespace Go.Proofs.Ytgiapfenalhleaa
open Go.RowKit Go.WalkArith

theorem results_cct {P : Program} {fn : Func} {a b v : Tmp} {t u : TypeId} (h : fn.results = #[.cell a t, .cell b u, .tmp v]) (tmps : Array Value) (w : World) (g o : Nat) (ha : tmps.getD a undef = .pointer (some ⟨g, o, none⟩)) (cs : List Value) (d : TypeDesc)
    (hc : w.rangeAt g o cs) (hu : P.underlying t = some d) (hd : d.isRow = true) (hi : (P.info? t).map (·.size) = some cs.length) (g' o' : Nat) (hb : tmps.getD b undef = .pointer (some ⟨g', o', none⟩)) (ds : List Value) (d' : TypeDesc)
    (hc' : w.rangeAt g' o' ds) (hu' : P.underlying u = some d') (hd' : d'.isRow = true) (hi' : (P.info? u).map (·.size) = some ds.length) : (results fn tmps).run P w = .ok (.tuple #[.agg cs.toArray, .agg ds.toArray, tmps.getD v undef]) w := by
  rw [Array.getD_eq_getD_getElem?] at ha hb
  simp [results, h, ha, hb, asAddr, run_loadVar_mid w g o t cs d hc hu hd hi, run_loadVar_mid w g' o' u ds d' hc' hu' hd' hi']
/-- What is bound to a token that is handed back is the caller's own. -/
def OwnT (w : World) (base : Nat) (v : Value) (t : Tok) : Prop := ∃ u, v = .agg #[.int .u64 t.Root, u, .int .i64 t.Tag] ∧ OwnL lay_Caveat w base (some base) 30 u t.L
theorem Rd.kept {w w' : World} {k : IntKind} {A : Option Addr} {n c : Nat} {xs : List Int} (h : Rd w w.heap.size k A n c xs) (hb : Below w.heap.size w w') : Rd w' w'.heap.size k A n c xs := (h.below hb).more hb.size

set_option maxRecDepth 100000 in
set_option maxHeartbeats 4000000 in
theorem refMint_any (s1 : Array Value) (l : List Trm) (root key : Int) (w : World) (g1 : lay_Arena.rep w (· < w.heap.size) l s1.toList) (hr : (Lit.int .u64 root).wf = true) (hk : (Lit.int .u64 key).wf = true) :
    Calls Try.prog 14 #[.agg s1, .int .u64 root, .int .u64 key] w fun e w' => ∃ v' vt, e = .returned (.tuple #[.agg #[v'], vt, .int .i64 (mtE l root key)]) ∧ OwnL lay_Term w' w.heap.size (some w.heap.size) 62 v' (mtL l root key) ∧ OwnT w' w.heap.size vt (mtT l root key) ∧ Below w.heap.size w w' := by
  obtain ⟨A1, n1, c1, rfl, hA⟩ := agg_Arena g1
  clear g1
  have hb0 : Below w.heap.size w (((w.alloc (Obj.cells #[.slice A1 n1 c1] 24)).alloc (Obj.cells #[.slice none 0 0] 24)).alloc (Obj.cells #[.int .u64 0, .slice none 0 0, .int .i64 0] 28)) := bel_alloc (bel_alloc (bel_alloc (Below.refl _ _) _) _) _
  have hB3 := fun (W : World) (h : Below (w.heap.size + 3) (((w.alloc (Obj.cells #[.slice A1 n1 c1] 24)).alloc (Obj.cells #[.slice none 0 0] 24)).alloc (Obj.cells #[.int .u64 0, .slice none 0 0, .int .i64 0] 28)) W) => three_blocks h
  have hz3 : (((w.alloc (Obj.cells #[.slice A1 n1 c1] 24)).alloc (Obj.cells #[.slice none 0 0] 24)).alloc (Obj.cells #[.int .u64 0, .slice none 0 0, .int .i64 0] 28)).heap.size = w.heap.size + 3 := by simp
  have PA := hid (fun (W : World) (h : Below w.heap.size w W) => (show lay_Arena.rep W (· < W.heap.size) l #[.slice A1 n1 c1].toList from rep_Arena.2 ⟨_, _, _, rfl, Sl.call hA h⟩))
  clear hA
  go_enter Try.func14, Try.ntmps14
  go_upto_region 1 with (fail)
  generalize (((w.alloc (Obj.cells #[.slice A1 n1 c1] 24)).alloc (Obj.cells #[.slice none 0 0] 24)).alloc (Obj.cells #[.int .u64 0, .slice none 0 0, .int .i64 0] 28)) = W0 at *
  obtain ⟨q0, q1, q2⟩ := hB3 W0 (Below.refl _ _)
  have HZ3 := hid hz3
  clear hz3 hB3
  have KK := hid (fun (W : World) (h : Below W0.heap.size W0 W) => (show W.cell? ⟨w.heap.size, 0, none⟩ = some (.slice A1 n1 c1) from cell_of_one ((h.block _ (lt_of_block q0)).trans q0)))
  obtain ⟨we, hwe⟩ : ∃ z, withE l (rootT key (oct root)) = z := ⟨_, rfl⟩
  obtain ⟨wi, hwi⟩ : ∃ z, withI l (rootT key (oct root)) = z := ⟨_, rfl⟩
  obtain ⟨wl, hwl⟩ : ∃ z, withL l (rootT key (oct root)) = z := ⟨_, rfl⟩
  have WE := hid hwe
  have WI := hid hwi
  have WL := hid hwl
  clear hwe hwi hwl
  go_cut [9, 10, 11] from 12 to 21 (fun p i e wc => ∃ g v, p = .pointer (some ⟨g, 0, none⟩) ∧ i = .int .i64 wi ∧ e = .int .i64 we ∧ Var1 wc g 24 v ∧ W0.heap.size ≤ g ∧ OwnL lay_Term wc W0.heap.size (some W0.heap.size) 62 v wl ∧ Below W0.heap.size W0 wc)
  case first =>
    have HH := Below.refl W0.heap.size W0
    have k0 := KK.out _ HH
    have hbR : Below W0.heap.size W0 (W0.alloc (Obj.cells #[.int .u64 root] 25)).drew := (bel_alloc HH _).drew
    have hbV : Below W0.heap.size W0 (W0.alloc (Obj.cells #[.slice none 0 0] 24)).drew := (bel_alloc HH _).drew
    have hbVR : Below W0.heap.size W0 ((W0.alloc (Obj.cells #[.slice none 0 0] 24)).alloc (Obj.cells #[.int .u64 root] 25)).drew := (bel_alloc (bel_alloc HH _) _).drew
    have hbRV : Below W0.heap.size W0 ((W0.alloc (Obj.cells #[.int .u64 root] 25)).alloc (Obj.cells #[.slice none 0 0] 24)).drew := (bel_alloc (bel_alloc HH _) _).drew
    have R1 := rd_nums1 (w := W0) (t := 25) hr
    have R2 := rd_nums1 (w := W0.alloc (Obj.cells #[.slice none 0 0] 24)) (t := 25) hr
    have R3 := R1.kept (bel_alloc (Below.refl _ _) (Obj.cells #[.slice none 0 0] 24))
    have P1 := hid (refPut_any _ _ _ _ _ (R1.kept (Below.refl _ _).drew) (by decide))
    have P2 := hid (refPut_any _ _ _ _ _ (R2.kept (Below.refl _ _).drew) (by decide))
    have P3 := hid (refPut_any _ _ _ _ _ (R3.kept (Below.refl _ _).drew) (by decide))
    rw [octs_one] at P1 P2 P3
    rw [show (W0.alloc (Obj.cells #[.slice none 0 0] 24)).heap.size = W0.heap.size + 1 from by simp] at P2
    have TV : Var1 ((W0.alloc (Obj.cells #[.slice none 0 0] 24)).alloc (Obj.cells #[.int .u64 root] 25)).drew W0.heap.size 24 (.slice none 0 0) := ((Var1.new W0 24 (.slice none 0 0)).call (bel_alloc (Below.refl _ _) _)).call (Below.refl _ _).drew
    have TW : Var1 ((W0.alloc (Obj.cells #[.int .u64 root] 25)).alloc (Obj.cells #[.slice none 0 0] 24)).drew (W0.heap.size + 1) 24 (.slice none 0 0) := by
      have := (Var1.new (W0.alloc (Obj.cells #[.int .u64 root] 25)) 24 (.slice none 0 0)).call (Below.refl _ _).drew
      simpa using this
    have HTV := hid TV
    have HTW := hid TW
    clear R1 R2 R3 TV TW
    go_region_held3 (fun W => W.cell? ⟨w.heap.size, 0, none⟩ = some (.slice A1 n1 c1))
      (first | exact KK.out _ HH | exact KK.out _ HH.drew | exact KK.out _ hbR | exact KK.out _ hbV | exact KK.out _ hbVR | exact KK.out _ hbRV | exact KK.out _ HBB | exact KK.out _ (bel_alloc HBB _) | exact KK.out _ (HBB.setCell (p := ⟨W0.heap.size, 0, none⟩) (Nat.le_refl _) _) | exact KK.out _ (HBB.setCell (p := ⟨W0.heap.size + 1, 0, none⟩) (Nat.le_succ _) _) | exact KK.out _ (HBB.setCell (p := ⟨wA.heap.size, 0, none⟩) HBA.size _) | exact KK.out _ HBA | exact KK.out _ (bel_alloc HBA _) | go_keep)
      (first
        | (go_at_call 36; (with_reducible refine P1.out.mono ?_); rintro e wA ⟨vA, rfl, hoA, hbA⟩; obtain ⟨A7, n7, c7, rfl, hs7⟩ := hoA.formN; have HBA := bel_call hbR hbA)
        | (go_at_call 36; (with_reducible refine P2.out.mono ?_); rintro e wA ⟨vA, rfl, hoA, hbA⟩; obtain ⟨A7, n7, c7, rfl, hs7⟩ := hoA.formN; have HBA := bel_call hbVR hbA; have TA := HTV.out.call hbA; have tag := TA.lt)
        | (go_at_call 36; (with_reducible refine P3.out.mono ?_); rintro e wA ⟨vA, rfl, hoA, hbA⟩; obtain ⟨A7, n7, c7, rfl, hs7⟩ := hoA.formN; have HBA := bel_call hbRV hbA; have TA := HTW.out.call hbA; have tag := TA.lt)
        | (go_at_call 35; (refine (refRootA_any _ l key _ _ _ (oct root) wA (PA.out _ (bel_call hb0 HBA)) hk hs7).mono ?_); rw [WI.out, WE.out, WL.out]; rintro e wB ⟨vB, rfl, hoB, hbB⟩; obtain ⟨A8, n8, c8, rfl, hs8⟩ := hoB.read; have HBB := bel_call HBA hbB; have TB := TA.call hbB; have tb0 := TB.c0; have tbf := free_of_one TB)
        | (go_at_call 35; (refine (refRootA_any _ l key _ _ _ (oct root) wA (PA.out _ (bel_call hb0 HBA)) hk hs7).mono ?_); rw [WI.out, WE.out, WL.out]; rintro e wB ⟨vB, rfl, hoB, hbB⟩; obtain ⟨A8, n8, c8, rfl, hs8⟩ := hoB.read; have HBB := bel_call HBA hbB)
        | (go_at_call 35; (refine (refRootA_any _ l key _ _ _ (oct root) _ (PA.out _ (bel_call hb0 (bel_alloc HBA _))) hk (hs7.kept (bel_alloc (Below.refl _ _) _))).mono ?_); rw [WI.out, WE.out, WL.out]; rintro e wB ⟨vB, rfl, hoB, hbB⟩; obtain ⟨A8, n8, c8, rfl, hs8⟩ := hoB.read; have HBB := bel_call (bel_alloc HBA _) hbB; have TB := (Var1.new wA 24 (.slice none 0 0)).call hbB; have tb0 := TB.c0; have tbf := free_of_one TB))
    all_goals
      go_wp2_with fail
      go_meet
      case rel =>
        first
          | exact ⟨_, _, rfl, rfl, rfl, Var1.new _ _ _, HBB.size, (hoB.lows HBA.size HBA.size).keep (bel_alloc (Below.refl _ _) _), bel_alloc HBB _⟩
          | exact ⟨_, _, rfl, rfl, rfl, TB.set _, Nat.le_refl _, (hoB.setLow tag tag 0 _).lows HBA.size HBA.size, HBB.setCell (p := ⟨_, 0, none⟩) (Nat.le_refl _) _⟩
          | exact ⟨_, _, rfl, rfl, rfl, TB.set _, Nat.le_succ _, (hoB.setLow tag tag 0 _).lows HBA.size HBA.size, HBB.setCell (p := ⟨_, 0, none⟩) (Nat.le_succ _) _⟩
          | exact ⟨_, _, rfl, rfl, rfl, TB.set _, HBA.size, (hoB.setLow (by simp) (by simp) 0 _).lows (bel_alloc HBA _).size (bel_alloc HBA _).size, HBB.setCell (p := ⟨_, 0, none⟩) HBA.size _⟩
  case rest =>
  obtain ⟨g, v, rfl, rfl, rfl, TB, hg, ho, hb⟩ := hcut
  obtain ⟨A8, n8, c8, rfl, hs8⟩ := ho.read
  have V1 : Var1 wc (w.heap.size + 1) 24 (.slice none 0 0) := (hb.block _ (lt_of_block q1)).trans q1
  have V2 : Var3 wc (w.heap.size + 1 + 1) 28 (.int .u64 0) (.slice none 0 0) (.int .i64 0) := (hb.block _ (lt_of_block q2)).trans q2
  have hgz : w.heap.size + 3 ≤ g := by rw [← HZ3.out]; exact hg
  have HB := bel_call hb0 hb
  have a0 := V1.c0
  have af := V1.f
  have t0 := V2.c0
  have t1 := V2.c1
  have t2 := V2.c2
  have f0 := V2.f 0
  have f1 := V2.f 1
  have f2 := V2.f 2
  have z0 := TB.c0
  clear q0 q1 q2 hb0 hb hg
  by_cases he : we = 0
  · subst he
    have HT := hid (show mtT l root key = ⟨root, [], wi⟩ from by unfold mtT mtE; rw [WE.out, if_pos rfl, WI.out])
    have V1' := hid (((((V1.set (.slice A8 n8 c8)).setOther (b := w.heap.size + 1 + 1) (by omega) 0 (.int .u64 root)).setOther (b := w.heap.size + 1 + 1) (by omega) 1 (.slice none 0 0)).setOther (b := w.heap.size + 1 + 1) (by omega) 2 (.int .i64 wi)))
    have V2' := hid ((V2.setOther (b := w.heap.size + 1) (by omega) 0 (.slice A8 n8 c8)).set (.int .u64 root) (.slice none 0 0) (.int .i64 wi))
    have HO := hid (((((ho.setLow (b := w.heap.size + 1) (by rw [HZ3.out]; omega) (by rw [HZ3.out]; omega) 0 (.slice A8 n8 c8)).setLow (b := w.heap.size + 1 + 1) (by rw [HZ3.out]; omega) (by rw [HZ3.out]; omega) 0 (.int .u64 root)).setLow (b := w.heap.size + 1 + 1) (by rw [HZ3.out]; omega) (by rw [HZ3.out]; omega) 1 (.slice none 0 0)).setLow (b := w.heap.size + 1 + 1) (by rw [HZ3.out]; omega) (by rw [HZ3.out]; omega) 2 (.int .i64 wi)).lows (base' := w.heap.size) (lo' := w.heap.size) (by rw [HZ3.out]; omega) (by rw [HZ3.out]; omega))
    have HBE := hid ((((HB.setCell (p := ⟨w.heap.size + 1, 0, none⟩) (by show w.heap.size ≤ w.heap.size + 1; omega) (.slice A8 n8 c8)).setCell (p := ⟨w.heap.size + 1 + 1, 0, none⟩) (by show w.heap.size ≤ w.heap.size + 1 + 1; omega) (.int .u64 root)).setCell (p := ⟨w.heap.size + 1 + 1, 1, none⟩) (by show w.heap.size ≤ w.heap.size + 1 + 1; omega) (.slice none 0 0)).setCell (p := ⟨w.heap.size + 1 + 1, 2, none⟩) (by show w.heap.size ≤ w.heap.size + 1 + 1; omega) (.int .i64 wi))
    clear V1 V2 TB ho HB
    go_wp2
    refine bodyPost_ret_by (results_cct rfl _ _ (w.heap.size + 1) 0 rfl [.slice A8 n8 c8] _ (range1 V1'.out.c0) Try.underlying24 rfl (by kernel_rfl) (w.heap.size + 1 + 1) 0 rfl [.int .u64 root, .slice none 0 0, .int .i64 wi] _ (range3 V2'.out.c0 V2'.out.c1 V2'.out.c2) Try.underlying28 rfl (by kernel_rfl)) rfl ?_
    exact ⟨_, _, by unfold mtE; rw [WE.out]; rfl, by unfold mtL; rw [WL.out]; exact HO.out, by rw [HT.out]; exact ⟨_, rfl, OwnL.nil _ _ _ _ _⟩, HBE.out⟩
  · have HT := hid (show mtT l root key = zeroT from by unfold mtT mtE; rw [WE.out, if_neg he])
    have HWL := hid (show wl = [] from by rw [← WL.out]; unfold withL; rw [if_neg (by rw [WE.out]; exact he)])
    have hne : (we != 0) = true := by simpa using he
    have V1' := hid (((((V1.set (.slice none 0 0)).setOther (b := w.heap.size + 1 + 1) (by omega) 0 (.int .u64 0)).setOther (b := w.heap.size + 1 + 1) (by omega) 1 (.slice none 0 0)).setOther (b := w.heap.size + 1 + 1) (by omega) 2 (.int .i64 0)))
    have V2' := hid ((V2.setOther (b := w.heap.size + 1) (by omega) 0 (.slice none 0 0)).set (.int .u64 0) (.slice none 0 0) (.int .i64 0))
    have HBE := hid ((((HB.setCell (p := ⟨w.heap.size + 1, 0, none⟩) (by show w.heap.size ≤ w.heap.size + 1; omega) (.slice none 0 0)).setCell (p := ⟨w.heap.size + 1 + 1, 0, none⟩) (by show w.heap.size ≤ w.heap.size + 1 + 1; omega) (.int .u64 0)).setCell (p := ⟨w.heap.size + 1 + 1, 1, none⟩) (by show w.heap.size ≤ w.heap.size + 1 + 1; omega) (.slice none 0 0)).setCell (p := ⟨w.heap.size + 1 + 1, 2, none⟩) (by show w.heap.size ≤ w.heap.size + 1 + 1; omega) (.int .i64 0))
    clear V1 V2 TB ho HB he
    go_wp2
    refine bodyPost_ret_by (results_cct rfl _ _ (w.heap.size + 1) 0 rfl [.slice none 0 0] _ (range1 V1'.out.c0) Try.underlying24 rfl (by kernel_rfl) (w.heap.size + 1 + 1) 0 rfl [.int .u64 0, .slice none 0 0, .int .i64 0] _ (range3 V2'.out.c0 V2'.out.c1 V2'.out.c2) Try.underlying28 rfl (by kernel_rfl)) rfl ?_
    exact ⟨_, _, by unfold mtE; rw [WE.out]; rfl, by unfold mtL; rw [WL.out, HWL.out]; exact OwnL.nil _ _ _ _ _, by rw [HT.out]; exact ⟨_, rfl, OwnL.nil _ _ _ _ _⟩, HBE.out⟩
end Go.Proofs.Ytgiapfenalhleaa
