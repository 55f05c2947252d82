/-
  The contract of the document's Bind of layer 7.
-/
import Derived.Test.YtgiapfenalhleaaPack1
import Derived.Test.YtgiapfenalhleaaPack2
import Derived.Test.YtgiapfenalhleaaPack3
import Derived.Test.YtgiapfenalhleaaPack4
import Derived.Test.YtgiapfenalhleaaPack5
import Derived.Test.YtgiapfenalhleaaPack6
import Derived.Test.YtgiapfenalhleaaPack7
import Derived.Test.YtgiapfenalhleaaPack8
import Derived.Test.YtgiapfenalhleaaPack9
import Derived.Test.YtgiapfenalhleaaPack10
import Derived.Test.YtgiapfenalhleaaPack11
import Derived.Test.YtgiapfenalhleaaPack12
import Derived.Test.YtgiapfenalhleaaPack13
import Derived.Test.YtgiapfenalhleaaPack14
import Derived.Test.YtgiapfenalhleaaPack15
namespace Go.Proofs.Ytgiapfenalhleaa
open Go.RowKit Go.WalkArith

theorem Try.infoCav7 : (Try.prog.info? 30).map (fun i => (i.zero, i.size, i.bytes)) = some (some (.agg #[.int .i64 0, .int .u64 0, .int .u64 0]), lay_Caveat.size, 24) := by kernel_rfl
theorem putC_len7 (c : Cav) : (putC c).length ≤ 27 := by
  unfold putC
  split
  · have := octs_len_le (numsC c)
    have h2 : (numsC c).length ≤ 3 := by unfold numsC; split <;> simp
    omega
  · simp
theorem repC_any {w : World} {S S' : Nat → Prop} : ∀ {xs : List Cav} {cs : List Value}, RepRow lay_Caveat w S xs cs → RepRow lay_Caveat w S' xs cs
  | [], _, h => h
  | _ :: _, _, ⟨c1, c2, h1, h2, h3⟩ => ⟨c1, c2, h1, rep_Caveat.2 (rep_Caveat.1 h2), repC_any h3⟩
theorem OwnL.cav {w : World} {base : Nat} {e : TypeId} {v : Value} {xs : List Cav} (h : OwnL lay_Caveat w base none e v xs) (lo : Nat) : OwnL lay_Caveat w base (some lo) e v xs := by
  obtain ⟨cs, h1, h2⟩ := h
  exact ⟨cs, h1, repC_any h2⟩
theorem bd_no {l : List Trm} {t : Tok} {c : Cav} {e : Int} (h : bdE l t c = e) (he : e ≠ 0) : bdE l t c = e ∧ bdL l t c = [] ∧ bdT l t c = zeroT :=
  ⟨h, if_neg (by rw [h]; exact he), if_neg (by rw [h]; exact he)⟩

set_option maxRecDepth 100000 in
set_option maxHeartbeats 8000000 in
theorem refBind_any (s1 s2 s3 : Array Value) (l : List Trm) (t : Tok) (c : Cav) (w : World) (g1 : lay_Arena.rep w (· < w.heap.size) l s1.toList) (g2 : lay_Token.rep w (· < w.heap.size) t s2.toList) (g3 : lay_Caveat.rep w (fun _ => True) c s3.toList) :
    Calls Try.prog 16 #[.agg s1, .agg s2, .agg s3] w fun e w' => ∃ v' vt, e = .returned (.tuple #[.agg #[v'], vt, .int .i64 (bdE l t c)]) ∧ OwnL lay_Term w' w.heap.size (some w.heap.size) 62 v' (bdL l t c) ∧ OwnT w' w.heap.size vt (bdT l t c) ∧ Below w.heap.size w w' := by
  obtain ⟨A1, n1, c1, rfl, hA⟩ := agg_Arena g1
  obtain ⟨A2, n2, c2, rfl, hR, hT, hL⟩ := agg_Token g2
  obtain ⟨rfl, hC⟩ := agg_Caveat g3
  clear g1 g2 g3
  have HL := hid hL.len
  have hcap := hL.cap
  unfold maxLen at hcap
  have hb0 : Below w.heap.size w (((((w.alloc (Obj.cells #[.slice A1 n1 c1] 24)).alloc (Obj.cells #[.int .u64 t.Root, .slice A2 n2 c2, .int .i64 t.Tag] 28)).alloc (Obj.cells #[.int .i64 c.Kind, .int .u64 c.A, .int .u64 c.B] 30)).alloc (Obj.cells #[.slice none 0 0] 24)).alloc (Obj.cells #[.int .u64 0, .slice none 0 0, .int .i64 0] 28)) := bel_alloc (bel_alloc (bel_alloc (bel_alloc (bel_alloc (Below.refl _ _) _) _) _) _) _
  have hv := five_vars (w := w) (a := Obj.cells #[.slice A1 n1 c1] 24) (b := Obj.cells #[.int .u64 t.Root, .slice A2 n2 c2, .int .i64 t.Tag] 28) (c := Obj.cells #[.int .i64 c.Kind, .int .u64 c.A, .int .u64 c.B] 30) (d := Obj.cells #[.slice none 0 0] 24) (e := Obj.cells #[.int .u64 0, .slice none 0 0, .int .i64 0] 28)
  have v0 : Var1 (((((w.alloc (Obj.cells #[.slice A1 n1 c1] 24)).alloc (Obj.cells #[.int .u64 t.Root, .slice A2 n2 c2, .int .i64 t.Tag] 28)).alloc (Obj.cells #[.int .i64 c.Kind, .int .u64 c.A, .int .u64 c.B] 30)).alloc (Obj.cells #[.slice none 0 0] 24)).alloc (Obj.cells #[.int .u64 0, .slice none 0 0, .int .i64 0] 28)) w.heap.size 24 (.slice A1 n1 c1) := hv.1
  have v1 : Var3 (((((w.alloc (Obj.cells #[.slice A1 n1 c1] 24)).alloc (Obj.cells #[.int .u64 t.Root, .slice A2 n2 c2, .int .i64 t.Tag] 28)).alloc (Obj.cells #[.int .i64 c.Kind, .int .u64 c.A, .int .u64 c.B] 30)).alloc (Obj.cells #[.slice none 0 0] 24)).alloc (Obj.cells #[.int .u64 0, .slice none 0 0, .int .i64 0] 28)) (w.heap.size + 1) 28 _ _ _ := hv.2.1
  have v2 : Var3 (((((w.alloc (Obj.cells #[.slice A1 n1 c1] 24)).alloc (Obj.cells #[.int .u64 t.Root, .slice A2 n2 c2, .int .i64 t.Tag] 28)).alloc (Obj.cells #[.int .i64 c.Kind, .int .u64 c.A, .int .u64 c.B] 30)).alloc (Obj.cells #[.slice none 0 0] 24)).alloc (Obj.cells #[.int .u64 0, .slice none 0 0, .int .i64 0] 28)) (w.heap.size + 1 + 1) 30 _ _ _ := hv.2.2.1
  have v3 : Var1 (((((w.alloc (Obj.cells #[.slice A1 n1 c1] 24)).alloc (Obj.cells #[.int .u64 t.Root, .slice A2 n2 c2, .int .i64 t.Tag] 28)).alloc (Obj.cells #[.int .i64 c.Kind, .int .u64 c.A, .int .u64 c.B] 30)).alloc (Obj.cells #[.slice none 0 0] 24)).alloc (Obj.cells #[.int .u64 0, .slice none 0 0, .int .i64 0] 28)) (w.heap.size + 1 + 1 + 1) 24 (.slice none 0 0) := hv.2.2.2.1
  have v4 : Var3 (((((w.alloc (Obj.cells #[.slice A1 n1 c1] 24)).alloc (Obj.cells #[.int .u64 t.Root, .slice A2 n2 c2, .int .i64 t.Tag] 28)).alloc (Obj.cells #[.int .i64 c.Kind, .int .u64 c.A, .int .u64 c.B] 30)).alloc (Obj.cells #[.slice none 0 0] 24)).alloc (Obj.cells #[.int .u64 0, .slice none 0 0, .int .i64 0] 28)) (w.heap.size + 1 + 1 + 1 + 1) 28 (.int .u64 0) (.slice none 0 0) (.int .i64 0) := hv.2.2.2.2
  have hz5 : (((((w.alloc (Obj.cells #[.slice A1 n1 c1] 24)).alloc (Obj.cells #[.int .u64 t.Root, .slice A2 n2 c2, .int .i64 t.Tag] 28)).alloc (Obj.cells #[.int .i64 c.Kind, .int .u64 c.A, .int .u64 c.B] 30)).alloc (Obj.cells #[.slice none 0 0] 24)).alloc (Obj.cells #[.int .u64 0, .slice none 0 0, .int .i64 0] 28)).heap.size = w.heap.size + 5 := by simp
  have HZ5 := hid hz5
  clear hv hz5
  have PA := hid (fun (W : World) (h : Below w.heap.size w W) => (show lay_Arena.rep W (· < W.heap.size) l #[.slice A1 n1 c1].toList from rep_Arena.2 ⟨_, _, _, rfl, Sl.call hA h⟩))
  have PT := hid (fun (W : World) (h : Below w.heap.size w W) => (show lay_Token.rep W (· < W.heap.size) t #[.int .u64 t.Root, .slice A2 n2 c2, .int .i64 t.Tag].toList from rep_Token.2 ⟨_, _, _, rfl, hR, hT, Sl.call hL h⟩))
  have PL := hid (fun (W : World) (h : Below w.heap.size w W) => Sl.call hL h)
  have PC := hid (fun (W : World) (S : Nat → Prop) => (show lay_Caveat.rep W S c #[.int .i64 c.Kind, .int .u64 c.A, .int .u64 c.B].toList from rep_Caveat.2 ⟨rfl, hC⟩))
  have hlt := putC_len7 c
  clear hA hL
  go_enter Try.func16, Try.ntmps16
  go_wp2_with fail
  generalize (((((w.alloc (Obj.cells #[.slice A1 n1 c1] 24)).alloc (Obj.cells #[.int .u64 t.Root, .slice A2 n2 c2, .int .i64 t.Tag] 28)).alloc (Obj.cells #[.int .i64 c.Kind, .int .u64 c.A, .int .u64 c.B] 30)).alloc (Obj.cells #[.slice none 0 0] 24)).alloc (Obj.cells #[.int .u64 0, .slice none 0 0, .int .i64 0] 28)) = W0 at *
  have KK := hid (fun (W : World) (h : Below W0.heap.size W0 W) => (show W.cell? ⟨w.heap.size, 0, none⟩ = some (.slice A1 n1 c1) ∧ W.cell? ⟨w.heap.size + 1, 0, none⟩ = some (.int .u64 t.Root) ∧ W.cell? ⟨w.heap.size + 1, 1, none⟩ = some (.slice A2 n2 c2) ∧ W.cell? ⟨w.heap.size + 1, 2, none⟩ = some (.int .i64 t.Tag) ∧ W.cell? ⟨w.heap.size + 1 + 1, 0, none⟩ = some (.int .i64 c.Kind) ∧ W.cell? ⟨w.heap.size + 1 + 1, 1, none⟩ = some (.int .u64 c.A) ∧ W.cell? ⟨w.heap.size + 1 + 1, 2, none⟩ = some (.int .u64 c.B) from ⟨(v0.call h).c0, (v1.call h).c0, (v1.call h).c1, (v1.call h).c2, (v2.call h).c0, (v2.call h).c1, (v2.call h).c2⟩))
  have V12 := hid (And.intro v1 v2)
  clear v0 v1 v2
  refine (refPutC_any _ (fun _ => True) c W0 (PC.out _ _)).mono ?_
  rintro e w1 ⟨vp, rfl, hop, hb1⟩
  obtain ⟨Ap, np, cp, rfl, hsp⟩ := hop.formN
  have HSP := hid hsp
  have H1 := Below.refl w1.heap.size w1
  have HB := hb1
  clear hb1 hop hsp
  rcases cavE_is (c := c) with ⟨hE, hok⟩ | ⟨hE, hok⟩
  rotate_left
  · rw [hE]
    have HE := hid (bd_no (l := l) (t := t) (c := c) (e := 1) (if_neg fun k => hok k.1) (by decide))
    clear hE hok
    have HBW := bel_call hb0 HB
    have V3 : Var1 w1 (w.heap.size + 1 + 1 + 1) 24 (.slice none 0 0) := v3.call HB
    have V4 : Var3 w1 (w.heap.size + 1 + 1 + 1 + 1) 28 (.int .u64 0) (.slice none 0 0) (.int .i64 0) := v4.call HB
    have a0 := V3.c0
    have af := V3.f
    have t0 := V4.c0
    have t1 := V4.c1
    have t2 := V4.c2
    have f0 := V4.f 0
    have f1 := V4.f 1
    have f2 := V4.f 2
    have V1' := hid (((((V3.set (.slice none 0 0)).setOther (b := w.heap.size + 1 + 1 + 1 + 1) (by omega) 0 (.int .u64 0)).setOther (b := w.heap.size + 1 + 1 + 1 + 1) (by omega) 1 (.slice none 0 0)).setOther (b := w.heap.size + 1 + 1 + 1 + 1) (by omega) 2 (.int .i64 0)))
    have V2' := hid ((V4.setOther (b := w.heap.size + 1 + 1 + 1) (by omega) 0 (.slice none 0 0)).set (.int .u64 0) (.slice none 0 0) (.int .i64 0))
    have HBE := hid ((((HBW.setCell (p := ⟨w.heap.size + 1 + 1 + 1, 0, none⟩) (by show w.heap.size ≤ w.heap.size + 1 + 1 + 1; omega) (.slice none 0 0)).setCell (p := ⟨w.heap.size + 1 + 1 + 1 + 1, 0, none⟩) (by show w.heap.size ≤ w.heap.size + 1 + 1 + 1 + 1; omega) (.int .u64 0)).setCell (p := ⟨w.heap.size + 1 + 1 + 1 + 1, 1, none⟩) (by show w.heap.size ≤ w.heap.size + 1 + 1 + 1 + 1; omega) (.slice none 0 0)).setCell (p := ⟨w.heap.size + 1 + 1 + 1 + 1, 2, none⟩) (by show w.heap.size ≤ w.heap.size + 1 + 1 + 1 + 1; omega) (.int .i64 0))
    clear V3 V4 HBW
    go_wp2
    refine bodyPost_ret_by (results_cct rfl _ _ (w.heap.size + 1 + 1 + 1) 0 rfl [.slice none 0 0] _ (range1 V1'.out.c0) Try.underlying24 rfl (by kernel_rfl) (w.heap.size + 1 + 1 + 1 + 1) 0 rfl [.int .u64 0, .slice none 0 0, .int .i64 0] _ (range3 V2'.out.c0 V2'.out.c1 V2'.out.c2) Try.underlying28 rfl (by kernel_rfl)) rfl ?_
    exact ⟨_, _, by rw [HE.out.1]; rfl, by rw [HE.out.2.1]; exact OwnL.nil _ _ _ _ _, by rw [HE.out.2.2]; exact ⟨_, rfl, OwnL.nil _ _ _ _ _⟩, HBE.out⟩
  rw [hE]
  clear hE
  obtain ⟨k0, k1, k2, k3, k4, k5, k6⟩ := KK.out _ HB
  go_wp2_with fail
  refine (refCheckT_any _ t w1 (PT.out _ (bel_call hb0 HB))).mono ?_
  rintro e w2 ⟨rfl, hb2⟩
  replace HB := bel_call HB hb2
  replace H1 := bel_call H1 hb2
  clear hb2 k0 k1 k2 k3 k4 k5 k6
  rcases tk_is (t := t) with ⟨hE, hok2⟩ | ⟨hE, hok2⟩
  rotate_left
  · rw [hE]
    have HE := hid (bd_no (l := l) (t := t) (c := c) (e := 1) (if_neg fun k => hok2 k.2.1) (by decide))
    clear hE hok2 hok
    have HBW := bel_call hb0 HB
    have V3 : Var1 w2 (w.heap.size + 1 + 1 + 1) 24 (.slice none 0 0) := v3.call HB
    have V4 : Var3 w2 (w.heap.size + 1 + 1 + 1 + 1) 28 (.int .u64 0) (.slice none 0 0) (.int .i64 0) := v4.call HB
    have a0 := V3.c0
    have af := V3.f
    have t0 := V4.c0
    have t1 := V4.c1
    have t2 := V4.c2
    have f0 := V4.f 0
    have f1 := V4.f 1
    have f2 := V4.f 2
    have V1' := hid (((((V3.set (.slice none 0 0)).setOther (b := w.heap.size + 1 + 1 + 1 + 1) (by omega) 0 (.int .u64 0)).setOther (b := w.heap.size + 1 + 1 + 1 + 1) (by omega) 1 (.slice none 0 0)).setOther (b := w.heap.size + 1 + 1 + 1 + 1) (by omega) 2 (.int .i64 0)))
    have V2' := hid ((V4.setOther (b := w.heap.size + 1 + 1 + 1) (by omega) 0 (.slice none 0 0)).set (.int .u64 0) (.slice none 0 0) (.int .i64 0))
    have HBE := hid ((((HBW.setCell (p := ⟨w.heap.size + 1 + 1 + 1, 0, none⟩) (by show w.heap.size ≤ w.heap.size + 1 + 1 + 1; omega) (.slice none 0 0)).setCell (p := ⟨w.heap.size + 1 + 1 + 1 + 1, 0, none⟩) (by show w.heap.size ≤ w.heap.size + 1 + 1 + 1 + 1; omega) (.int .u64 0)).setCell (p := ⟨w.heap.size + 1 + 1 + 1 + 1, 1, none⟩) (by show w.heap.size ≤ w.heap.size + 1 + 1 + 1 + 1; omega) (.slice none 0 0)).setCell (p := ⟨w.heap.size + 1 + 1 + 1 + 1, 2, none⟩) (by show w.heap.size ≤ w.heap.size + 1 + 1 + 1 + 1; omega) (.int .i64 0))
    clear V3 V4 HBW
    go_wp2
    refine bodyPost_ret_by (results_cct rfl _ _ (w.heap.size + 1 + 1 + 1) 0 rfl [.slice none 0 0] _ (range1 V1'.out.c0) Try.underlying24 rfl (by kernel_rfl) (w.heap.size + 1 + 1 + 1 + 1) 0 rfl [.int .u64 0, .slice none 0 0, .int .i64 0] _ (range3 V2'.out.c0 V2'.out.c1 V2'.out.c2) Try.underlying28 rfl (by kernel_rfl)) rfl ?_
    exact ⟨_, _, by rw [HE.out.1]; rfl, by rw [HE.out.2.1]; exact OwnL.nil _ _ _ _ _, by rw [HE.out.2.2]; exact ⟨_, rfl, OwnL.nil _ _ _ _ _⟩, HBE.out⟩
  rw [hE]
  clear hE
  obtain ⟨k0, k1, k2, k3, k4, k5, k6⟩ := KK.out _ HB
  go_wp2_with fail
  refine (refCheckA_any _ l w2 (PA.out _ (bel_call hb0 HB))).mono ?_
  rintro e w3 ⟨rfl, hb3⟩
  replace HB := bel_call HB hb3
  replace H1 := bel_call H1 hb3
  clear hb3 k0 k1 k2 k3 k4 k5 k6
  by_cases har : ArOk l
  rotate_left
  · rw [show arE l = 1 from if_neg har]
    have HE := hid (bd_no (l := l) (t := t) (c := c) (e := 1) (if_neg fun k => har k.2.2) (by decide))
    clear har hok2 hok
    have HBW := bel_call hb0 HB
    have V3 : Var1 w3 (w.heap.size + 1 + 1 + 1) 24 (.slice none 0 0) := v3.call HB
    have V4 : Var3 w3 (w.heap.size + 1 + 1 + 1 + 1) 28 (.int .u64 0) (.slice none 0 0) (.int .i64 0) := v4.call HB
    have a0 := V3.c0
    have af := V3.f
    have t0 := V4.c0
    have t1 := V4.c1
    have t2 := V4.c2
    have f0 := V4.f 0
    have f1 := V4.f 1
    have f2 := V4.f 2
    have V1' := hid (((((V3.set (.slice none 0 0)).setOther (b := w.heap.size + 1 + 1 + 1 + 1) (by omega) 0 (.int .u64 0)).setOther (b := w.heap.size + 1 + 1 + 1 + 1) (by omega) 1 (.slice none 0 0)).setOther (b := w.heap.size + 1 + 1 + 1 + 1) (by omega) 2 (.int .i64 0)))
    have V2' := hid ((V4.setOther (b := w.heap.size + 1 + 1 + 1) (by omega) 0 (.slice none 0 0)).set (.int .u64 0) (.slice none 0 0) (.int .i64 0))
    have HBE := hid ((((HBW.setCell (p := ⟨w.heap.size + 1 + 1 + 1, 0, none⟩) (by show w.heap.size ≤ w.heap.size + 1 + 1 + 1; omega) (.slice none 0 0)).setCell (p := ⟨w.heap.size + 1 + 1 + 1 + 1, 0, none⟩) (by show w.heap.size ≤ w.heap.size + 1 + 1 + 1 + 1; omega) (.int .u64 0)).setCell (p := ⟨w.heap.size + 1 + 1 + 1 + 1, 1, none⟩) (by show w.heap.size ≤ w.heap.size + 1 + 1 + 1 + 1; omega) (.slice none 0 0)).setCell (p := ⟨w.heap.size + 1 + 1 + 1 + 1, 2, none⟩) (by show w.heap.size ≤ w.heap.size + 1 + 1 + 1 + 1; omega) (.int .i64 0))
    clear V3 V4 HBW
    go_wp2
    refine bodyPost_ret_by (results_cct rfl _ _ (w.heap.size + 1 + 1 + 1) 0 rfl [.slice none 0 0] _ (range1 V1'.out.c0) Try.underlying24 rfl (by kernel_rfl) (w.heap.size + 1 + 1 + 1 + 1) 0 rfl [.int .u64 0, .slice none 0 0, .int .i64 0] _ (range3 V2'.out.c0 V2'.out.c1 V2'.out.c2) Try.underlying28 rfl (by kernel_rfl)) rfl ?_
    exact ⟨_, _, by rw [HE.out.1]; rfl, by rw [HE.out.2.1]; exact OwnL.nil _ _ _ _ _, by rw [HE.out.2.2]; exact ⟨_, rfl, OwnL.nil _ _ _ _ _⟩, HBE.out⟩
  rw [show arE l = 0 from if_pos har]
  have hbo : BindOk l t c := ⟨hok, hok2, har⟩
  have hn16 : n2 ≤ 16 := by rw [← HL.out]; exact hok2.1.1
  clear hok hok2 har
  obtain ⟨k0, k1, k2, k3, k4, k5, k6⟩ := KK.out _ HB
  by_cases hfull : n2 = 16
  · have HE := hid (bd_no (l := l) (t := t) (c := c) (e := 7) (by unfold bdE; rw [if_pos hbo, if_pos (by rw [HL.out]; exact hfull)]) (by decide))
    have d16 : ((n2 : Int) == 16) = true := by simp; omega
    clear hbo hfull
    have HBW := bel_call hb0 HB
    have V3 : Var1 w3 (w.heap.size + 1 + 1 + 1) 24 (.slice none 0 0) := v3.call HB
    have V4 : Var3 w3 (w.heap.size + 1 + 1 + 1 + 1) 28 (.int .u64 0) (.slice none 0 0) (.int .i64 0) := v4.call HB
    have a0 := V3.c0
    have af := V3.f
    have t0 := V4.c0
    have t1 := V4.c1
    have t2 := V4.c2
    have f0 := V4.f 0
    have f1 := V4.f 1
    have f2 := V4.f 2
    have V1' := hid (((((V3.set (.slice none 0 0)).setOther (b := w.heap.size + 1 + 1 + 1 + 1) (by omega) 0 (.int .u64 0)).setOther (b := w.heap.size + 1 + 1 + 1 + 1) (by omega) 1 (.slice none 0 0)).setOther (b := w.heap.size + 1 + 1 + 1 + 1) (by omega) 2 (.int .i64 0)))
    have V2' := hid ((V4.setOther (b := w.heap.size + 1 + 1 + 1) (by omega) 0 (.slice none 0 0)).set (.int .u64 0) (.slice none 0 0) (.int .i64 0))
    have HBE := hid ((((HBW.setCell (p := ⟨w.heap.size + 1 + 1 + 1, 0, none⟩) (by show w.heap.size ≤ w.heap.size + 1 + 1 + 1; omega) (.slice none 0 0)).setCell (p := ⟨w.heap.size + 1 + 1 + 1 + 1, 0, none⟩) (by show w.heap.size ≤ w.heap.size + 1 + 1 + 1 + 1; omega) (.int .u64 0)).setCell (p := ⟨w.heap.size + 1 + 1 + 1 + 1, 1, none⟩) (by show w.heap.size ≤ w.heap.size + 1 + 1 + 1 + 1; omega) (.slice none 0 0)).setCell (p := ⟨w.heap.size + 1 + 1 + 1 + 1, 2, none⟩) (by show w.heap.size ≤ w.heap.size + 1 + 1 + 1 + 1; omega) (.int .i64 0))
    clear V3 V4 HBW
    go_wp2
    refine bodyPost_ret_by (results_cct rfl _ _ (w.heap.size + 1 + 1 + 1) 0 rfl [.slice none 0 0] _ (range1 V1'.out.c0) Try.underlying24 rfl (by kernel_rfl) (w.heap.size + 1 + 1 + 1 + 1) 0 rfl [.int .u64 0, .slice none 0 0, .int .i64 0] _ (range3 V2'.out.c0 V2'.out.c1 V2'.out.c2) Try.underlying28 rfl (by kernel_rfl)) rfl ?_
    exact ⟨_, _, by rw [HE.out.1]; rfl, by rw [HE.out.2.1]; exact OwnL.nil _ _ _ _ _, by rw [HE.out.2.2]; exact ⟨_, rfl, OwnL.nil _ _ _ _ _⟩, HBE.out⟩
  have d16 : ((n2 : Int) == 16) = false := by simp; omega
  have HBD := hid (show bdE l t c = nextE l t.Tag (putC c) from by unfold bdE; rw [if_pos hbo, if_neg (by rw [HL.out]; exact hfull)])
  clear hbo
  obtain ⟨we, hwe⟩ : ∃ z, nextE l t.Tag (putC c) = z := ⟨_, rfl⟩
  obtain ⟨wi, hwi⟩ : ∃ z, nextI l t.Tag (putC c) = z := ⟨_, rfl⟩
  obtain ⟨wl, hwl⟩ : ∃ z, nextL l t.Tag (putC c) = z := ⟨_, rfl⟩
  have WE := hid hwe
  have WI := hid hwi
  have WL := hid hwl
  clear hwe hwi hwl
  go_wp2_with fail
  refine (refNextA_any _ l t.Tag _ _ _ (putC c) w3 (PA.out _ (bel_call hb0 HB)) hT (HSP.out.kept H1)).mono ?_
  rw [WE.out, WI.out, WL.out]
  rintro e w4 ⟨v4', rfl, ho4, hb4⟩
  obtain ⟨A8, n8, c8, rfl, hs8⟩ := ho4.read
  have hz3 := HB.size
  have hba := bel_alloc (Below.refl w4.heap.size w4) (Obj.cells #[.slice A8 n8 c8] 24)
  have TB := Var1.new w4 24 (.slice A8 n8 c8)
  have ho5 := ho4.keep hba
  have hgz : w.heap.size + 5 ≤ w4.heap.size := by rw [← HZ5.out]; exact (bel_call HB hb4).size
  replace HB := bel_call (bel_call HB hb4) hba
  clear hb4 hba k0 k1 k2 k3 k4 k5 k6 hs8 ho4 H1
  go_upto_region 7 with (fail)
  generalize w4.alloc (Obj.cells #[.slice A8 n8 c8] 24) = W4 at *
  generalize hgv : w4.heap.size = gv at *
  clear hgv
  by_cases he : we = 0
  rotate_left
  · have HE := hid (bd_no (l := l) (t := t) (c := c) (e := we) (by rw [HBD.out, WE.out]) he)
    have hne : (we != 0) = true := by simpa using he
    clear he
    have HBW := bel_call hb0 HB
    have V3 : Var1 W4 (w.heap.size + 1 + 1 + 1) 24 (.slice none 0 0) := v3.call HB
    have V4 : Var3 W4 (w.heap.size + 1 + 1 + 1 + 1) 28 (.int .u64 0) (.slice none 0 0) (.int .i64 0) := v4.call HB
    have a0 := V3.c0
    have af := V3.f
    have t0 := V4.c0
    have t1 := V4.c1
    have t2 := V4.c2
    have f0 := V4.f 0
    have f1 := V4.f 1
    have f2 := V4.f 2
    have V1' := hid (((((V3.set (.slice none 0 0)).setOther (b := w.heap.size + 1 + 1 + 1 + 1) (by omega) 0 (.int .u64 0)).setOther (b := w.heap.size + 1 + 1 + 1 + 1) (by omega) 1 (.slice none 0 0)).setOther (b := w.heap.size + 1 + 1 + 1 + 1) (by omega) 2 (.int .i64 0)))
    have V2' := hid ((V4.setOther (b := w.heap.size + 1 + 1 + 1) (by omega) 0 (.slice none 0 0)).set (.int .u64 0) (.slice none 0 0) (.int .i64 0))
    have HBE := hid ((((HBW.setCell (p := ⟨w.heap.size + 1 + 1 + 1, 0, none⟩) (by show w.heap.size ≤ w.heap.size + 1 + 1 + 1; omega) (.slice none 0 0)).setCell (p := ⟨w.heap.size + 1 + 1 + 1 + 1, 0, none⟩) (by show w.heap.size ≤ w.heap.size + 1 + 1 + 1 + 1; omega) (.int .u64 0)).setCell (p := ⟨w.heap.size + 1 + 1 + 1 + 1, 1, none⟩) (by show w.heap.size ≤ w.heap.size + 1 + 1 + 1 + 1; omega) (.slice none 0 0)).setCell (p := ⟨w.heap.size + 1 + 1 + 1 + 1, 2, none⟩) (by show w.heap.size ≤ w.heap.size + 1 + 1 + 1 + 1; omega) (.int .i64 0))
    clear V3 V4 HBW
    go_wp2
    refine bodyPost_ret_by (results_cct rfl _ _ (w.heap.size + 1 + 1 + 1) 0 rfl [.slice none 0 0] _ (range1 V1'.out.c0) Try.underlying24 rfl (by kernel_rfl) (w.heap.size + 1 + 1 + 1 + 1) 0 rfl [.int .u64 0, .slice none 0 0, .int .i64 0] _ (range3 V2'.out.c0 V2'.out.c1 V2'.out.c2) Try.underlying28 rfl (by kernel_rfl)) rfl ?_
    exact ⟨_, _, by rw [HE.out.1]; rfl, by rw [HE.out.2.1]; exact OwnL.nil _ _ _ _ _, by rw [HE.out.2.2]; exact ⟨_, rfl, OwnL.nil _ _ _ _ _⟩, HBE.out⟩
  subst he
  have HT := hid (show bdE l t c = 0 ∧ bdL l t c = wl ∧ bdT l t c = ⟨t.Root, t.L ++ [c], wi⟩ from by
    have e0 : bdE l t c = 0 := by rw [HBD.out, WE.out]
    exact ⟨e0, by unfold bdL; rw [if_pos e0, WL.out], by unfold bdT; rw [if_pos e0, WI.out]⟩)
  go_upto_region 9 with (fail)
  have KG := hid (fun (W : World) (x a b d : Value) (V1 : Var1 W gv 24 (.slice A8 n8 c8)) (V2 : Var3 W (w.heap.size + 1) 28 (.int .u64 t.Root) (.slice A2 n2 c2) (.int .i64 t.Tag)) (V3 : Var3 W (w.heap.size + 1 + 1) 30 (.int .i64 c.Kind) (.int .u64 c.A) (.int .u64 c.B)) (V4 : Var1 W (w.heap.size + 1 + 1 + 1) 24 x) (V5 : Var3 W (w.heap.size + 1 + 1 + 1 + 1) 28 a b d) => (show W.cell? ⟨gv, 0, none⟩ = some (.slice A8 n8 c8) ∧ W.cell? ⟨w.heap.size + 1, 0, none⟩ = some (.int .u64 t.Root) ∧ W.cell? ⟨w.heap.size + 1, 1, none⟩ = some (.slice A2 n2 c2) ∧ W.cell? ⟨w.heap.size + 1 + 1, 0, none⟩ = some (.int .i64 c.Kind) ∧ W.cell? ⟨w.heap.size + 1 + 1, 1, none⟩ = some (.int .u64 c.A) ∧ W.cell? ⟨w.heap.size + 1 + 1, 2, none⟩ = some (.int .u64 c.B) ∧ (W.cell? ⟨w.heap.size + 1 + 1 + 1, 0, none⟩).isSome = true ∧ W.frozen? ⟨w.heap.size + 1 + 1 + 1, 0, none⟩ = false ∧ (W.cell? ⟨w.heap.size + 1 + 1 + 1 + 1, 0, none⟩).isSome = true ∧ (W.cell? ⟨w.heap.size + 1 + 1 + 1 + 1, 1, none⟩).isSome = true ∧ (W.cell? ⟨w.heap.size + 1 + 1 + 1 + 1, 2, none⟩).isSome = true ∧ W.frozen? ⟨w.heap.size + 1 + 1 + 1 + 1, 0, none⟩ = false ∧ W.frozen? ⟨w.heap.size + 1 + 1 + 1 + 1, 1, none⟩ = false ∧ W.frozen? ⟨w.heap.size + 1 + 1 + 1 + 1, 2, none⟩ = false from ⟨V1.c0, V2.c0, V2.c1, V3.c0, V3.c1, V3.c2, by rw [V4.c0]; rfl, V4.f, by rw [V5.c0]; rfl, by rw [V5.c1]; rfl, by rw [V5.c2]; rfl, V5.f 0, V5.f 1, V5.f 2⟩))
  have HGV := hid hgz
  have KV := hid (fun (W : World) (h : Below W4.heap.size W4 W) => (show (Var1 W gv 24 (.slice A8 n8 c8) ∧ Var3 W (w.heap.size + 1) 28 (.int .u64 t.Root) (.slice A2 n2 c2) (.int .i64 t.Tag) ∧ Var3 W (w.heap.size + 1 + 1) 30 (.int .i64 c.Kind) (.int .u64 c.A) (.int .u64 c.B)) ∧ Var1 W (w.heap.size + 1 + 1 + 1) 24 (.slice none 0 0) ∧ Var3 W (w.heap.size + 1 + 1 + 1 + 1) 28 (.int .u64 0) (.slice none 0 0) (.int .i64 0) from ⟨⟨TB.call h, (V12.out.1.call HB).call h, (V12.out.2.call HB).call h⟩, (v3.call HB).call h, (v4.call HB).call h⟩))
  have K7 := hid (fun (W : World) (h : Below W4.heap.size W4 W) => by obtain ⟨⟨q1, q2, q3⟩, q4, q5⟩ := KV.out W h; exact KG.out W _ _ _ _ q1 q2 q3 q4 q5)
  have K8 := hid (fun (W : World) (h : Below W4.heap.size W4 W) (x : Value) => by obtain ⟨⟨q1, q2, q3⟩, q4, q5⟩ := KV.out W h; have g := HGV.out; exact KG.out (W.setCell ⟨w.heap.size + 1 + 1 + 1, 0, none⟩ x) _ _ _ _ (q1.setOther (by omega) 0 x) (q2.setOther (by omega) 0 x) (q3.setOther (by omega) 0 x) (q4.set x) (q5.setOther (by omega) 0 x))
  have K9 := hid (fun (W : World) (h : Below W4.heap.size W4 W) (x a b d : Value) => by obtain ⟨⟨q1, q2, q3⟩, q4, q5⟩ := KV.out W h; have g := HGV.out; exact KG.out ((((W.setCell ⟨w.heap.size + 1 + 1 + 1, 0, none⟩ x).setCell ⟨w.heap.size + 1 + 1 + 1 + 1, 0, none⟩ a).setCell ⟨w.heap.size + 1 + 1 + 1 + 1, 1, none⟩ b).setCell ⟨w.heap.size + 1 + 1 + 1 + 1, 2, none⟩ d) _ _ _ _ ((((q1.setOther (by omega) 0 x).setOther (by omega) 0 a).setOther (by omega) 1 b).setOther (by omega) 2 d) ((((q2.setOther (by omega) 0 x).setOther (by omega) 0 a).setOther (by omega) 1 b).setOther (by omega) 2 d) ((((q3.setOther (by omega) 0 x).setOther (by omega) 0 a).setOther (by omega) 1 b).setOther (by omega) 2 d) ((((q4.set x).setOther (by omega) 0 a).setOther (by omega) 1 b).setOther (by omega) 2 d) ((q5.setOther (by omega) 0 x).set a b d))
  have P6 := hid (PL.out _ (bel_call hb0 HB))
  have hS0 := K7.out _ (Below.refl W4.heap.size W4)
  obtain ⟨j0, j1, j2, j3, j4, j5, j6, j7, j8, j9, j10, j11, j12, j13⟩ := K7.out _ (Below.refl W4.heap.size W4)
  have hlen1 : (t.L.length + 1) * 24 ≤ 140737488355328 := by rw [HL.out]; omega
  have hlen2 : t.L.length + 1 ≤ maxLen := by rw [HL.out]; unfold maxLen; omega
  have hba := fun (W : World) (h : Below W4.heap.size W4 W) => bel_alloc h (Obj.cells #[.int .i64 c.Kind, .int .u64 c.A, .int .u64 c.B] 30)
  have HH := Below.refl W4.heap.size W4
  have KD := hid (K7.out (W4.drewN 1) HH.drew)
  have KE := hid (K7.out _ (hba (W4.drewN 1) HH.drew))
  have HHB := hid HB
  have HO5 := hid ho5
  have HV3 := hid v3
  have HV4 := hid v4
  have HZ3 := hid hz3
  clear v3 v4 TB ho5 HB hz3 hgz
  go_region_held3 (fun W => W.cell? ⟨gv, 0, none⟩ = some (.slice A8 n8 c8) ∧ W.cell? ⟨w.heap.size + 1, 0, none⟩ = some (.int .u64 t.Root) ∧ W.cell? ⟨w.heap.size + 1, 1, none⟩ = some (.slice A2 n2 c2) ∧ W.cell? ⟨w.heap.size + 1 + 1, 0, none⟩ = some (.int .i64 c.Kind) ∧ W.cell? ⟨w.heap.size + 1 + 1, 1, none⟩ = some (.int .u64 c.A) ∧ W.cell? ⟨w.heap.size + 1 + 1, 2, none⟩ = some (.int .u64 c.B) ∧ (W.cell? ⟨w.heap.size + 1 + 1 + 1, 0, none⟩).isSome = true ∧ W.frozen? ⟨w.heap.size + 1 + 1 + 1, 0, none⟩ = false ∧ (W.cell? ⟨w.heap.size + 1 + 1 + 1 + 1, 0, none⟩).isSome = true ∧ (W.cell? ⟨w.heap.size + 1 + 1 + 1 + 1, 1, none⟩).isSome = true ∧ (W.cell? ⟨w.heap.size + 1 + 1 + 1 + 1, 2, none⟩).isSome = true ∧ W.frozen? ⟨w.heap.size + 1 + 1 + 1 + 1, 0, none⟩ = false ∧ W.frozen? ⟨w.heap.size + 1 + 1 + 1 + 1, 1, none⟩ = false ∧ W.frozen? ⟨w.heap.size + 1 + 1 + 1 + 1, 2, none⟩ = false)
    (first | (with_reducible exact K7.out _ hb8) | (with_reducible exact K8.out _ hb8 _) | (with_reducible exact K9.out _ hb8 _ _ _ _) | (with_reducible exact K7.out _ (hba _ hb7)) | (with_reducible exact K7.out _ hb7) | (with_reducible exact hS0) | (with_reducible exact KD.out) | (with_reducible exact KE.out) | (with_reducible exact K7.out _ (hba _ HH).drew) | (with_reducible exact K7.out _ HH.drew) | (with_reducible exact K7.out _ (hba _ HH.drew)) | fail "keep")
    (first
      | (refine step_catL (by rfl) (.const (.slice none 0 0)) (.tmp 56) 26 (by rfl) W4.heap.size none 30 _ 24 Try.underlying26 Try.infoCav7 rfl (by decide) (.slice none 0 0) [] t.L (· < W4.heap.size) A2 n2 c2 (by rfl) (by rfl) (OwnL.nil _ _ _ _ _) (P6.out.drewN 1) (fun b hb => ⟨trivial, hb, by simp [Value.ownBlock]⟩) (Nat.le_refl _) (by simp; omega) (by simp; unfold maxLen; omega) ?_; intro v7 w7 ho7 hx7; rw [List.nil_append] at ho7; have hb7 : Below W4.heap.size W4 w7 := (Below.refl W4.heap.size W4).drew.trans hx7.of_nil)
      | (refine step_pushL (w := w7) (by rfl) (.tmp 57) (.tmp 59) 26 (by rfl) W4.heap.size none 30 _ 24 Try.underlying26 Try.infoCav7 rfl (by decide) v7 t.L c #[.int .i64 c.Kind, .int .u64 c.A, .int .u64 c.B] (fun _ => False) w7.heap.size (by rfl) (by rfl) (bel_alloc (Below.refl _ _) _) (heap_alloc_new _ _) ho7 (PC.out _ _) (fun b hb => hb.elim) hb7.size hlen1 hlen2 ?_; intro v8 w8 ho8 hx8; obtain ⟨A9, n9, c9, rfl, hs9⟩ := ho8.read; have hb8 : Below W4.heap.size W4 w8 := (hb7.alloc hb7.size _).trans ((ho7.keep (bel_alloc (Below.refl _ _) _)).below hx8 (Nat.le_trans hb7.size (by simp))); have HU := hid (ho8.cav W4.heap.size); have q45 := (KV.out w8 hb8).2; have a0 := q45.1.c0; have af := q45.1.f; have t0 := q45.2.c0; have t1 := q45.2.c1; have t2 := q45.2.c2; have f0 := q45.2.f 0; have f1 := q45.2.f 1; have f2 := q45.2.f 2; clear q45)
      | (refine step_catL (w := (W4.drewN 1).alloc (.cells #[.int .i64 c.Kind, .int .u64 c.A, .int .u64 c.B] 30)) (by rfl) (.const (.slice none 0 0)) (.tmp 56) 26 (by rfl) (W4.heap.size + 1) none 30 _ 24 Try.underlying26 Try.infoCav7 rfl (by decide) (.slice none 0 0) [] t.L (· < W4.heap.size) A2 n2 c2 (by rfl) (by rfl) (OwnL.nil _ _ _ _ _) ((P6.out.drewN 1).keep fun p hp => (bel_alloc (Below.refl W4.heap.size (W4.drewN 1)) _).cell hp) (fun b hb => ⟨trivial, by show b < ((W4.drewN 1).alloc _).heap.size; simp; omega, by simp [Value.ownBlock]⟩) (by simp) (by simp; omega) (by simp; unfold maxLen; omega) ?_; intro v7 w7 ho7 hx7; rw [List.nil_append] at ho7; have hbx : Below (W4.heap.size + 1) ((W4.drewN 1).alloc (.cells #[.int .i64 c.Kind, .int .u64 c.A, .int .u64 c.B] 30)) w7 := hx7.of_nilB (by simp); have hb7 : Below W4.heap.size W4 w7 := ((bel_drewN (Below.refl W4.heap.size W4) 1).alloc (Nat.le_refl _) _).trans (hbx.mono (by omega)); have hg7 := (hbx.block W4.heap.size (by omega)).trans (heap_alloc_new (W4.drewN 1) (.cells #[.int .i64 c.Kind, .int .u64 c.A, .int .u64 c.B] 30)))
      | (refine step_pushW (w := w7) (by rfl) (.tmp 57) (.tmp 59) 26 (by rfl) (W4.heap.size + 1) none 30 _ 24 Try.underlying26 Try.infoCav7 rfl (by decide) v7 t.L c #[.int .i64 c.Kind, .int .u64 c.A, .int .u64 c.B] (fun _ => False) W4.heap.size (by rfl) (by rfl) hg7 ho7 (PC.out _ _) (fun b hb => hb.elim) (lt_of_block hg7) hlen1 hlen2 ?_; intro v8 w8 ho8 hx8; obtain ⟨A9, n9, c9, rfl, hs9⟩ := ho8.read; have hb8 : Below W4.heap.size W4 w8 := hb7.trans ((ho7.below hx8 (lt_of_block hg7)).mono (by omega)); have HU := hid (((ho8.cav (W4.heap.size + 1)).lows (Nat.le_succ W4.heap.size) (Nat.le_succ W4.heap.size))); have q45 := (KV.out w8 hb8).2; have a0 := q45.1.c0; have af := q45.1.f; have t0 := q45.2.c0; have t1 := q45.2.c1; have t2 := q45.2.c2; have f0 := q45.2.f 0; have f1 := q45.2.f 1; have f2 := q45.2.f 2; clear q45))
  all_goals
    have HB8 := bel_call HHB.out hb8
    have HBW := bel_call hb0 HB8
    have hz4 := HHB.out.size
    have z5 := HZ5.out
    have z3 := HZ3.out
    have V3 : Var1 w8 (w.heap.size + 1 + 1 + 1) 24 (.slice none 0 0) := HV3.out.call HB8
    have V4 : Var3 w8 (w.heap.size + 1 + 1 + 1 + 1) 28 (.int .u64 0) (.slice none 0 0) (.int .i64 0) := HV4.out.call HB8
    have V1' := hid (((((V3.set (.slice A8 n8 c8)).setOther (b := w.heap.size + 1 + 1 + 1 + 1) (by omega) 0 (.int .u64 t.Root)).setOther (b := w.heap.size + 1 + 1 + 1 + 1) (by omega) 1 (.slice A9 n9 c9)).setOther (b := w.heap.size + 1 + 1 + 1 + 1) (by omega) 2 (.int .i64 wi)))
    have V2' := hid ((V4.setOther (b := w.heap.size + 1 + 1 + 1) (by omega) 0 (.slice A8 n8 c8)).set (.int .u64 t.Root) (.slice A9 n9 c9) (.int .i64 wi))
    have HO := hid ((((((HO5.out.keep hb8).setLow (b := w.heap.size + 1 + 1 + 1) (by omega) (by omega) 0 (.slice A8 n8 c8)).setLow (b := w.heap.size + 1 + 1 + 1 + 1) (by omega) (by omega) 0 (.int .u64 t.Root)).setLow (b := w.heap.size + 1 + 1 + 1 + 1) (by omega) (by omega) 1 (.slice A9 n9 c9)).setLow (b := w.heap.size + 1 + 1 + 1 + 1) (by omega) (by omega) 2 (.int .i64 wi)).lows (base' := w.heap.size) (lo' := w.heap.size) (by omega) (by omega))
    have HU2 := hid (((((HU.out.setLow (b := w.heap.size + 1 + 1 + 1) (by omega) (by omega) 0 (.slice A8 n8 c8)).setLow (b := w.heap.size + 1 + 1 + 1 + 1) (by omega) (by omega) 0 (.int .u64 t.Root)).setLow (b := w.heap.size + 1 + 1 + 1 + 1) (by omega) (by omega) 1 (.slice A9 n9 c9)).setLow (b := w.heap.size + 1 + 1 + 1 + 1) (by omega) (by omega) 2 (.int .i64 wi)).lows (base' := w.heap.size) (lo' := w.heap.size) (by omega) (by omega))
    have HBE := hid ((((HBW.setCell (p := ⟨w.heap.size + 1 + 1 + 1, 0, none⟩) (by show w.heap.size ≤ w.heap.size + 1 + 1 + 1; omega) (.slice A8 n8 c8)).setCell (p := ⟨w.heap.size + 1 + 1 + 1 + 1, 0, none⟩) (by show w.heap.size ≤ w.heap.size + 1 + 1 + 1 + 1; omega) (.int .u64 t.Root)).setCell (p := ⟨w.heap.size + 1 + 1 + 1 + 1, 1, none⟩) (by show w.heap.size ≤ w.heap.size + 1 + 1 + 1 + 1; omega) (.slice A9 n9 c9)).setCell (p := ⟨w.heap.size + 1 + 1 + 1 + 1, 2, none⟩) (by show w.heap.size ≤ w.heap.size + 1 + 1 + 1 + 1; omega) (.int .i64 wi))
    clear V3 V4 HBW z5 z3 hz4
    go_wp2
    refine bodyPost_ret_by (results_cct rfl _ _ (w.heap.size + 1 + 1 + 1) 0 rfl [.slice A8 n8 c8] _ (range1 V1'.out.c0) Try.underlying24 rfl (by kernel_rfl) (w.heap.size + 1 + 1 + 1 + 1) 0 rfl [.int .u64 t.Root, .slice A9 n9 c9, .int .i64 wi] _ (range3 V2'.out.c0 V2'.out.c1 V2'.out.c2) Try.underlying28 rfl (by kernel_rfl)) rfl ?_
    exact ⟨_, _, by rw [HT.out.1]; rfl, by rw [HT.out.2.1]; exact HO.out, by rw [HT.out.2.2]; exact ⟨_, rfl, HU2.out⟩, HBE.out⟩
end Go.Proofs.Ytgiapfenalhleaa
