/-
  The walk of TokenBack.
-/
import Derived.Test.YtgiapfenalhleaaPackTok2
import Derived.Test.YtgiapfenalhleaaTokenMath3
import Derived.Deep.Cut
import Derived.Deep.CutRange
namespace Go.Proofs.Ytgiapfenalhleaa
open Go.RowKit Go.WalkArith

theorem cavs_wf {w : World} {S : Nat → Prop} {A : Option Addr} {n c : Nat} {l : List Cav} (h : Sl lay_Caveat w S A n c l) : CavsWf l := fun x hx => by
  obtain ⟨j, hj, rfl⟩ := List.getElem_of_mem hx
  obtain ⟨_, _, _, _, _, _, _, _, hw⟩ := cav_at h (show j < n by rw [← h.len]; exact hj)
  exact hw
theorem tgt_root {xs : List Int} (hw : ∀ x ∈ xs, 0 ≤ x ∧ x ≤ 255) (h : tgtE xs = 0) : 0 ≤ (tgtT xs).Root ∧ (tgtT xs).Root ≤ 18446744073709551615 := by
  obtain ⟨l, e, hg⟩ : ∃ l e, getR xs = (l, e) := ⟨_, _, rfl⟩
  unfold tgtE at h
  unfold tgtT
  rw [hg] at h ⊢
  by_cases he : e = 0
  rotate_left
  · rw [if_pos he] at h; exact absurd h he
  subst he
  rw [if_neg (by simp)] at h
  rw [if_neg (by simp)]
  obtain ⟨hm, -, -, hwf⟩ := getR_back hw hg
  simp only at h ⊢
  unfold rtT
  rw [if_pos h]
  show 0 ≤ nV l 1 ∧ nV l 1 ≤ 18446744073709551615
  unfold rtE at h
  by_cases q1 : fE l 1 ≠ 0 ∨ fE l 2 ≠ 0
  · rw [if_pos q1] at h; simp at h
  rw [if_neg q1] at h
  by_cases q2 : nE l 1 = 0
  rotate_left
  · rw [if_pos q2] at h; exact absurd h q2
  have f1 : fE l 1 = 0 := by
    by_cases k : fE l 1 = 0
    · exact k
    · exact absurd (.inl k) q1
  exact nV_bd hm hwf f1 q2
theorem sl_tok1 {w : World} {A : Option Addr} {n c : Nat} {t : Tok} (h1 : (Lit.int .u64 t.Root).wf = true) (h2 : (Lit.int .i64 t.Tag).wf = true) (h : Sl lay_Caveat w (· < w.heap.size) A n c t.L) (b : Nat) (hb : b = w.heap.size) : Sl lay_Token (w.alloc (Obj.cells #[.int .u64 t.Root, .slice A n c, .int .i64 t.Tag] 28)) (· < (w.alloc (Obj.cells #[.int .u64 t.Root, .slice A n c, .int .i64 t.Tag] 28)).heap.size) (some ⟨b, 0, none⟩) 1 1 [t] := by
  subst hb
  have hb : Below w.heap.size w (w.alloc (Obj.cells #[.int .u64 t.Root, .slice A n c, .int .i64 t.Tag] 28)) := bel_alloc (Below.refl _ _) _
  refine ⟨rfl, Nat.le_refl _, by simp [maxLen], by simp, fun _ => ⟨w.heap.size, 0, [.int .u64 t.Root, .slice A n c, .int .i64 t.Tag], rfl, by simp, RepRow.single (rep_Token.2 ⟨A, n, c, rfl, h1, h2, Sl.call h hb⟩), fun i v hv => ?_⟩⟩
  rw [World.cell?_alloc_at _ _ _ _ rfl]
  simpa using hv
theorem tok_put (t : Tok) : tpE t = tkE t ∧ (tpE t ≠ 0 → tpO t = []) := by
  unfold tpE tkE tpO
  by_cases h : TokOk t
  · simp [h]
  · simp [h]

set_option maxRecDepth 100000 in
set_option maxHeartbeats 8000000 in
theorem tokenBack_walk (s0 : Array Value) (x0 : Tok) (A1 : Option Addr) (n1 c1 : Nat) (x1 : List Int) (w : World) (r0 : lay_Token.rep w (· < w.heap.size) x0 s0.toList) (r1 : Rd w w.heap.size .u8 A1 n1 c1 x1) :
    Calls Try.prog 5 #[.agg s0, .slice A1 n1 c1] w fun e w' => e = .returned (.bool true) ∧ Below w.heap.size w w' := by
  obtain ⟨A0, n0, c0, rfl, hR, hT, hL⟩ := agg_Token r0
  clear r0
  have hc1 := r1.cap
  unfold maxLen at hc1
  have hb0 : Below w.heap.size w (w.alloc (Obj.cells #[.int .u64 x0.Root, .slice A0 n0 c0, .int .i64 x0.Tag] 28)) := bel_alloc (Below.refl _ _) _
  have v0 := Var3.new w 28 (.int .u64 x0.Root) (.slice A0 n0 c0) (.int .i64 x0.Tag)
  have HCW := hid (cavs_wf hL)
  have hs0 := Sl.call hL hb0
  have R1 := hid ((r1.below hb0).more hb0.size)
  have HOC := hid (rd_octs r1)
  clear r1 hL
  go_enter Try.func5, Try.ntmps5
  go_wp2_with fail
  generalize w.alloc (Obj.cells #[.int .u64 x0.Root, .slice A0 n0 c0, .int .i64 x0.Tag] 28) = W0 at *
  have C0 := hid (fun (W : World) (h : Below W0.heap.size W0 W) => And.intro (v0.call h).c0 (And.intro (v0.call h).c1 (v0.call h).c2))
  have P0 := hid (fun (W : World) (h : Below W0.heap.size W0 W) => token_in hR hT hs0 h)
  have RW := hid (fun (W : World) (h : Below W0.heap.size W0 W) => (R1.out.below h).more h.size)
  have SW := hid (fun (W : World) (h : Below W0.heap.size W0 W) => Sl.call hs0 h)
  have hg0 := v0.lt
  refine (live7_any _).mono ?_
  rintro e w1 ⟨rfl, hb1⟩
  have HB := hb1
  clear hb1 R1 v0 hs0
  obtain ⟨k0, k1, k2⟩ := C0.out _ HB
  have HF := hid (fewK_any _ _ _ [x0] _ (sl_tok1 hR hT (SW.out _ HB) w1.heap.size rfl))
  rw [show fewK [x0] = decide (x0.L.length ≤ 20) from by simp [fewK]] at HF
  by_cases hfew : x0.L.length ≤ 20
  rotate_left
  · rw [decide_eq_false hfew] at HF
    go_wp2_with fail
    refine HF.out.mono ?_
    rintro e w2 ⟨rfl, hb2⟩
    go_wp2
    go_ret
    exact ⟨rfl, bel_call hb0 (bel_call (bel_alloc HB _) hb2)⟩
  rw [decide_eq_true hfew] at HF
  clear hfew
  by_cases hbig : 2000 < n1
  · have d1 : (2000 : Int) < (n1 : Int) := by omega
    go_wp2_with fail
    refine HF.out.mono ?_
    rintro e w2 ⟨rfl, hb2⟩
    go_wp2
    go_ret
    exact ⟨rfl, bel_call hb0 (bel_call (bel_alloc HB _) hb2)⟩
  have d1 : decide ((2000 : Int) < (n1 : Int)) = false := by simp; omega
  go_wp2_with fail
  refine HF.out.mono ?_
  rintro e w2 ⟨rfl, hb2⟩
  replace HB := bel_call (bel_alloc HB _) hb2
  clear hb2 HF k0 k1 k2
  go_wp2_with fail
  have HPG := hid (fun (h : tgtE x1 = 0) => And.intro (put_tget HOC.out h) (tgt_root HOC.out h))
  refine (tGet_any _ _ _ x1 _ (RW.out _ HB)).mono ?_
  obtain ⟨d, hd⟩ : ∃ z, tgtT x1 = z := ⟨_, rfl⟩
  obtain ⟨ge, hge⟩ : ∃ z, tgtE x1 = z := ⟨_, rfl⟩
  rw [hd, hge] at HPG ⊢
  clear hd hge
  rintro e w3 ⟨vt, rfl, ⟨u, rfl, hu⟩, hb3⟩
  obtain ⟨A2, n2, c2, rfl, hs2⟩ := hu.read
  replace HB := bel_call HB hb3
  clear hb3 hu
  have hba := bel_alloc (Below.refl w3.heap.size w3) (Obj.cells #[.int .u64 d.Root, .slice A2 n2 c2, .int .i64 d.Tag] 28)
  have VD := Var3.new w3 28 (.int .u64 d.Root) (.slice A2 n2 c2) (.int .i64 d.Tag)
  have hs3 := Sl.call hs2 hba
  replace HB := bel_call HB hba
  clear hba hs2
  go_upto_if 30 with (fail)
  generalize w3.alloc (Obj.cells #[.int .u64 d.Root, .slice A2 n2 c2, .int .i64 d.Tag] 28) = W2 at *
  generalize w3.heap.size = gd at *
  have HD := Below.refl W2.heap.size W2
  go_cut [7, 8] from 29 to 48 (fun _ _ wc => Below W2.heap.size W2 wc)
  case first =>
    by_cases hge : ge = 0
    · subst hge
      obtain ⟨⟨hok, hput⟩, hroot⟩ := HPG.out rfl
      have wR := wf_u64 hroot
      have wT : (Lit.int .i64 d.Tag).wf = true := wf_i64 (by have := hok.2.1; have := hok.2.2; omega)
      have PD := hid (fun (W : World) (h : Below W2.heap.size W2 W) => token_in wR wT hs3 h)
      have HPU := hid (tPut_any _ d W2 (PD.out _ HD))
      rw [show tpE d = 0 from if_pos hok, show tpO d = x1 from (if_pos hok).trans hput] at HPU
      have HCK := hid (fun (W : World) (h : Below W2.heap.size W2 W) => tCheck_any _ d W (PD.out _ h))
      rw [show tkE d = 0 from if_pos hok] at HCK
      have k0 := VD.c0
      have k1 := VD.c1
      have k2 := VD.c2
      clear hok hput
      go_wp2_with fail
      refine HPU.out.mono ?_
      rintro e w4 ⟨v4, rfl, ho4, hb4⟩
      obtain ⟨A3, n3, c3, rfl, q3⟩ := ho4.formN
      have HB4 := bel_call HB hb4
      have VD4 := VD.call hb4
      have j0 := VD4.c0
      have j1 := VD4.c1
      have j2 := VD4.c2
      clear k0 k1 k2
      go_wp2_with fail
      refine (sameBytes_any _ _ _ _ _ _ _ _ x1 x1 _ q3 (RW.out _ HB4)).mono ?_
      rw [decide_eq_true (rfl : x1 = x1)]
      rintro e w5 ⟨rfl, rfl⟩
      go_wp2_with fail
      refine (HCK.out _ hb4).mono ?_
      rintro e w6 ⟨rfl, hb6⟩
      go_wp2_with fail
      go_meet
      case rel => exact bel_call hb4 hb6
    · have hne : (ge == 0) = false := by simpa using hge
      go_wp2_with fail
      go_meet
      case rel => exact HD
  case rest =>
  replace HB := bel_call HB hcut
  clear hcut HD VD HPG hs3
  obtain ⟨k0, k1, k2⟩ := C0.out _ HB
  have HPU := hid (tPut_any _ x0 wc (P0.out _ HB))
  obtain ⟨e1, e2⟩ := tok_put x0
  have b0 := bounds_u64 hR
  rcases tk_is (t := x0) with ⟨hE, hok⟩ | ⟨hE, hok⟩
  rotate_left
  · rw [e1, hE, e2 (by rw [e1, hE]; decide)] at HPU
    have HCK := hid (fun (W : World) (h : Below W0.heap.size W0 W) => tCheck_any _ x0 W (P0.out _ h))
    rw [hE] at HCK
    clear hE hok e1 e2
    go_wp2_with fail
    refine HPU.out.mono ?_
    rintro e w4 ⟨v4, rfl, ho4, hb4⟩
    obtain ⟨A3, n3, c3, rfl, q3⟩ := ho4.formN
    have hn3 : n3 = 0 := q3.len.symm.trans List.length_nil
    subst hn3
    replace HB := bel_call HB hb4
    clear k0 k1 k2
    obtain ⟨k0, k1, k2⟩ := C0.out _ HB
    go_wp2_with fail
    refine (HCK.out _ HB).mono ?_
    rintro e w5 ⟨rfl, hb5⟩
    go_wp2
    go_ret
    exact ⟨rfl, bel_call hb0 (bel_call HB hb5)⟩
  · have HGP := hid (tget_put HCW.out b0 hok)
    rw [e1, hE, show tpO x0 = octsR (recsT x0) from if_pos hok] at HPU
    clear hE hok e1 e2
    go_wp2_with fail
    refine HPU.out.mono ?_
    rintro e w4 ⟨v4, rfl, ho4, hb4⟩
    obtain ⟨A3, n3, c3, rfl, q3⟩ := ho4.formN
    replace HB := bel_call HB hb4
    clear k0 k1 k2
    go_wp2_with fail
    refine (tGet_any _ _ _ _ _ q3).mono ?_
    rw [HGP.out.1, HGP.out.2]
    rintro e w5 ⟨vt, rfl, ⟨u, rfl, hu⟩, hb5⟩
    obtain ⟨A4, n4, c4, rfl, hs4⟩ := hu.read
    have hba := bel_alloc (Below.refl w5.heap.size w5) (Obj.cells #[.int .u64 x0.Root, .slice A4 n4 c4, .int .i64 x0.Tag] 28)
    replace HB := bel_call (bel_call HB hb5) hba
    obtain ⟨k0, k1, k2⟩ := C0.out _ HB
    have HSM := hid (tSame_any _ _ x0 x0 _ (token_in hR hT hs4 hba) (P0.out _ HB))
    rw [decide_eq_true (rfl : x0 = x0)] at HSM
    clear hu hs4 hb4 hb5 hba
    go_wp2_with fail
    refine HSM.out.mono ?_
    rintro e w6 ⟨rfl, hb6⟩
    go_wp2
    go_ret
    exact ⟨rfl, bel_call hb0 (bel_call HB hb6)⟩
end Go.Proofs.Ytgiapfenalhleaa
