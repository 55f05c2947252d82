/-
  The walk of InvoiceDoes.
-/
import Derived.Test.YtannjlejghmfpaaInvoiceRef6
import Derived.Test.YtannjlejghmfpaaInvoiceRef7
import Derived.Test.YtannjlejghmfpaaScb
namespace Go.Proofs.Ytannjlejghmfpaa
open Go.RowKit Go.WalkArith

theorem Sl.fromI {α : Type} {L : Lay α} {w W : World} {lo : Nat} {A : Option Addr} {n c : Nat} {xs : List α} (h : Sl L w (From w lo) A n c xs) (hb : Below w.heap.size w W) : Sl L W (From W lo) A n c xs :=
  (h.keep fun _ hp => hb.cell hp.2.1).wide fun _ hq => hq.keep hb
theorem Sl.fromJ {α : Type} {L : Lay α} {w W : World} {lo : Nat} {A : Option Addr} {n c : Nat} {xs : List α} (h : Sl L w (From w lo) A n c xs) (hb : Below w.heap.size w W) : Sl L W (· < W.heap.size) A n c xs := (h.fromI hb).wide fun _ h => h.2.1
/-- Where invoices of a new row lie. -/
theorem invs_new {w : World} {lo : Nat} {A : Option Addr} {n c : Nat} {l : List Inv} (h : Sl lay_Invoice w (From w lo) A n c l) {j : Nat} (hj : j < n) :
    ∃ b off x, A = some ⟨b, off, none⟩ ∧ lo ≤ b ∧ w.frozen? ⟨b, off + j * 4 + 1, none⟩ = false ∧ w.cell? ⟨b, off + j * 4 + 1, none⟩ = some (.int .u64 x) := by
  obtain ⟨b, off, hx, hA, hb, -, h2, -⟩ := at_Invoice h hj
  exact ⟨b, off, _, hA, hb.1, hb.2.2 _, h2⟩
theorem refSame12_bel (A1 A2 : Option Addr) (n1 c1 n2 c2 : Nat) (l o : List Inv) (w : World) (h1 : Sl lay_Invoice w (· < w.heap.size) A1 n1 c1 l) (h2 : Sl lay_Invoice w (· < w.heap.size) A2 n2 c2 o) :
    Calls Try.prog 21 #[.slice A1 n1 c1, .slice A2 n2 c2] w fun e w' => e = .returned (.bool (decide (l = o))) ∧ Below w.heap.size w w' := by
  refine (refSame12_any _ _ _ _ _ _ (· < w.heap.size) l o w h1 h2).mono ?_
  rintro e w' ⟨h, m, rfl⟩
  exact ⟨h, bel_drewN (Below.refl _ _) m⟩

set_option maxRecDepth 100000 in
set_option maxHeartbeats 8000000 in
theorem invoiceDoes_walkH (HI : InvoiceSpec) (A0 : Option Addr) (n0 c0 : Nat) (x0 : List Inv) (A1 : Option Addr) (n1 c1 : Nat) (x1 : List Inv) (a2 a3 a4 a5 : Int) (w : World) (r0 : Sl lay_Invoice w (· < w.heap.size) A0 n0 c0 x0) (r1 : Sl lay_Invoice w (· < w.heap.size) A1 n1 c1 x1) (b2 : 0 ≤ a2 ∧ a2 ≤ 18446744073709551615) (b3 : 0 ≤ a3 ∧ a3 ≤ 18446744073709551615) (b4 : 0 ≤ a4 ∧ a4 ≤ 18446744073709551615) (b5 : 0 ≤ a5 ∧ a5 ≤ 18446744073709551615) :
    Calls Try.prog 3 #[.slice A0 n0 c0, .slice A1 n1 c1, .int .u64 a2, .int .u64 a3, .int .u64 a4, .int .u64 a5] w fun e w' => e = .returned (.bool true) ∧ Below w.heap.size w w' := by
  have V2 := wf_u64 b2
  have V3 := wf_u64 b3
  have V4 := wf_u64 b4
  have V5 := wf_u64 b5
  have hc0 := r0.cap
  have hc1 := r1.cap
  unfold maxLen at hc0 hc1
  have HL0 := hid r0.len
  have KA := hid (fun (W : World) (h : Below w.heap.size w W) => Sl.call r0 h)
  have KO := hid (fun (W : World) (h : Below w.heap.size w W) => Sl.call r1 h)
  clear r0 r1
  have HB := Below.refl w.heap.size w
  go_enter Try.func3, Try.ntmps3
  go_wp2_with fail
  with_reducible refine (live12_any HI _).mono ?_
  rintro e w1 ⟨rfl, hb⟩
  replace HB := bel_call HB hb
  clear hb
  go_wp2_with fail
  with_reducible refine (fewI_any _ n0 c0 _ (by unfold maxLen; omega)).mono ?_
  rintro e w2 ⟨rfl, hb⟩
  replace HB := bel_call HB hb
  clear hb
  cases hfew : fewI n0
  · go_wp2
    go_ret
    exact ⟨rfl, HB⟩
  go_wp2_with fail
  with_reducible refine (fewI_any _ n1 c1 _ (by unfold maxLen; omega)).mono ?_
  rintro e w3 ⟨rfl, hb⟩
  replace HB := bel_call HB hb
  clear hb
  cases hfew1 : fewI n1
  · go_wp2
    go_ret
    exact ⟨rfl, HB⟩
  have hn : n0 ≤ 258 := by unfold fewI at hfew; simp at hfew; omega
  clear hfew hfew1
  have HLX : ∀ q : Nat, q ≤ 258 → (0 + q) * 32 ≤ 140737488355328 ∧ 0 + q ≤ maxLen := fun q hq => ⟨by omega, by unfold maxLen; omega⟩
  have hlen1 := (HLX n0 hn).1
  have hlen2 := (HLX n0 hn).2
  clear HLX
  go_upto_region 6 with (at_builtin; go_must (refine wpList_catL rfl _ _ 22 rfl w3.heap.size none 37 _ 32 Try.underlying22 Try.infoInv rfl (by decide) (.slice none 0 0) [] x0 (· < w3.heap.size) A0 n0 c0 rfl rfl (OwnL.nil lay_Invoice _ _ none _) (KA.out _ HB) (fun b hb => ⟨trivial, hb, by simp [Value.ownBlock]⟩) (Nat.le_refl _) hlen1 hlen2 ?_; intro vh wh hoh hxh))
  have hbh : Below w3.heap.size w3 wh := (OwnL.nil lay_Invoice w3 w3.heap.size none 37).below hxh (Nat.le_refl _)
  rw [List.nil_append] at hoh
  obtain ⟨Aw, nw, cw, rfl, hsw⟩ := hoh.read
  replace HB := bel_call HB hbh
  clear hoh hxh hbh hlen1 hlen2
  have HBw := Below.refl wh.heap.size wh
  obtain ⟨lo, hlo⟩ : ∃ z, wh.heap.size = z := ⟨_, rfl⟩
  have HLO := hid (show w.heap.size ≤ lo from by rw [← hlo]; exact HB.size)
  have HLW := hid hlo
  clear hlo
  obtain ⟨ea, hea⟩ : ∃ z, crE x0 a2 a3 = z := ⟨_, rfl⟩
  have Qea := hid hea
  clear hea
  obtain ⟨la, hla⟩ : ∃ z, crL x0 a2 a3 a4 = z := ⟨_, rfl⟩
  have Qla := hid hla
  clear hla
  have HLOW := hid (show lo ≤ wh.heap.size from by rw [← HLW.out]; exact HBw.size)
  go_wp2_with fail
  with_reducible refine (HI.create _ _ _ x0 a2 a3 a4 _ (KA.out _ HB) V2 V3 V4).mono ?_
  rw [Qea.out, Qla.out]
  rintro e w4 ⟨v, rfl, hv, hb⟩
  replace HB := bel_call HB hb
  replace HBw := bel_call HBw hb
  clear hb
  obtain ⟨Ara, nra, cra, rfl, hsra⟩ := hv.sl (low := lo) HLOW.out HLOW.out
  have HBra := Below.refl w4.heap.size w4
  clear hv HLOW
  go_wp2_with fail
  with_reducible refine (refCreate12_any _ _ _ x0 a2 a3 a4 _ (KA.out _ HB) V2 V3 V4).mono ?_
  rw [Qea.out, Qla.out]
  rintro e w5 ⟨v, rfl, hv, hb⟩
  replace HB := bel_call HB hb
  replace HBw := bel_call HBw hb
  replace HBra := bel_call HBra hb
  clear hb
  obtain ⟨Asa, nsa, csa, rfl, hssa⟩ := hv.read
  have HBsa := Below.refl w5.heap.size w5
  clear hv
  obtain ⟨eb, heb⟩ : ∃ z, onE x0 a2 a5 = z := ⟨_, rfl⟩
  have Qeb := hid heb
  clear heb
  obtain ⟨lb, hlb⟩ : ∃ z, cnL x0 a2 a5 = z := ⟨_, rfl⟩
  have Qlb := hid hlb
  clear hlb
  have HLOW := hid (show lo ≤ w5.heap.size from by rw [← HLW.out]; exact HBw.size)
  go_wp2_with fail
  with_reducible refine (HI.cancel _ _ _ x0 a2 a5 _ (KA.out _ HB) V2 V5).mono ?_
  rw [Qeb.out, Qlb.out]
  rintro e w6 ⟨v, rfl, hv, hb⟩
  replace HB := bel_call HB hb
  replace HBw := bel_call HBw hb
  replace HBra := bel_call HBra hb
  replace HBsa := bel_call HBsa hb
  clear hb
  obtain ⟨Arb, nrb, crb, rfl, hsrb⟩ := hv.sl (low := lo) HLOW.out HLOW.out
  have HBrb := Below.refl w6.heap.size w6
  clear hv HLOW
  go_wp2_with fail
  with_reducible refine (refCancel12_any _ _ _ x0 a2 a5 _ (KA.out _ HB)).mono ?_
  rw [Qeb.out, Qlb.out]
  rintro e w7 ⟨v, rfl, hv, hb⟩
  replace HB := bel_call HB hb
  replace HBw := bel_call HBw hb
  replace HBra := bel_call HBra hb
  replace HBsa := bel_call HBsa hb
  replace HBrb := bel_call HBrb hb
  clear hb
  obtain ⟨Asb, nsb, csb, rfl, hssb⟩ := hv.read
  have HBsb := Below.refl w7.heap.size w7
  clear hv
  obtain ⟨ec, hec⟩ : ∃ z, pyE x0 a2 a3 a5 = z := ⟨_, rfl⟩
  have Qec := hid hec
  clear hec
  obtain ⟨lc, hlc⟩ : ∃ z, pyL x0 a2 a3 a5 = z := ⟨_, rfl⟩
  have Qlc := hid hlc
  clear hlc
  have HLOW := hid (show lo ≤ w7.heap.size from by rw [← HLW.out]; exact HBw.size)
  go_wp2_with fail
  with_reducible refine (HI.pay _ _ _ x0 a2 a3 a5 _ (KA.out _ HB) V2 V3 V5).mono ?_
  rw [Qec.out, Qlc.out]
  rintro e w8 ⟨v, rfl, hv, hb⟩
  replace HB := bel_call HB hb
  replace HBw := bel_call HBw hb
  replace HBra := bel_call HBra hb
  replace HBsa := bel_call HBsa hb
  replace HBrb := bel_call HBrb hb
  replace HBsb := bel_call HBsb hb
  clear hb
  obtain ⟨Arc, nrc, crc, rfl, hsrc⟩ := hv.sl (low := lo) HLOW.out HLOW.out
  have HBrc := Below.refl w8.heap.size w8
  clear hv HLOW
  go_wp2_with fail
  with_reducible refine (refPay12_any _ _ _ x0 a2 a3 a5 _ (KA.out _ HB)).mono ?_
  rw [Qec.out, Qlc.out]
  rintro e w9 ⟨v, rfl, hv, hb⟩
  replace HB := bel_call HB hb
  replace HBw := bel_call HBw hb
  replace HBra := bel_call HBra hb
  replace HBsa := bel_call HBsa hb
  replace HBrb := bel_call HBrb hb
  replace HBsb := bel_call HBsb hb
  replace HBrc := bel_call HBrc hb
  clear hb
  obtain ⟨Asc, nsc, csc, rfl, hssc⟩ := hv.read
  have HBsc := Below.refl w9.heap.size w9
  clear hv
  obtain ⟨ed, hed⟩ : ∃ z, inE x0 = z := ⟨_, rfl⟩
  have Qed := hid hed
  clear hed
  obtain ⟨ld, hld⟩ : ∃ z, swL x0 a5 = z := ⟨_, rfl⟩
  have Qld := hid hld
  clear hld
  have HLOW := hid (show lo ≤ w9.heap.size from by rw [← HLW.out]; exact HBw.size)
  go_wp2_with fail
  with_reducible refine (HI.sweep _ _ _ x0 a5 _ (KA.out _ HB) V5).mono ?_
  rw [Qed.out, Qld.out]
  rintro e w10 ⟨v, rfl, hv, hb⟩
  replace HB := bel_call HB hb
  replace HBw := bel_call HBw hb
  replace HBra := bel_call HBra hb
  replace HBsa := bel_call HBsa hb
  replace HBrb := bel_call HBrb hb
  replace HBsb := bel_call HBsb hb
  replace HBrc := bel_call HBrc hb
  replace HBsc := bel_call HBsc hb
  clear hb
  obtain ⟨Ard, nrd, crd, rfl, hsrd⟩ := hv.sl (low := lo) HLOW.out HLOW.out
  have HBrd := Below.refl w10.heap.size w10
  clear hv HLOW
  go_wp2_with fail
  with_reducible refine (refSweep12_any _ _ _ x0 a5 _ (KA.out _ HB)).mono ?_
  rw [Qed.out, Qld.out]
  rintro e w11 ⟨v, rfl, hv, hb⟩
  replace HB := bel_call HB hb
  replace HBw := bel_call HBw hb
  replace HBra := bel_call HBra hb
  replace HBsa := bel_call HBsa hb
  replace HBrb := bel_call HBrb hb
  replace HBsb := bel_call HBsb hb
  replace HBrc := bel_call HBrc hb
  replace HBsc := bel_call HBsc hb
  replace HBrd := bel_call HBrd hb
  clear hb
  obtain ⟨Asd, nsd, csd, rfl, hssd⟩ := hv.read
  have HBsd := Below.refl w11.heap.size w11
  clear hv
  obtain ⟨se, hse⟩ : ∃ z, stE x0 a2 = z := ⟨_, rfl⟩
  have Qse := hid hse
  clear hse
  obtain ⟨sv, hsv⟩ : ∃ z, stV x0 a2 a5 = z := ⟨_, rfl⟩
  have Qsv := hid hsv
  clear hsv
  go_wp2_with fail
  with_reducible refine (HI.state _ _ _ x0 a2 a5 _ (KA.out _ HB) V2 V5).mono ?_
  rw [Qse.out, Qsv.out]
  rintro e w12 ⟨rfl, hb⟩
  replace HB := bel_call HB hb
  replace HBw := bel_call HBw hb
  replace HBra := bel_call HBra hb
  replace HBsa := bel_call HBsa hb
  replace HBrb := bel_call HBrb hb
  replace HBsb := bel_call HBsb hb
  replace HBrc := bel_call HBrc hb
  replace HBsc := bel_call HBsc hb
  replace HBrd := bel_call HBrd hb
  replace HBsd := bel_call HBsd hb
  clear hb
  go_wp2_with fail
  with_reducible refine (refState12_any _ _ _ x0 a2 a5 _ (KA.out _ HB)).mono ?_
  rw [Qse.out, Qsv.out]
  rintro e w13 ⟨rfl, hb⟩
  replace HB := bel_call HB hb
  replace HBw := bel_call HBw hb
  replace HBra := bel_call HBra hb
  replace HBsa := bel_call HBsa hb
  replace HBrb := bel_call HBrb hb
  replace HBsb := bel_call HBsb hb
  replace HBrc := bel_call HBrc hb
  replace HBsc := bel_call HBsc hb
  replace HBrd := bel_call HBrd hb
  replace HBsd := bel_call HBsd hb
  clear hb
  have tea : (ea == ea) = true := by simp
  have teb : (eb == eb) = true := by simp
  have tec : (ec == ec) = true := by simp
  have ted : (ed == ed) = true := by simp
  have tse : (se == se) = true := by simp
  have tsv : (sv == sv) = true := by simp
  go_wp2_with fail
  with_reducible refine (refSame12_bel _ _ _ _ _ _ la la _ (hsra.fromJ HBra) (Sl.call hssa HBsa)).mono ?_
  rw [show decide (la = la) = true from decide_eq_true rfl]
  rintro e w14 ⟨rfl, hb⟩
  replace HB := bel_call HB hb
  replace HBw := bel_call HBw hb
  replace HBra := bel_call HBra hb
  replace HBsa := bel_call HBsa hb
  replace HBrb := bel_call HBrb hb
  replace HBsb := bel_call HBsb hb
  replace HBrc := bel_call HBrc hb
  replace HBsc := bel_call HBsc hb
  replace HBrd := bel_call HBrd hb
  replace HBsd := bel_call HBsd hb
  clear hb
  go_wp2_with fail
  with_reducible refine (refSame12_bel _ _ _ _ _ _ lb lb _ (hsrb.fromJ HBrb) (Sl.call hssb HBsb)).mono ?_
  rw [show decide (lb = lb) = true from decide_eq_true rfl]
  rintro e w15 ⟨rfl, hb⟩
  replace HB := bel_call HB hb
  replace HBw := bel_call HBw hb
  replace HBra := bel_call HBra hb
  replace HBsa := bel_call HBsa hb
  replace HBrb := bel_call HBrb hb
  replace HBsb := bel_call HBsb hb
  replace HBrc := bel_call HBrc hb
  replace HBsc := bel_call HBsc hb
  replace HBrd := bel_call HBrd hb
  replace HBsd := bel_call HBsd hb
  clear hb
  go_wp2_with fail
  with_reducible refine (refSame12_bel _ _ _ _ _ _ lc lc _ (hsrc.fromJ HBrc) (Sl.call hssc HBsc)).mono ?_
  rw [show decide (lc = lc) = true from decide_eq_true rfl]
  rintro e w16 ⟨rfl, hb⟩
  replace HB := bel_call HB hb
  replace HBw := bel_call HBw hb
  replace HBra := bel_call HBra hb
  replace HBsa := bel_call HBsa hb
  replace HBrb := bel_call HBrb hb
  replace HBsb := bel_call HBsb hb
  replace HBrc := bel_call HBrc hb
  replace HBsc := bel_call HBsc hb
  replace HBrd := bel_call HBrd hb
  replace HBsd := bel_call HBsd hb
  clear hb
  go_wp2_with fail
  with_reducible refine (refSame12_bel _ _ _ _ _ _ ld ld _ (hsrd.fromJ HBrd) (Sl.call hssd HBsd)).mono ?_
  rw [show decide (ld = ld) = true from decide_eq_true rfl]
  rintro e w17 ⟨rfl, hb⟩
  replace HB := bel_call HB hb
  replace HBw := bel_call HBw hb
  replace HBra := bel_call HBra hb
  replace HBsa := bel_call HBsa hb
  replace HBrb := bel_call HBrb hb
  replace HBsb := bel_call HBsb hb
  replace HBrc := bel_call HBrc hb
  replace HBsc := bel_call HBsc hb
  replace HBrd := bel_call HBrd hb
  replace HBsd := bel_call HBsd hb
  clear hb
  go_wp2_with fail
  with_reducible refine (HI.check _ _ _ x0 _ (KA.out _ HB)).mono ?_
  rw [Qed.out]
  rintro e w18 ⟨rfl, hb⟩
  replace HB := bel_call HB hb
  replace HBw := bel_call HBw hb
  replace HBra := bel_call HBra hb
  replace HBsa := bel_call HBsa hb
  replace HBrb := bel_call HBrb hb
  replace HBsb := bel_call HBsb hb
  replace HBrc := bel_call HBrc hb
  replace HBsc := bel_call HBsc hb
  replace HBrd := bel_call HBrd hb
  replace HBsd := bel_call HBsd hb
  clear hb
  go_wp2_with fail
  with_reducible refine (refCheck12_any _ _ _ x0 _ (KA.out _ HB)).mono ?_
  rw [Qed.out]
  rintro e w19 ⟨rfl, hb⟩
  replace HB := bel_call HB hb
  replace HBw := bel_call HBw hb
  replace HBra := bel_call HBra hb
  replace HBsa := bel_call HBsa hb
  replace HBrb := bel_call HBrb hb
  replace HBsb := bel_call HBsb hb
  replace HBrc := bel_call HBrc hb
  replace HBsc := bel_call HBsc hb
  replace HBrd := bel_call HBrd hb
  replace HBsd := bel_call HBsd hb
  clear hb
  obtain ⟨so, hso⟩ : ∃ z, decide (x0 = x1) = z := ⟨_, rfl⟩
  have Qso := hid hso
  clear hso
  have tso : (so == so) = true := by simp
  go_wp2_with fail
  with_reducible refine (HI.same _ _ _ _ _ _ x0 x1 _ (KA.out _ HB) (KO.out _ HB)).mono ?_
  rw [Qso.out]
  rintro e w20 ⟨rfl, hb⟩
  replace HB := bel_call HB hb
  replace HBw := bel_call HBw hb
  replace HBra := bel_call HBra hb
  replace HBsa := bel_call HBsa hb
  replace HBrb := bel_call HBrb hb
  replace HBsb := bel_call HBsb hb
  replace HBrc := bel_call HBrc hb
  replace HBsc := bel_call HBsc hb
  replace HBrd := bel_call HBrd hb
  replace HBsd := bel_call HBsd hb
  clear hb
  go_wp2_with fail
  with_reducible refine (refSame12_bel _ _ _ _ _ _ x0 x1 _ (KA.out _ HB) (KO.out _ HB)).mono ?_
  rw [Qso.out]
  rintro e w21 ⟨rfl, hb⟩
  replace HB := bel_call HB hb
  replace HBw := bel_call HBw hb
  replace HBra := bel_call HBra hb
  replace HBsa := bel_call HBsa hb
  replace HBrb := bel_call HBrb hb
  replace HBsb := bel_call HBsb hb
  replace HBrc := bel_call HBrc hb
  replace HBsc := bel_call HBsc hb
  replace HBrd := bel_call HBrd hb
  replace HBsd := bel_call HBsd hb
  clear hb
  have hba := bel_alloc (Below.refl w21.heap.size w21) (Obj.cells #[.slice Ara nra cra, .slice Arb nrb crb, .slice Arc nrc crc, .slice Ard nrd crd] 22)
  have BR := Var4.new w21 22 (.slice Ara nra cra) (.slice Arb nrb crb) (.slice Arc nrc crc) (.slice Ard nrd crd)
  replace HB := bel_call HB hba
  replace HBw := bel_call HBw hba
  replace HBra := bel_call HBra hba
  replace HBsa := bel_call HBsa hba
  replace HBrb := bel_call HBrb hba
  replace HBsb := bel_call HBsb hba
  replace HBrc := bel_call HBrc hba
  replace HBsc := bel_call HBsc hba
  replace HBrd := bel_call HBrd hba
  replace HBsd := bel_call HBsd hba
  clear hba
  go_upto_region 18 with (fail)
  generalize w21.alloc (Obj.cells #[.slice Ara nra cra, .slice Arb nrb crb, .slice Arc nrc crc, .slice Ard nrd crd] 22) = wc at *
  generalize w21.heap.size = gr at *
  have HLC := hid (show lo ≤ wc.heap.size from by have := HBw.size; rw [HLW.out] at this; exact this)
  have Sa := hsra.fromI HBra
  have Sb := hsrb.fromI HBrb
  have Sc := hsrc.fromI HBrc
  have Sd := hsrd.fromI HBrd
  have HRO := hid (show ∀ j : Nat, j < 4 → ∃ A n c xs, wc.cell? ⟨gr, j, none⟩ = some (.slice A n c) ∧ Sl lay_Invoice wc (From wc lo) A n c xs from fun j hj => by
    match j, hj with
    | 0, _ => exact ⟨_, _, _, _, BR.c0, Sa⟩
    | 1, _ => exact ⟨_, _, _, _, BR.c1, Sb⟩
    | 2, _ => exact ⟨_, _, _, _, BR.c2, Sc⟩
    | 3, _ => exact ⟨_, _, _, _, BR.c3, Sd⟩)
  clear Sa
  clear Sb
  clear Sc
  clear Sd
  clear BR hsra HBra hsrb HBrb hsrc HBrc hsrd HBrd hssa HBsa hssb HBsb hssc HBsc hssd HBsd
  go_loopw [192] (fun i wr => ∃ r : Nat, r ≤ 4 ∧ i = .int .i64 r ∧ Scb lo wc wr) (fun i _ => 4 - (intOf i).toNat)
  case atStart => exact ⟨0, Nat.zero_le _, rfl, Scb.refl _ _⟩
  case round =>
  obtain ⟨r, hr, rfl, hsc⟩ := hrel
  by_cases hlt : r < 4
  rotate_left
  · have HBE := hid (HB.trans (hsc.bel.mono HLO.out))
    have HWE := hid (HBw.trans (hsc.bel.mono (by rw [HLW.out]; exact Nat.le_refl _)))
    go_wp2_with fail
    with_reducible refine (refSame12_bel _ _ _ _ _ _ x0 x0 _ (KA.out _ HBE.out) (Sl.call hsw HWE.out)).mono ?_
    rw [show decide (x0 = x0) = true from decide_eq_true rfl]
    rintro e w99 ⟨rfl, hb⟩
    have HEE := bel_call HBE.out hb
    go_wp2
    go_ret
    exact ⟨rfl, HEE⟩
  obtain ⟨Ar, nr, cr, xr, hcr, hsr⟩ := HRO.out r hlt
  have ir : (0 : Int) ≤ (r : Int) ∧ (r : Int) < 4 := by omega
  have z1 := hsc.sl hcr
  have hcapr := hsr.cap
  unfold maxLen at hcapr
  go_wp2
  clear z1
  obtain ⟨wo, hwo⟩ : ∃ z, z = wr := ⟨_, rfl⟩
  subst hwo
  go_loopw [198] (fun i wr => ∃ m : Nat, m ≤ nr ∧ i = .int .i64 m ∧ Scb lo wc wr) (fun i _ => nr - (intOf i).toNat)
  case atStart => exact ⟨0, Nat.zero_le _, rfl, hsc⟩
  case round =>
  obtain ⟨m, hm, rfl, hsd⟩ := hrel
  by_cases hlm : m < nr
  rotate_left
  · go_wp2
    go_roundw
    case rel => exact ⟨r + 1, by omega, by go_num, hsd⟩
    case measure => simp [intOf]; omega
  obtain ⟨ba, oa, x, hAA, hlo2, hf, hx⟩ := invs_new hsr hlm
  subst hAA
  obtain ⟨y, hy⟩ := hsd.ints _ _ _ _ hx
  have hfz := (hsd.fz ⟨ba, oa + m * 4 + 1, none⟩).trans hf
  have HXX := hid hx
  clear hf hx
  go_wp2
  go_roundw
  case rel => exact ⟨m + 1, by omega, by go_num, hsd.put hlo2 HXX.out _⟩
  case measure => simp [intOf]; omega
end Go.Proofs.Ytannjlejghmfpaa
