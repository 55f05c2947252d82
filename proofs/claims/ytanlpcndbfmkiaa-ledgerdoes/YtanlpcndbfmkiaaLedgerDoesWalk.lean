/-
  The walk of LedgerDoes.
-/
import Derived.Test.YtanlpcndbfmkiaaLedgerTellsWalk
import Derived.Test.YtanlpcndbfmkiaaScb
namespace Go.Proofs.Ytanlpcndbfmkiaa
open Go.RowKit Go.WalkArith

theorem Sl.fromC {α : Type} {L : Lay α} {w W : World} {lo : Nat} {A : Option Addr} {n c : Nat} {xs : List α} (h : Sl L w (From w lo) A n c xs) (hb : Below w.heap.size w W) : Sl L W (From W lo) A n c xs :=
  (h.keep fun _ hp => hb.cell hp.2.1).wide fun _ hq => hq.keep hb
theorem Sl.fromR {α : Type} {L : Lay α} {w W : World} {lo : Nat} {A : Option Addr} {n c : Nat} {xs : List α} (h : Sl L w (From w lo) A n c xs) (hb : Below w.heap.size w W) : Sl L W (· < W.heap.size) A n c xs := (h.fromC hb).wide fun _ h => h.2.1
/-- Where channels of a new row lie. -/
theorem chans_at {w : World} {lo : Nat} {A : Option Addr} {n c : Nat} {xs : List Chn} (h : Sl lay_Channel w (From w lo) A n c xs) (hn : 0 < n) : ∃ b off, A = some ⟨b, off, none⟩ ∧ lo ≤ b ∧ ∀ i, i < n → w.frozen? ⟨b, off + i * 7 + 1, none⟩ = false ∧ (∃ x, w.cell? ⟨b, off + i * 7 + 1, none⟩ = some (.int .u64 x)) ∧
    ∃ A' n' c' hs, w.cell? ⟨b, off + i * 7 + 5, none⟩ = some (.slice A' n' c') ∧ Sl lay_Hold w (From w lo) A' n' c' hs := by
  obtain ⟨b, off, -, -, -, hx, rfl, hb, -⟩ := chn_at h hn
  refine ⟨b, off, rfl, hb.1, fun i hi => ?_⟩
  obtain ⟨b', off', A', n', c', hx', he, hb', -, t1, -, -, -, t5, -, -, hs⟩ := chn_at h hi
  injection he with he
  injection he with e1 e2
  subst e1 e2
  exact ⟨hb.2.2 _, ⟨_, t1⟩, A', n', c', _, t5, hs⟩
theorem holds_at10 {w : World} {lo : Nat} {A : Option Addr} {n c : Nat} {xs : List Hld} (h : Sl lay_Hold w (From w lo) A n c xs) (hn : 0 < n) : ∃ b off, A = some ⟨b, off, none⟩ ∧ lo ≤ b ∧ ∀ i, i < n → w.frozen? ⟨b, off + i * 2 + 1, none⟩ = false ∧ ∃ x, w.cell? ⟨b, off + i * 2 + 1, none⟩ = some (.int .u64 x) := by
  obtain ⟨b, off, hx, rfl, hb, -, -, -⟩ := hld_at h hn
  refine ⟨b, off, rfl, hb.1, fun i hi => ?_⟩
  obtain ⟨b', off', hx', he, hb', -, t2, -⟩ := hld_at h hi
  injection he with he
  injection he with e1 e2
  subst e1 e2
  exact ⟨hb.2.2 _, _, t2⟩

set_option maxRecDepth 100000 in
set_option maxHeartbeats 8000000 in
theorem ledgerDoes_walkH (HG : LedgerSpec) (A0 : Option Addr) (n0 c0 : Nat) (x0 : List Chn) (s1 : Array Value) (x1 : Chn) (a2 a3 a4 : Int) (a5 : Bool) (w : World) (r0 : Sl lay_Channel w (· < w.heap.size) A0 n0 c0 x0) (r1 : lay_Channel.rep w (· < w.heap.size) x1 s1.toList) (b2 : 0 ≤ a2 ∧ a2 ≤ 18446744073709551615) (b3 : 0 ≤ a3 ∧ a3 ≤ 18446744073709551615) (b4 : 0 ≤ a4 ∧ a4 ≤ 18446744073709551615) :
    Calls Try.prog 3 #[.slice A0 n0 c0, .agg s1, .int .u64 a2, .int .u64 a3, .int .u64 a4, .bool a5] w fun e w' => e = .returned (.bool true) ∧ Below w.heap.size w w' := by
  have V2 := wf_u64 b2
  have V3 := wf_u64 b3
  have V4 := wf_u64 b4
  obtain ⟨A1a, n1a, c1a, rfl, hw1, hs1a⟩ := agg_Channel r1
  clear r1
  have hcap1 := hs1a.cap
  unfold maxLen at hcap1
  have HL0 := hid r0.len
  have KA := hid (fun (W : World) (h : Below w.heap.size w W) => Sl.call r0 h)
  clear r0
  have HB := Below.refl w.heap.size w
  go_enter Try.func3, Try.ntmps3
  have hba := bel_alloc (Below.refl w.heap.size w) (Obj.cells #[.int .u64 x1.Id, .int .u64 x1.Local, .int .u64 x1.Remote, .int .u64 x1.Reserve, .int .u64 x1.Most, .slice A1a n1a c1a, .bool x1.Open] 26)
  have B1 : Box (w.alloc (Obj.cells #[.int .u64 x1.Id, .int .u64 x1.Local, .int .u64 x1.Remote, .int .u64 x1.Reserve, .int .u64 x1.Most, .slice A1a n1a c1a, .bool x1.Open] 26)) w.heap.size 26 [.int .u64 x1.Id, .int .u64 x1.Local, .int .u64 x1.Remote, .int .u64 x1.Reserve, .int .u64 x1.Most, .slice A1a n1a c1a, .bool x1.Open] := Box.new w _ _
  have S1a := Sl.call hs1a hba
  replace HB := bel_call HB hba
  clear hba hs1a
  go_upto_region 1 with (fail)
  generalize w.alloc (Obj.cells #[.int .u64 x1.Id, .int .u64 x1.Local, .int .u64 x1.Remote, .int .u64 x1.Reserve, .int .u64 x1.Most, .slice A1a n1a c1a, .bool x1.Open] 26) = W1 at *
  have K1 := hid (fun (W : World) (h : Below W1.heap.size W1 W) => (show W.cell? ⟨w.heap.size, 0, none⟩ = some (.int .u64 x1.Id) ∧ W.cell? ⟨w.heap.size, 1, none⟩ = some (.int .u64 x1.Local) ∧ W.cell? ⟨w.heap.size, 2, none⟩ = some (.int .u64 x1.Remote) ∧ W.cell? ⟨w.heap.size, 3, none⟩ = some (.int .u64 x1.Reserve) ∧ W.cell? ⟨w.heap.size, 4, none⟩ = some (.int .u64 x1.Most) ∧ W.cell? ⟨w.heap.size, 5, none⟩ = some (.slice A1a n1a c1a) ∧ W.cell? ⟨w.heap.size, 6, none⟩ = some (.bool x1.Open) from ⟨(B1.call h).at_ 0 rfl, (B1.call h).at_ 1 rfl, (B1.call h).at_ 2 rfl, (B1.call h).at_ 3 rfl, (B1.call h).at_ 4 rfl, (B1.call h).at_ 5 rfl, (B1.call h).at_ 6 rfl⟩))
  have P1 := hid (fun (W : World) (h : Below W1.heap.size W1 W) => (show lay_Channel.rep W (· < W.heap.size) x1 #[.int .u64 x1.Id, .int .u64 x1.Local, .int .u64 x1.Remote, .int .u64 x1.Reserve, .int .u64 x1.Most, .slice A1a n1a c1a, .bool x1.Open].toList from chan_in hw1 S1a h))
  have HB1 := Below.refl W1.heap.size W1
  clear B1 S1a
  go_wp2_with fail
  with_reducible refine (live10_any HG _).mono ?_
  rintro e w1 ⟨rfl, hb⟩
  replace HB := bel_call HB hb
  replace HB1 := bel_call HB1 hb
  clear hb
  go_wp2_with fail
  with_reducible refine (refFew10_any _ _ _ x0 _ (KA.out _ HB)).mono ?_
  rintro e w2 ⟨rfl, hb⟩
  replace HB := bel_call HB hb
  replace HB1 := bel_call HB1 hb
  clear hb
  cases hfew : fewL x0
  · go_wp2
    go_ret
    exact ⟨rfl, HB⟩
  have HFW := hid (show (∀ c ∈ x0, c.Holds.length ≤ 20) ∧ x0.length ≤ 34 from by unfold fewL at hfew; simpa using hfew)
  clear hfew
  by_cases hbig : 20 < n1a
  · obtain ⟨p1x0, p1x1, p1x2, p1x3, p1x4, p1x5, p1x6⟩ := K1.out _ HB1
    have d1 : decide ((20 : Int) < (n1a : Int)) = true := by simp; omega
    go_wp2
    go_ret
    exact ⟨rfl, HB⟩
  have d1 : decide ((20 : Int) < (n1a : Int)) = false := by simp; omega
  have hn : n0 ≤ 1000 := by have := HFW.out.2; rw [HL0.out] at this; omega
  obtain ⟨p1x0, p1x1, p1x2, p1x3, p1x4, p1x5, p1x6⟩ := K1.out _ HB1
  go_wp2_with fail
  with_reducible refine (refCopy10_any _ _ _ x0 _ (KA.out _ HB) hn (fun c hc => Nat.le_trans (HFW.out.1 c hc) (by decide))).mono ?_
  rintro e w3 ⟨v, rfl, hv, hb⟩
  replace HB := bel_call HB hb
  replace HB1 := bel_call HB1 hb
  clear p1x0 p1x1 p1x2 p1x3 p1x4 p1x5 p1x6
  clear hb
  obtain ⟨Aw, nw, cw, rfl, hsw⟩ := hv.read
  have HBw := Below.refl w3.heap.size w3
  clear hv
  obtain ⟨lo, hlo⟩ : ∃ z, w3.heap.size = z := ⟨_, rfl⟩
  have HLO := hid (show w.heap.size ≤ lo from by rw [← hlo]; exact HB.size)
  have HLW := hid hlo
  clear hlo
  obtain ⟨ea, hea⟩ : ∃ z, opE x0 x1 = z := ⟨_, rfl⟩
  have Qea := hid hea
  clear hea
  obtain ⟨la, hla⟩ : ∃ z, opL x0 x1 = z := ⟨_, rfl⟩
  have Qla := hid hla
  clear hla
  have HLOW := hid (show lo ≤ w3.heap.size from by rw [← HLW.out]; exact HBw.size)
  obtain ⟨p1x0, p1x1, p1x2, p1x3, p1x4, p1x5, p1x6⟩ := K1.out _ HB1
  go_wp2_with fail
  with_reducible refine (HG.open_ _ _ _ x0 _ x1 _ (KA.out _ HB) (P1.out _ HB1)).mono ?_
  rw [Qea.out, Qla.out]
  rintro e w4 ⟨v, rfl, hv, hb⟩
  replace HB := bel_call HB hb
  replace HB1 := bel_call HB1 hb
  replace HBw := bel_call HBw hb
  clear p1x0 p1x1 p1x2 p1x3 p1x4 p1x5 p1x6
  clear hb
  obtain ⟨Ara, nra, cra, rfl, hsra⟩ := hv.sl (low := lo) HLOW.out HLOW.out
  have HBra := Below.refl w4.heap.size w4
  clear hv HLOW
  obtain ⟨p1x0, p1x1, p1x2, p1x3, p1x4, p1x5, p1x6⟩ := K1.out _ HB1
  go_wp2_with fail
  with_reducible refine (refOpen10_any _ _ _ x0 _ x1 _ (KA.out _ HB) (P1.out _ HB1)).mono ?_
  rw [Qea.out, Qla.out]
  rintro e w5 ⟨v, rfl, hv, hb⟩
  replace HB := bel_call HB hb
  replace HB1 := bel_call HB1 hb
  replace HBw := bel_call HBw hb
  replace HBra := bel_call HBra hb
  clear p1x0 p1x1 p1x2 p1x3 p1x4 p1x5 p1x6
  clear hb
  obtain ⟨Asa, nsa, csa, rfl, hssa⟩ := hv.read
  have HBsa := Below.refl w5.heap.size w5
  clear hv
  obtain ⟨eb, heb⟩ : ∃ z, lclE x0 a2 = z := ⟨_, rfl⟩
  have Qeb := hid heb
  clear heb
  obtain ⟨lb, hlb⟩ : ∃ z, lclL x0 a2 = z := ⟨_, rfl⟩
  have Qlb := hid hlb
  clear hlb
  have HLOW := hid (show lo ≤ w5.heap.size from by rw [← HLW.out]; exact HBw.size)
  go_wp2_with fail
  with_reducible refine (HG.close _ _ _ x0 a2 _ (KA.out _ HB) V2).mono ?_
  rw [Qeb.out, Qlb.out]
  rintro e w6 ⟨v, rfl, hv, hb⟩
  replace HB := bel_call HB hb
  replace HB1 := bel_call HB1 hb
  replace HBw := bel_call HBw hb
  replace HBra := bel_call HBra hb
  replace HBsa := bel_call HBsa hb
  clear hb
  obtain ⟨Arb, nrb, crb, rfl, hsrb⟩ := hv.sl (low := lo) HLOW.out HLOW.out
  have HBrb := Below.refl w6.heap.size w6
  clear hv HLOW
  go_wp2_with fail
  with_reducible refine (refClose10_any _ _ _ x0 a2 _ (KA.out _ HB)).mono ?_
  rw [Qeb.out, Qlb.out]
  rintro e w7 ⟨v, rfl, hv, hb⟩
  replace HB := bel_call HB hb
  replace HB1 := bel_call HB1 hb
  replace HBw := bel_call HBw hb
  replace HBra := bel_call HBra hb
  replace HBsa := bel_call HBsa hb
  replace HBrb := bel_call HBrb hb
  clear hb
  obtain ⟨Asb, nsb, csb, rfl, hssb⟩ := hv.read
  have HBsb := Below.refl w7.heap.size w7
  clear hv
  obtain ⟨ec, hec⟩ : ∃ z, lpuE x0 a2 a4 = z := ⟨_, rfl⟩
  have Qec := hid hec
  clear hec
  obtain ⟨lc, hlc⟩ : ∃ z, lpuL x0 a2 a4 = z := ⟨_, rfl⟩
  have Qlc := hid hlc
  clear hlc
  have HLOW := hid (show lo ≤ w7.heap.size from by rw [← HLW.out]; exact HBw.size)
  go_wp2_with fail
  with_reducible refine (HG.push _ _ _ x0 a2 a4 _ (KA.out _ HB) V2 V4).mono ?_
  rw [Qec.out, Qlc.out]
  rintro e w8 ⟨v, rfl, hv, hb⟩
  replace HB := bel_call HB hb
  replace HB1 := bel_call HB1 hb
  replace HBw := bel_call HBw hb
  replace HBra := bel_call HBra hb
  replace HBsa := bel_call HBsa hb
  replace HBrb := bel_call HBrb hb
  replace HBsb := bel_call HBsb hb
  clear hb
  obtain ⟨Arc, nrc, crc, rfl, hsrc⟩ := hv.sl (low := lo) HLOW.out HLOW.out
  have HBrc := Below.refl w8.heap.size w8
  clear hv HLOW
  go_wp2_with fail
  with_reducible refine (refPush10_any _ _ _ x0 a2 a4 _ (KA.out _ HB) V4).mono ?_
  rw [Qec.out, Qlc.out]
  rintro e w9 ⟨v, rfl, hv, hb⟩
  replace HB := bel_call HB hb
  replace HB1 := bel_call HB1 hb
  replace HBw := bel_call HBw hb
  replace HBra := bel_call HBra hb
  replace HBsa := bel_call HBsa hb
  replace HBrb := bel_call HBrb hb
  replace HBsb := bel_call HBsb hb
  replace HBrc := bel_call HBrc hb
  clear hb
  obtain ⟨Asc, nsc, csc, rfl, hssc⟩ := hv.read
  have HBsc := Below.refl w9.heap.size w9
  clear hv
  obtain ⟨ed, hed⟩ : ∃ z, lhoE x0 a2 a3 a4 = z := ⟨_, rfl⟩
  have Qed := hid hed
  clear hed
  obtain ⟨ld, hld⟩ : ∃ z, lhoL x0 a2 a3 a4 = z := ⟨_, rfl⟩
  have Qld := hid hld
  clear hld
  have HLOW := hid (show lo ≤ w9.heap.size from by rw [← HLW.out]; exact HBw.size)
  go_wp2_with fail
  with_reducible refine (HG.hold _ _ _ x0 a2 a3 a4 _ (KA.out _ HB) V2 V3 V4).mono ?_
  rw [Qed.out, Qld.out]
  rintro e w10 ⟨v, rfl, hv, hb⟩
  replace HB := bel_call HB hb
  replace HB1 := bel_call HB1 hb
  replace HBw := bel_call HBw hb
  replace HBra := bel_call HBra hb
  replace HBsa := bel_call HBsa hb
  replace HBrb := bel_call HBrb hb
  replace HBsb := bel_call HBsb hb
  replace HBrc := bel_call HBrc hb
  replace HBsc := bel_call HBsc hb
  clear hb
  obtain ⟨Ard, nrd, crd, rfl, hsrd⟩ := hv.sl (low := lo) HLOW.out HLOW.out
  have HBrd := Below.refl w10.heap.size w10
  clear hv HLOW
  go_wp2_with fail
  with_reducible refine (refHold10_any _ _ _ x0 a2 a3 a4 _ (KA.out _ HB) V3 V4).mono ?_
  rw [Qed.out, Qld.out]
  rintro e w11 ⟨v, rfl, hv, hb⟩
  replace HB := bel_call HB hb
  replace HB1 := bel_call HB1 hb
  replace HBw := bel_call HBw hb
  replace HBra := bel_call HBra hb
  replace HBsa := bel_call HBsa hb
  replace HBrb := bel_call HBrb hb
  replace HBsb := bel_call HBsb hb
  replace HBrc := bel_call HBrc hb
  replace HBsc := bel_call HBsc hb
  replace HBrd := bel_call HBrd hb
  clear hb
  obtain ⟨Asd, nsd, csd, rfl, hssd⟩ := hv.read
  have HBsd := Below.refl w11.heap.size w11
  clear hv
  obtain ⟨ef, hef⟩ : ∃ z, whE x0 a3 = z := ⟨_, rfl⟩
  have Qef := hid hef
  clear hef
  obtain ⟨lf, hlf⟩ : ∃ z, enL x0 a3 a5 = z := ⟨_, rfl⟩
  have Qlf := hid hlf
  clear hlf
  obtain ⟨nf, hnf⟩ : ∃ z, enN x0 a3 = z := ⟨_, rfl⟩
  have Qnf := hid hnf
  clear hnf
  have HLOW := hid (show lo ≤ w11.heap.size from by rw [← HLW.out]; exact HBw.size)
  go_wp2_with fail
  with_reducible refine (HG.end_ _ _ _ x0 a3 a5 _ (KA.out _ HB) V3).mono ?_
  rw [Qef.out, Qlf.out, Qnf.out]
  rintro e w12 ⟨v, rfl, hv, hb⟩
  replace HB := bel_call HB hb
  replace HB1 := bel_call HB1 hb
  replace HBw := bel_call HBw hb
  replace HBra := bel_call HBra hb
  replace HBsa := bel_call HBsa hb
  replace HBrb := bel_call HBrb hb
  replace HBsb := bel_call HBsb hb
  replace HBrc := bel_call HBrc hb
  replace HBsc := bel_call HBsc hb
  replace HBrd := bel_call HBrd hb
  replace HBsd := bel_call HBsd hb
  clear hb
  obtain ⟨Arf, nrf, crf, rfl, hsrf⟩ := hv.sl (low := lo) HLOW.out HLOW.out
  have HBrf := Below.refl w12.heap.size w12
  clear hv HLOW
  go_wp2_with fail
  with_reducible refine (refEnd10_any _ _ _ x0 a3 a5 _ (KA.out _ HB)).mono ?_
  rw [Qef.out, Qlf.out, Qnf.out]
  rintro e w13 ⟨v, rfl, hv, hb⟩
  replace HB := bel_call HB hb
  replace HB1 := bel_call HB1 hb
  replace HBw := bel_call HBw hb
  replace HBra := bel_call HBra hb
  replace HBsa := bel_call HBsa hb
  replace HBrb := bel_call HBrb hb
  replace HBsb := bel_call HBsb hb
  replace HBrc := bel_call HBrc hb
  replace HBsc := bel_call HBsc hb
  replace HBrd := bel_call HBrd hb
  replace HBsd := bel_call HBsd hb
  replace HBrf := bel_call HBrf hb
  clear hb
  obtain ⟨Asf, nsf, csf, rfl, hssf⟩ := hv.read
  have HBsf := Below.refl w13.heap.size w13
  clear hv
  have tea : (ea == ea) = true := by simp
  have teb : (eb == eb) = true := by simp
  have tec : (ec == ec) = true := by simp
  have ted : (ed == ed) = true := by simp
  have tef : (ef == ef) = true := by simp
  have tnf : (nf == nf) = true := by simp
  go_wp2_with fail
  with_reducible refine (refSame10_any _ _ _ _ _ _ la la _ (hsra.fromR HBra) (Sl.call hssa HBsa)).mono ?_
  rw [show decide (la = la) = true from decide_eq_true rfl]
  rintro e w14 ⟨rfl, hb⟩
  replace HB := bel_call HB hb
  replace HB1 := bel_call HB1 hb
  replace HBw := bel_call HBw hb
  replace HBra := bel_call HBra hb
  replace HBsa := bel_call HBsa hb
  replace HBrb := bel_call HBrb hb
  replace HBsb := bel_call HBsb hb
  replace HBrc := bel_call HBrc hb
  replace HBsc := bel_call HBsc hb
  replace HBrd := bel_call HBrd hb
  replace HBsd := bel_call HBsd hb
  replace HBrf := bel_call HBrf hb
  replace HBsf := bel_call HBsf hb
  clear hb
  go_wp2_with fail
  with_reducible refine (refSame10_any _ _ _ _ _ _ lb lb _ (hsrb.fromR HBrb) (Sl.call hssb HBsb)).mono ?_
  rw [show decide (lb = lb) = true from decide_eq_true rfl]
  rintro e w15 ⟨rfl, hb⟩
  replace HB := bel_call HB hb
  replace HB1 := bel_call HB1 hb
  replace HBw := bel_call HBw hb
  replace HBra := bel_call HBra hb
  replace HBsa := bel_call HBsa hb
  replace HBrb := bel_call HBrb hb
  replace HBsb := bel_call HBsb hb
  replace HBrc := bel_call HBrc hb
  replace HBsc := bel_call HBsc hb
  replace HBrd := bel_call HBrd hb
  replace HBsd := bel_call HBsd hb
  replace HBrf := bel_call HBrf hb
  replace HBsf := bel_call HBsf hb
  clear hb
  go_wp2_with fail
  with_reducible refine (refSame10_any _ _ _ _ _ _ lc lc _ (hsrc.fromR HBrc) (Sl.call hssc HBsc)).mono ?_
  rw [show decide (lc = lc) = true from decide_eq_true rfl]
  rintro e w16 ⟨rfl, hb⟩
  replace HB := bel_call HB hb
  replace HB1 := bel_call HB1 hb
  replace HBw := bel_call HBw hb
  replace HBra := bel_call HBra hb
  replace HBsa := bel_call HBsa hb
  replace HBrb := bel_call HBrb hb
  replace HBsb := bel_call HBsb hb
  replace HBrc := bel_call HBrc hb
  replace HBsc := bel_call HBsc hb
  replace HBrd := bel_call HBrd hb
  replace HBsd := bel_call HBsd hb
  replace HBrf := bel_call HBrf hb
  replace HBsf := bel_call HBsf hb
  clear hb
  go_wp2_with fail
  with_reducible refine (refSame10_any _ _ _ _ _ _ ld ld _ (hsrd.fromR HBrd) (Sl.call hssd HBsd)).mono ?_
  rw [show decide (ld = ld) = true from decide_eq_true rfl]
  rintro e w17 ⟨rfl, hb⟩
  replace HB := bel_call HB hb
  replace HB1 := bel_call HB1 hb
  replace HBw := bel_call HBw hb
  replace HBra := bel_call HBra hb
  replace HBsa := bel_call HBsa hb
  replace HBrb := bel_call HBrb hb
  replace HBsb := bel_call HBsb hb
  replace HBrc := bel_call HBrc hb
  replace HBsc := bel_call HBsc hb
  replace HBrd := bel_call HBrd hb
  replace HBsd := bel_call HBsd hb
  replace HBrf := bel_call HBrf hb
  replace HBsf := bel_call HBsf hb
  clear hb
  go_wp2_with fail
  with_reducible refine (refSame10_any _ _ _ _ _ _ lf lf _ (hsrf.fromR HBrf) (Sl.call hssf HBsf)).mono ?_
  rw [show decide (lf = lf) = true from decide_eq_true rfl]
  rintro e w18 ⟨rfl, hb⟩
  replace HB := bel_call HB hb
  replace HB1 := bel_call HB1 hb
  replace HBw := bel_call HBw hb
  replace HBra := bel_call HBra hb
  replace HBsa := bel_call HBsa hb
  replace HBrb := bel_call HBrb hb
  replace HBsb := bel_call HBsb hb
  replace HBrc := bel_call HBrc hb
  replace HBsc := bel_call HBsc hb
  replace HBrd := bel_call HBrd hb
  replace HBsd := bel_call HBsd hb
  replace HBrf := bel_call HBrf hb
  replace HBsf := bel_call HBsf hb
  clear hb
  have hba := bel_alloc (Below.refl w18.heap.size w18) (Obj.cells #[.slice Ara nra cra, .slice Arc nrc crc, .slice Ard nrd crd, .slice Arf nrf crf] 22)
  have BR := Var4.new w18 22 (.slice Ara nra cra) (.slice Arc nrc crc) (.slice Ard nrd crd) (.slice Arf nrf crf)
  replace HB := bel_call HB hba
  replace HB1 := bel_call HB1 hba
  replace HBw := bel_call HBw hba
  replace HBra := bel_call HBra hba
  replace HBsa := bel_call HBsa hba
  replace HBrb := bel_call HBrb hba
  replace HBsb := bel_call HBsb hba
  replace HBrc := bel_call HBrc hba
  replace HBsc := bel_call HBsc hba
  replace HBrd := bel_call HBrd hba
  replace HBsd := bel_call HBsd hba
  replace HBrf := bel_call HBrf hba
  replace HBsf := bel_call HBsf hba
  clear hba
  go_upto_region 18 with (fail)
  generalize w18.alloc (Obj.cells #[.slice Ara nra cra, .slice Arc nrc crc, .slice Ard nrd crd, .slice Arf nrf crf] 22) = wc at *
  generalize w18.heap.size = gr at *
  have HLC := hid (show lo ≤ wc.heap.size from by have := HBw.size; rw [HLW.out] at this; exact this)
  have Sa := hsra.fromC HBra
  have Sc := hsrc.fromC HBrc
  have Sd := hsrd.fromC HBrd
  have Sf := hsrf.fromC HBrf
  have HRO := hid (show ∀ j : Nat, j < 4 → ∃ A n c xs, wc.cell? ⟨gr, j, none⟩ = some (.slice A n c) ∧ Sl lay_Channel wc (From wc lo) A n c xs from fun j hj => by
    match j, hj with
    | 0, _ => exact ⟨_, _, _, _, BR.c0, Sa⟩
    | 1, _ => exact ⟨_, _, _, _, BR.c1, Sc⟩
    | 2, _ => exact ⟨_, _, _, _, BR.c2, Sd⟩
    | 3, _ => exact ⟨_, _, _, _, BR.c3, Sf⟩)
  clear Sa
  clear Sc
  clear Sd
  clear Sf
  clear BR hsra HBra hsrb HBrb hsrc HBrc hsrd HBrd hsrf HBrf hssa HBsa hssb HBsb hssc HBsc hssd HBsd hssf HBsf
  go_loopw [183] (fun i wr => ∃ r : Nat, r ≤ 4 ∧ i = .int .i64 r ∧ Scb lo wc wr) (fun i _ => 4 - (intOf i).toNat)
  case atStart => exact ⟨0, Nat.zero_le _, rfl, Scb.refl _ _⟩
  case round =>
  obtain ⟨r, hr, rfl, hsc⟩ := hrel
  by_cases hlt : r < 4
  rotate_left
  · have HBE := hid (HB.trans (hsc.bel.mono HLO.out))
    have HWE := hid (HBw.trans (hsc.bel.mono (by rw [HLW.out]; exact Nat.le_refl _)))
    go_wp2_with fail
    with_reducible refine (refSame10_any _ _ _ _ _ _ x0 x0 _ (KA.out _ HBE.out) (Sl.call hsw HWE.out)).mono ?_
    rw [show decide (x0 = x0) = true from decide_eq_true rfl]
    rintro e w99 ⟨rfl, hb⟩
    have HEE := bel_call HBE.out hb
    go_wp2
    go_ret
    exact ⟨rfl, HEE⟩
  obtain ⟨Ar, nr, cr, xr, hcr, hsr⟩ := HRO.out r hlt
  have ir : (0 : Int) ≤ (r : Int) ∧ (r : Int) < 4 := by omega
  have z1 := hsc.sl hcr
  have hcapr := hsr.cap
  unfold maxLen at hcapr
  go_wp2
  clear z1
  obtain ⟨wo, hwo⟩ : ∃ z, z = wr := ⟨_, rfl⟩
  subst hwo
  go_loopw [189] (fun i wr => ∃ m : Nat, m ≤ nr ∧ i = .int .i64 m ∧ Scb lo wc wr) (fun i _ => nr - (intOf i).toNat)
  case atStart => exact ⟨0, Nat.zero_le _, rfl, hsc⟩
  case round =>
  obtain ⟨m, hm, rfl, hsd⟩ := hrel
  by_cases hlm : m < nr
  rotate_left
  · go_wp2
    go_roundw
    case rel => exact ⟨r + 1, by omega, by go_num, hsd⟩
    case measure => simp [intOf]; omega
  obtain ⟨ba, oa, hAA, hlo2, hat⟩ := chans_at hsr (by omega)
  subst hAA
  obtain ⟨hf, ⟨x, hx⟩, A', n', c', hs, h5, hsh⟩ := hat m hlm
  obtain ⟨y, hy⟩ := hsd.ints _ _ _ _ hx
  have hfz := (hsd.fz ⟨ba, oa + m * 7 + 1, none⟩).trans hf
  have HSE := hsd.put hlo2 hx (IntKind.u64.wrap (y + 1))
  have z5 := HSE.sl h5
  have hcaph := hsh.cap
  unfold maxLen at hcaph
  clear hat
  go_wp2
  clear z5 hfz hy
  obtain ⟨wp, hwp⟩ : ∃ z, z = wr := ⟨_, rfl⟩
  subst hwp
  go_loopw [206] (fun i wr => ∃ q : Nat, q ≤ n' ∧ i = .int .i64 q ∧ Scb lo wc wr) (fun i _ => n' - (intOf i).toNat)
  case atStart => exact ⟨0, Nat.zero_le _, rfl, HSE⟩
  case round =>
  obtain ⟨q, hq, rfl, hsf⟩ := hrel
  by_cases hlq : q < n'
  · obtain ⟨bb, ob, hBB, hlo3, hbt⟩ := holds_at10 hsh (by omega)
    subst hBB
    obtain ⟨hf2, x2, hx2⟩ := hbt q hlq
    obtain ⟨y2, hy2⟩ := hsf.ints _ _ _ _ hx2
    have hfz2 := (hsf.fz ⟨bb, ob + q * 2 + 1, none⟩).trans hf2
    have z5 := hsf.sl h5
    clear hbt
    go_wp2
    go_roundw
    case rel => exact ⟨q + 1, by omega, by go_num, hsf.put hlo3 hx2 _⟩
    case measure => simp [intOf]; omega
  · go_wp2
    go_roundw
    case rel => exact ⟨m + 1, by omega, by go_num, hsf⟩
    case measure => simp [intOf]; omega
end Go.Proofs.Ytanlpcndbfmkiaa
