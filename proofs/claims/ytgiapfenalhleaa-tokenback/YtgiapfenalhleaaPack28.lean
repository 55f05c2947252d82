/-
  The contract of the document's Put of layer 7.
  The contract of the document's own Find of layer 2.
  The contract of the document's own With of layer 2 (its records' octets may be those handed in).
  The contracts of package tlv's Check, Same, and what they call.
-/
import Derived.Deep.CutRange
import Derived.Test.YtgiapfenalhleaaPack1
import Derived.Test.YtgiapfenalhleaaPack2
import Derived.Test.YtgiapfenalhleaaPack3
import Derived.Test.YtgiapfenalhleaaPack4
import Derived.Test.YtgiapfenalhleaaPack5
import Derived.Test.YtgiapfenalhleaaPack6
import Derived.Test.YtgiapfenalhleaaPack7
import Derived.Test.YtgiapfenalhleaaPack8
import Derived.Test.YtgiapfenalhleaaPack9
import Derived.Test.YtgiapfenalhleaaPack10
import Derived.Test.YtgiapfenalhleaaPack11
import Derived.Test.YtgiapfenalhleaaPack12
import Derived.Test.YtgiapfenalhleaaPack13
import Derived.Test.YtgiapfenalhleaaPack14
import Derived.Test.YtgiapfenalhleaaPack15
import Derived.Test.YtgiapfenalhleaaPack16
import Derived.Test.YtgiapfenalhleaaPack17
import Derived.Test.YtgiapfenalhleaaPack18
import Derived.Test.YtgiapfenalhleaaPack19
import Derived.Test.YtgiapfenalhleaaPack20
import Derived.Test.YtgiapfenalhleaaPack21
import Derived.Test.YtgiapfenalhleaaPack22
import Derived.Test.YtgiapfenalhleaaPack23
import Derived.Test.YtgiapfenalhleaaPack24
import Derived.Test.YtgiapfenalhleaaPack25
import Derived.Test.YtgiapfenalhleaaPack26
import Derived.Test.YtgiapfenalhleaaPack27
namespace Go.Proofs.Ytgiapfenalhleaa
open Go.RowKit Go.WalkArith

/-- A literal of elements, just laid. -/
theorem OwnL.litL {α : Type} {L : Lay α} {w : World} {S : Nat → Prop} {xs : List α} {cy : Array Value} (e : TypeId) (lo : Option Nat) (h1 : cy.size = xs.length * L.size) (hm : xs.length ≤ maxLen) (hr : RepRow L w S xs cy.toList) (hS : ∀ b, S b → New w lo b ∧ b < w.heap.size) :
    OwnL L (w.alloc (.cells cy e)) w.heap.size lo e (.slice (some ⟨w.heap.size, 0, none⟩) xs.length xs.length) xs := by
  have hb : Below w.heap.size w (w.alloc (.cells cy e)) := bel_alloc (Below.refl _ _) _
  refine ⟨cy.toList, World.ownsRow_lit w cy xs.length (Nat.le_refl _) hm h1, ?_⟩
  refine (hr.keep fun p hp => hb.cell (hS _ hp).2).wide fun b hb' => ?_
  have h2 := hS b hb'
  exact ⟨h2.1.of_block (hb.block b h2.2), Nat.lt_of_lt_of_le h2.2 hb.size, fun he => by simp [Value.ownBlock] at he; omega⟩
theorem Sl.fromKeep {α : Type} {L : Lay α} {w w' : World} {l : Nat} {A : Option Addr} {n c : Nat} {xs : List α} (h : Sl L w (From w l) A n c xs) (hb : Below w.heap.size w w') : Sl L w' (From w' l) A n c xs := (h.keep fun _ hp => hb.cell hp.2.1).wide fun _ hp => hp.keep hb

set_option maxRecDepth 100000 in
set_option maxHeartbeats 8000000 in
theorem refPutT_any (s : Array Value) (t : Tok) (w : World) (g : lay_Token.rep w (· < w.heap.size) t s.toList) :
    Calls Try.prog 26 #[.agg s] w fun e w' => ∃ v', e = .returned (.tuple #[v', .int .i64 (tpE t)]) ∧ Own w' w.heap.size 5 .u8 v' (tpO t) ∧ Below w.heap.size w w' := by
  obtain ⟨A2, n2, c2, rfl, hR, hT, hL⟩ := agg_Token g
  clear g
  have HL := hid hL.len
  have hb0 : Below w.heap.size w (w.alloc (Obj.cells #[.int .u64 t.Root, .slice A2 n2 c2, .int .i64 t.Tag] 28)) := bel_alloc (Below.refl _ _) _
  have v0 : Var3 (w.alloc (Obj.cells #[.int .u64 t.Root, .slice A2 n2 c2, .int .i64 t.Tag] 28)) w.heap.size 28 (.int .u64 t.Root) (.slice A2 n2 c2) (.int .i64 t.Tag) := Var3.new _ _ _ _ _
  have PT := hid (fun (W : World) (h : Below w.heap.size w W) => (show lay_Token.rep W (· < W.heap.size) t #[.int .u64 t.Root, .slice A2 n2 c2, .int .i64 t.Tag].toList from rep_Token.2 ⟨_, _, _, rfl, hR, hT, Sl.call hL h⟩))
  have PL := hid (fun (W : World) (h : Below w.heap.size w W) => Sl.call hL h)
  go_enter Try.func26, Try.ntmps26
  go_wp2_with fail
  generalize w.alloc (Obj.cells #[.int .u64 t.Root, .slice A2 n2 c2, .int .i64 t.Tag] 28) = W0 at *
  refine (refCheckT_any _ t W0 (PT.out _ hb0)).mono ?_
  rintro e w1 ⟨rfl, hb1⟩
  have HB := bel_call hb0 hb1
  have v1 := v0.call hb1
  clear v0 hb0 hb1
  rcases tk_is (t := t) with ⟨hE, hok⟩ | ⟨hE, hok⟩
  rotate_left
  · rw [hE]
    have HE := hid (show tpE t = 1 ∧ tpO t = [] from ⟨if_neg hok, if_neg hok⟩)
    clear hE hok
    go_wp2
    go_ret2
    exact ⟨_, by rw [HE.out.1]; rfl, by rw [HE.out.2]; exact Own.nil _ _ _ _, HB⟩
  rw [hE]
  have HE := hid (show tpE t = 0 ∧ tpO t = octsR (recsT t) from ⟨if_pos hok, if_pos hok⟩)
  have hn16 : n2 ≤ 16 := by rw [← HL.out]; exact hok.1.1
  clear hE
  have hTu : (Lit.int .u64 t.Tag).wf = true := by have := hok.2; exact wf_u64 (by omega)
  have hwt : IntKind.u64.wrap t.Tag = t.Tag := by have := hok.2; exact IntWalk.u64_in _ (by omega)
  go_upto_region 3 with (fail)
  go_cut [4] from 12 to 24 (fun p wc => ∃ v, p = v ∧ OwnL lay_Record wc w1.heap.size (some w1.heap.size) 83 v [⟨1, oct t.Root⟩, ⟨2, oct t.Tag⟩] ∧ Below w1.heap.size w1 wc)
  case first =>
    have HH := Below.refl w1.heap.size w1
    have KK := hid (fun (W : World) (h : Below w1.heap.size w1 W) => (show W.cell? ⟨w.heap.size, 0, none⟩ = some (.int .u64 t.Root) ∧ W.cell? ⟨w.heap.size, 2, none⟩ = some (.int .i64 t.Tag) from ⟨(v1.call h).c0, (v1.call h).c2⟩))
    obtain ⟨k0, k2⟩ := KK.out _ HH
    have hbR : Below w1.heap.size w1 (w1.alloc (Obj.cells #[.int .u64 t.Root] 25)).drew := (bel_alloc HH _).drew
    have hbG : Below w1.heap.size w1 (w1.alloc (Obj.cells #[.int .u64 t.Tag] 25)).drew := (bel_alloc HH _).drew
    have hbRG : Below w1.heap.size w1 ((w1.alloc (Obj.cells #[.int .u64 t.Root] 25)).alloc (Obj.cells #[.int .u64 t.Tag] 25)).drew := (bel_alloc (bel_alloc HH _) _).drew
    have hbGR : Below w1.heap.size w1 ((w1.alloc (Obj.cells #[.int .u64 t.Tag] 25)).alloc (Obj.cells #[.int .u64 t.Root] 25)).drew := (bel_alloc (bel_alloc HH _) _).drew
    have R1 := rd_nums1 (w := w1) (t := 25) hR
    have R2 := R1.kept (bel_alloc (Below.refl _ _) (Obj.cells #[.int .u64 t.Tag] 25))
    have R3 := rd_nums1 (w := w1.alloc (Obj.cells #[.int .u64 t.Tag] 25)) (t := 25) hR
    have G3 := (rd_nums1 (w := w1) (t := 25) hTu).kept (bel_alloc (Below.refl _ _) (Obj.cells #[.int .u64 t.Root] 25))
    have G2 := rd_nums1 (w := w1.alloc (Obj.cells #[.int .u64 t.Root] 25)) (t := 25) hTu
    rw [show (w1.alloc (Obj.cells #[.int .u64 t.Tag] 25)).heap.size = w1.heap.size + 1 from by simp] at R3
    rw [show (w1.alloc (Obj.cells #[.int .u64 t.Root] 25)).heap.size = w1.heap.size + 1 from by simp] at G2
    have P1 := hid (refPut_any _ _ _ _ _ (R1.kept (Below.refl _ _).drew) (by decide))
    have P2 := hid (refPut_any _ _ _ _ _ (R2.kept (Below.refl _ _).drew) (by decide))
    have P3 := hid (refPut_any _ _ _ _ _ (R3.kept (Below.refl _ _).drew) (by decide))
    rw [octs_one] at P1 P2 P3
    have HG2 := hid (G2.kept (Below.refl _ _).drew)
    have HG3 := hid (G3.kept (Below.refl _ _).drew)
    clear R1 R2 R3 G2 G3
    go_region_held3 (fun W => W.cell? ⟨w.heap.size, 0, none⟩ = some (.int .u64 t.Root) ∧ W.cell? ⟨w.heap.size, 2, none⟩ = some (.int .i64 t.Tag))
      (first | (with_reducible exact KK.out _ HH.drew) | (with_reducible exact KK.out _ hbR) | (with_reducible exact KK.out _ hbG) | (with_reducible exact KK.out _ hbRG) | (with_reducible exact KK.out _ hbGR) | (with_reducible exact KK.out _ HBB) | (with_reducible exact KK.out _ (bel_alloc HBB _)) | (with_reducible exact KK.out _ HBA) | (with_reducible exact KK.out _ (bel_alloc HBA _)) | fail "keep")
      (first
        | (go_at_call 36; (with_reducible refine P1.out.mono ?_); rintro e wA ⟨vA, rfl, hoA, hbA⟩; obtain ⟨A7, n7, c7, rfl, hs7⟩ := hoA.slI; have HBA := bel_call hbR hbA; have hl7 := hbR.size)
        | (go_at_call 36; (with_reducible refine P2.out.mono ?_); rintro e wA ⟨vA, rfl, hoA, hbA⟩; obtain ⟨A7, n7, c7, rfl, hs7⟩ := hoA.slI; have HBA := bel_call hbRG hbA; have hl7 := hbRG.size; have QG := hid (HG2.out.kept hbA))
        | (go_at_call 36; (with_reducible refine P3.out.mono ?_); rintro e wA ⟨vA, rfl, hoA, hbA⟩; obtain ⟨A7, n7, c7, rfl, hs7⟩ := hoA.slI; have HBA := bel_call hbGR hbA; have hl7 := hbGR.size; have QG := hid (HG3.out.kept hbA))
        | (go_at_call 36; (with_reducible refine (refPut_any _ _ _ _ wA QG.out (by decide)).mono ?_); rintro e wB ⟨vB, rfl, hoB, hbB⟩; rw [octs_one] at hoB; obtain ⟨A8, n8, c8, rfl, hs8⟩ := hoB.slI; have HBB := bel_call HBA hbB; have hs7B := (hs7.low hl7).fromKeep hbB; have hs8B := hs8.low HBA.size)
        | (go_at_call 36; (with_reducible refine (refPut_any _ _ _ _ (wA.alloc (Obj.cells #[.int .u64 t.Tag] 25)) (rd_nums1 (w := wA) (t := 25) hTu) (by decide)).mono ?_); rintro e wB ⟨vB, rfl, hoB, hbB⟩; rw [octs_one] at hoB; obtain ⟨A8, n8, c8, rfl, hs8⟩ := hoB.slI; have hbAB := bel_call (bel_alloc (Below.refl wA.heap.size wA) (Obj.cells #[.int .u64 t.Tag] 25)) hbB; have HBB := bel_call HBA hbAB; have hs7B := (hs7.low hl7).fromKeep hbAB; have hs8B := hs8.low (bel_alloc HBA (Obj.cells #[.int .u64 t.Tag] 25)).size))
    all_goals
      have HO := hid ((OwnL.litL (L := lay_Record) (w := wB) (xs := [⟨1, oct t.Root⟩, ⟨2, oct t.Tag⟩]) (cy := #[.int .u64 1, .slice A7 n7 c7, .int .u64 2, .slice A8 n8 c8]) 83 (some w1.heap.size) rfl (by simp [maxLen]) ⟨[_, _], [_, _], rfl, rep_Record.2 ⟨A7, n7, c7, rfl, (by show (Lit.int .u64 1).wf = true; decide), hs7B⟩, [_, _], [], rfl, rep_Record.2 ⟨A8, n8, c8, rfl, (by show (Lit.int .u64 2).wf = true; decide), hs8B⟩, rfl⟩ (fun b hb => ⟨⟨hb.1, hb.2.2⟩, hb.2.1⟩)).lows HBB.size (Nat.le_refl _))
      have HBE := hid (bel_alloc HBB (Obj.cells #[.int .u64 1, .slice A7 n7 c7, .int .u64 2, .slice A8 n8 c8] 83))
      go_wp2_with fail
      go_meet
      case rel => exact ⟨_, rfl, HO.out, HBE.out⟩
  case rest =>
  obtain ⟨_, rfl, ho, hbc⟩ := hcut
  have k1 := (v1.call hbc).c1
  have hz1 := HB.size
  have hzc := hbc.size
  go_wp2
  go_loopw [4, 27] (fun tx i wr => ∃ (j : Nat) (tv : Value), j ≤ n2 ∧ i = .int .i64 j ∧ tx = tv ∧ OwnL lay_Record wr w1.heap.size (some w1.heap.size) 83 tv ((⟨1, oct t.Root⟩ : Rec) :: ⟨2, oct t.Tag⟩ :: capR 16 (t.L.take j)) ∧ Below w1.heap.size w1 wr) (fun _ i _ => n2 - (intOf i).toNat)
  case atStart => exact ⟨0, _, Nat.zero_le _, rfl, rfl, ho, hbc⟩
  case round =>
    obtain ⟨j, tx, hj, rfl, htx, hown, hbel⟩ := hrel
    replace htx := htx.symm
    subst htx
    clear k1 ho
    have hwz := hbel.size
    by_cases hlt : j < n2
    · obtain ⟨b1, o1, hx1, rfl, hb1, t1, t2, t3, hw⟩ := cav_at hL hlt
      have hbw := bel_call HB hbel
      have q1 := (hbw.cell (p := ⟨b1, o1 + j * 3, none⟩) hb1).trans t1
      have q2 := (hbw.cell (p := ⟨b1, o1 + j * 3 + 1, none⟩) hb1).trans t2
      have q3 := (hbw.cell (p := ⟨b1, o1 + j * 3 + 2, none⟩) hb1).trans t3
      have HT := hid (show capR 16 (t.L.take (j + 1)) = capR 16 (t.L.take j) ++ [⟨16 + (j : Int), putC t.L[j]⟩] from by
        rw [List.take_succ_eq_append_getElem hx1, capR_snoc, List.length_take, Nat.min_eq_left (Nat.le_of_lt hx1)]; simp)
      have hba := bel_alloc (Below.refl wr.heap.size wr) (Obj.cells #[.int .i64 t.L[j].Kind, .int .u64 t.L[j].A, .int .u64 t.L[j].B] 30)
      have HPU := hid (refPutC_any #[.int .i64 t.L[j].Kind, .int .u64 t.L[j].A, .int .u64 t.L[j].B] (fun _ => True) t.L[j] (wr.alloc (Obj.cells #[.int .i64 t.L[j].Kind, .int .u64 t.L[j].A, .int .u64 t.L[j].B] 30)) (rep_Caveat.2 ⟨rfl, hw⟩))
      have hal : ((⟨1, oct t.Root⟩ : Rec) :: ⟨2, oct t.Tag⟩ :: capR 16 (t.L.take j)).length ≤ 18 := by simp [capR_len]; omega
      have hlen1 : (((⟨1, oct t.Root⟩ : Rec) :: ⟨2, oct t.Tag⟩ :: capR 16 (t.L.take j)).length + 1) * 32 ≤ 140737488355328 := by omega
      have hlen2 : ((⟨1, oct t.Root⟩ : Rec) :: ⟨2, oct t.Tag⟩ :: capR 16 (t.L.take j)).length + 1 ≤ maxLen := by unfold maxLen; omega
      have hzb : (wr.alloc (Obj.cells #[.int .i64 t.L[j].Kind, .int .u64 t.L[j].A, .int .u64 t.L[j].B] 30)).heap.size = wr.heap.size + 1 := by simp
      have HZB := hid hzb
      have hw1 : IntKind.i64.wrap (16 + (j : Int)) = 16 + (j : Int) := IntWalk.i64_in _ (by omega)
      have hw2 : IntKind.u64.wrap (16 + (j : Int)) = 16 + (j : Int) := IntWalk.u64_in _ (by omega)
      have hwf : (Lit.int .u64 (16 + (j : Int))).wf = true := wf_u64 (by omega)
      clear t1 t2 t3 hzb hal
      go_wp2_with fail
      refine HPU.out.mono ?_
      rintro e w5 ⟨v5, rfl, ho5, hb5⟩
      obtain ⟨A5, n5, c5, rfl, hs5⟩ := ho5.slI
      have hb6 := bel_call hba hb5
      have ho6 := hown.keep hb6
      have hge : ∀ g, tx.ownBlock = some g → g < wr.heap.size := fun g hg => hown.lt hg
      have HGE := hid hge
      have hz5 := hb5.size
      rw [HZB.out] at hz5 hs5
      have HS5 := hid hs5
      clear hge hba hb5 ho5 hs5 HPU q1 q2 q3
      go_wp2_with (at_builtin; go_must (refine wpList_pushL (w := w5) rfl (.tmp 37) (.tmp 43) 81 rfl w1.heap.size (some w1.heap.size) 83 _ 32 Try.underlying81 Try.infoRec rfl (by decide) tx ((⟨1, oct t.Root⟩ : Rec) :: ⟨2, oct t.Tag⟩ :: capR 16 (t.L.take j)) ⟨16 + (j : Int), putC t.L[j]⟩ #[.int .u64 (16 + (j : Int)), .slice A5 n5 c5] (From w5 (wr.heap.size + 1)) rfl rfl ho6 (rep_Record.2 ⟨A5, n5, c5, rfl, hwf, HS5.out⟩) (fun b hb => ⟨⟨by have := hb.1; omega, hb.2.2⟩, hb.2.1, fun he => by have := HGE.out b he.symm; have := hb.1; omega⟩) (by omega) hlen1 hlen2 ?_; intro v7 w7 ho7 hx7; have hb7 : Below w1.heap.size w5 w7 := ho6.below hx7 (by omega)))
      go_roundw
      case rel => exact ⟨j + 1, _, by omega, by go_num, rfl, by rw [HT.out]; exact ho7, (bel_call hbel hb6).trans hb7⟩
      case measure => simp [intOf]; omega
    · have HTK := hid (show t.L.take j = t.L from List.take_of_length_le (by rw [HL.out]; omega))
      rw [HTK.out] at hown
      obtain ⟨A6, n6, c6, rfl, hs6⟩ := hown.read
      have HPR := hid (refPutR_ok A6 n6 c6 (recsT t) wr hs6 (recs_may hok))
      have HPE := hid (show putE (recsT t) = 0 ∧ putO (recsT t) = octsR (recsT t) from ⟨if_pos (recs_short hok), if_pos (recs_short hok)⟩)
      clear hown hs6
      go_wp2_with fail
      refine HPR.out.mono ?_
      rw [HPE.out.1, HPE.out.2]
      rintro e w9 ⟨v9, rfl, ho9, hb9⟩
      have HBE := hid (bel_call (bel_call HB hbel) hb9)
      have HO9 := hid (Own.weaken ho9 (Nat.le_trans hz1 hwz))
      clear ho9
      go_wp2
      go_ret2
      exact ⟨_, by rw [HE.out.1]; rfl, by rw [HE.out.2]; exact HO9.out, HBE.out⟩
end Go.Proofs.Ytgiapfenalhleaa
namespace Go.Proofs.Ytgiapfenalhleaa
open Go.RowKit Go.WalkArith

set_option maxRecDepth 100000 in
set_option maxHeartbeats 1000000 in
theorem refFind_any (A : Option Addr) (n c : Nat) (l : List Rec) (t : Int) (w : World) (hr : Sl lay_Record w (· < w.heap.size) A n c l) :
    Calls Try.prog 58 #[.slice A n c, .int .u64 t] w fun e w' => ∃ v', e = .returned (.tuple #[v', .int .i64 (fE l t)]) ∧ Own w' w.heap.size 5 .u8 v' (fV l t) ∧ Below w.heap.size w w' := by
  have hcap := hr.cap
  unfold maxLen at hcap
  have HL := hid hr.len
  by_cases hm : MayBe l
  case neg =>
    have HC := hid (chk_no hm)
    rw [fE_no hm, fV_no hm]
    go_enter Try.func58, Try.ntmps58
    go_wp2_with (go_at_call 80; go_must (refine (check_any _ _ _ _ _ hr).mono ?_; rw [HC.out]; rintro e w1 ⟨rfl, hb1⟩))
    go_ret2
    exact ⟨_, rfl, Own.nil _ _ _ _, hb1⟩
  have HC := hid (chk_ok hm)
  have HM := hid hm
  rw [fE_ok hm, fV_ok hm]
  clear hm
  go_enter Try.func58, Try.ntmps58
  go_wp2_with (go_at_call 80; go_must (refine (check_any _ _ _ _ _ hr).mono ?_; rw [HC.out]; rintro e w1 ⟨rfl, hb1⟩))
  go_loopw [13] (fun i wr => ∃ j : Nat, j ≤ n ∧ i = .int .i64 j ∧ NoT l t j ∧ Below w.heap.size w wr) (fun i _ => n - (intOf i).toNat)
  case atStart => exact ⟨0, Nat.zero_le _, rfl, NoT.zero _ _, hb1⟩
  case round =>
    obtain ⟨j, hj, rfl, hno, hbel⟩ := hrel
    have HN := hid hno
    have hsz := hbel.size
    clear hno
    by_cases hlt : j < n
    · obtain ⟨b, off, A', n', c', hx, rfl, hb, h1, h2, hTb, hV⟩ := rec_at hr hlt
      have q1 := (hbel.cell (p := ⟨b, off + j * 2, none⟩) hb).trans h1
      have q2 := (hbel.cell (p := ⟨b, off + j * 2 + 1, none⟩) hb).trans h2
      have R := (hV.rd (B := w.heap.size) fun _ h => h).below hbel
      have hn' : n' ≤ 4096 := by rw [← hV.len]; exact HM.out.small _ (List.getElem_mem hx)
      clear h1 h2 hV
      by_cases he : l[j].T = t
      · have HH := hid (HN.out.hit hx he)
        have hbe : (l[j].T == t) = true := by simpa using he
        have HV := hid (show foV l t = l[j].V from by unfold foV; rw [HH.out]; rfl)
        have HE := hid (show foE l t = 0 from by unfold foE; rw [HH.out]; rfl)
        clear he
        go_wp2_with (at_builtin; go_must (refine wpList_cat rfl _ _ 46 rfl w.heap.size 5 .u8 1 Try.underlying46 Try.infoU8 (.slice none 0 0) [] _ A' n' c' l[j].V rfl rfl (Own.nil _ _ _ _) (R.alloc hsz _) ?_ ?_ ?_ ?_))
        · simp; omega
        · simp; omega
        · simp; omega
        intro v3 w3 hown3 hext3
        try simp only [List.nil_append] at hown3
        have hb3 : Below w.heap.size w w3 := (hbel.alloc hsz _).trans (hext3.of_nilB (by simp; omega))
        go_wp2
        go_ret2
        exact ⟨_, by rw [HE.out]; rfl, by rw [HV.out]; exact hown3, hb3⟩
      · have hbe : (l[j].T == t) = false := by simpa using he
        have HS := hid (HN.out.succ hx he)
        clear he
        go_wp2
        go_roundw
        case rel => exact ⟨j + 1, by omega, by go_num, HS.out, by (repeat (first | exact Below.refl _ _ | refine Below.drew ?_ | refine bel_drewN ?_ _ | refine bel_alloc ?_ _ | refine bel_call ?_ (by assumption)))⟩
        case measure => simp [intOf]; omega
    · have HF := hid (show findR l t = none from NoT.none (fun i hi _ => HN.out i hi (by rw [HL.out] at hi; omega)))
      have HV := hid (show foV l t = [] from by unfold foV; rw [HF.out]; rfl)
      have HE := hid (show foE l t = 5 from by unfold foE; rw [HF.out]; rfl)
      go_wp2
      go_ret2
      exact ⟨_, by rw [HE.out]; rfl, by rw [HV.out]; exact Own.nil _ _ _ _, hbel⟩
end Go.Proofs.Ytgiapfenalhleaa
namespace Go.Proofs.Ytgiapfenalhleaa
open Go.RowKit Go.WalkArith

end Go.Proofs.Ytgiapfenalhleaa
namespace Go.Proofs.Ytgiapfenalhleaa
open Go.RowKit Go.WalkArith

set_option maxHeartbeats 1000000 in
theorem rises_any (A : Option Addr) (n c : Nat) (S : Nat → Prop) (l : List Rec) (t : Int) (w : World) (hr : Sl lay_Record w S A n c l) (h0 : 0 ≤ t) :
    Calls Try.prog 94 #[.slice A n c, .int .u64 t] w fun e w' => e = .returned (.bool (decide (lastT l < t))) ∧ w = w' := by
  have hcap := hr.cap
  unfold maxLen at hcap
  have HL := hid hr.len
  rcases Nat.eq_zero_or_pos n with hz | hz
  · subst hz
    have hl : l = [] := List.eq_nil_of_length_eq_zero HL.out
    have HD := hid (show decide (lastT l < t) = true from by subst hl; exact decide_eq_true (show (-1 : Int) < t by omega))
    clear hl
    go_enter Try.func94, Try.ntmps94
    go_wp2
    go_ret
    exact ⟨ret_bool HD.out.symm, rfl⟩
  · obtain ⟨b, off, A', n', c', hx, rfl, hb, h1, h2, hT, hV⟩ := rec_at hr (j := n - 1) (by omega)
    obtain ⟨h', hlt⟩ := lastT_at (acc := l) (by rw [HL.out]; exact hz)
    have hidx : lastT l = l[n - 1].T := by rw [hlt]; simp only [HL.out]
    rw [hidx]
    generalize l[n - 1].T = x at *
    have hnz : ((n : Int) == 0) = false := by simp; omega
    have wj : IntKind.i64.wrap ((n : Int) - 1) = (n : Int) - 1 := IntWalk.i64_in _ (by omega)
    have tj : ((n : Int) - 1).toNat = n - 1 := by omega
    have pj : (0 : Int) ≤ (n : Int) - 1 := by omega
    have lj : (n : Int) - 1 < (n : Int) := by omega
    clear h2 hV
    go_enter Try.func94, Try.ntmps94
    go_wp2
    go_ret
    exact ⟨rfl, rfl⟩

theorem lastT_take {l : List Rec} {j : Nat} (hx : j < l.length) (hj : 0 < j) : lastT (l.take j) = l[j - 1].T := by
  have hl : (l.take j).length = j := by rw [List.length_take]; omega
  obtain ⟨h', e⟩ := lastT_at (acc := l.take j) (by omega)
  rw [e]
  simp only [hl, List.getElem_take]
theorem ris_step {l : List Rec} {j : Nat} (hx : j < l.length) (h : ChkTo l j) (hv : l[j].V.length ≤ 4096) (hr : lastT (l.take j) < l[j].T) : ChkTo l (j + 1) := fun i hi hi1 => by
  by_cases hij : i < j
  · exact h i hi hij
  · obtain rfl : i = j := by omega
    exact ⟨hv, fun h0 => by rw [lastT_take hx h0] at hr; exact hr⟩
theorem ris_no {l : List Rec} {j : Nat} (hx : j < l.length) (h0 : 0 ≤ l[j].T) (hr : ¬ lastT (l.take j) < l[j].T) : ¬ MayBe l := fun h => by
  rcases Nat.eq_zero_or_pos j with hj | hj
  · subst hj
    apply hr
    have : lastT (l.take 0) = -1 := by simp [lastT]
    omega
  · rw [lastT_take hx hj] at hr
    exact hr ((h.2 j hx hx).2 hj)

theorem Try.elemRec : Try.prog.elem 81 = 83 := by kernel_rfl

set_option maxRecDepth 100000 in
set_option maxHeartbeats 1000000 in
theorem tlvCheck_any (A : Option Addr) (n c : Nat) (l : List Rec) (w : World) (hr : Sl lay_Record w (· < w.heap.size) A n c l) :
    Calls Try.prog 79 #[.slice A n c] w fun e w' => e = .returned (.int .i64 (chk l)) ∧ Below w.heap.size w w' := by
  have hcap := hr.cap
  unfold maxLen at hcap
  have HL := hid hr.len
  by_cases g0 : 64 < n
  · have HC := hid (chk_no (l := l) fun h => by have := h.1; rw [HL.out] at this; omega)
    have g0' : (64 : Int) < n := by omega
    go_enter Try.func79, Try.ntmps79
    go_wp2
    go_ret
    exact ⟨ret_num HC.out.symm, Below.refl _ _⟩
  have d0 : decide ((64 : Int) < (n : Int)) = false := by simp; omega
  go_enter Try.func79, Try.ntmps79
  go_wp2
  go_loopw [10] (fun i wr => ∃ j : Nat, j ≤ n ∧ i = .int .i64 j ∧ ChkTo l j ∧ Below w.heap.size w wr) (fun i _ => n - (intOf i).toNat)
  case atStart => exact ⟨0, Nat.zero_le _, rfl, fun _ _ h => absurd h (by omega), Below.refl _ _⟩
  case round =>
    obtain ⟨j, hj, rfl, hto, hbel⟩ := hrel
    have HT := hid hto
    clear hto
    by_cases hlt : j < n
    · obtain ⟨b, off, A', n', c', hx, rfl, hb, h1, h2, hTb, hV⟩ := rec_at hr hlt
      have q1 := (hbel.cell (p := ⟨b, off + j * 2, none⟩) hb).trans h1
      have q2 := (hbel.cell (p := ⟨b, off + j * 2 + 1, none⟩) hb).trans h2
      have hbb : b < wr.heap.size := Nat.lt_of_lt_of_le hb hbel.size
      have HX := hid hV.len
      have hcv := hV.cap
      unfold maxLen at hcv
      clear h1 h2
      by_cases g1 : 4096 < n'
      · have HC := hid (chk_no (l := l) fun h => by have := (h.2 j hx hx).1; rw [HX.out] at this; omega)
        have g1' : (4096 : Int) < n' := by omega
        have d1 : decide ((4096 : Int) < (n' : Int)) = true := by simp; omega
        go_wp2_with fail
        go_quiet (fail)
        go_wp2
        go_ret
        exact ⟨ret_num HC.out.symm, by (repeat (first | exact Below.refl _ _ | refine Below.drew ?_ | refine bel_drewN ?_ _ | refine bel_alloc ?_ _ | refine bel_call ?_ (by assumption)))⟩
      have d1 : decide ((4096 : Int) < (n' : Int)) = false := by simp; omega
      have hV4 : l[j].V.length ≤ 4096 := by rw [HX.out]; omega
      have RT := hid ((hr.upto hj).keep fun _ hp => (hbel.alloc hbel.size (Obj.cells #[.int .u64 l[j].T, .slice A' n' c'] 83)).cell hp)
      have hup := run_uptoL (P := Try.prog) 81 83 .i64 Try.underlying81 Try.elemRec Try.infoRec (some ⟨b, off, none⟩) n c j (by omega)
      by_cases g3 : lastT (l.take j) < l[j].T
      · have HN := hid (ris_step hx HT.out hV4 g3)
        have hd : decide (lastT (l.take j) < l[j].T) = true := decide_eq_true g3
        clear g3 hV4
        generalize l[j].T = x at *
        generalize l.take j = lt at *
        go_wp2_with fail
        go_quiet ((go_at_call 94; exact Calls.quiet_of_same ((rises_any _ _ _ _ lt x _ (RT.out.drewN _) hTb.1).mono fun _ _ h => ⟨h.1, h.2.symm⟩)))
        go_wp2
        go_roundw
        case rel => exact ⟨j + 1, by omega, by go_num, HN.out, by (repeat (first | exact Below.refl _ _ | refine Below.drew ?_ | refine bel_drewN ?_ _ | refine bel_alloc ?_ _ | refine bel_call ?_ (by assumption)))⟩
        case measure => simp [intOf]; omega
      · have HC := hid (chk_no (ris_no hx hTb.1 g3))
        have hd : decide (lastT (l.take j) < l[j].T) = false := decide_eq_false g3
        clear g3 hV4
        generalize l[j].T = x at *
        generalize l.take j = lt at *
        go_wp2_with fail
        go_quiet ((go_at_call 94; exact Calls.quiet_of_same ((rises_any _ _ _ _ lt x _ (RT.out.drewN _) hTb.1).mono fun _ _ h => ⟨h.1, h.2.symm⟩)))
        go_wp2
        go_ret
        exact ⟨ret_num HC.out.symm, by (repeat (first | exact Below.refl _ _ | refine Below.drew ?_ | refine bel_drewN ?_ _ | refine bel_alloc ?_ _ | refine bel_call ?_ (by assumption)))⟩
    · have HC := hid (chk_ok (l := l) ⟨by rw [HL.out]; omega, fun i hi _ => HT.out i hi (by rw [HL.out] at hi; omega)⟩)
      go_wp2
      go_ret
      exact ⟨ret_num HC.out.symm, hbel⟩

end Go.Proofs.Ytgiapfenalhleaa
