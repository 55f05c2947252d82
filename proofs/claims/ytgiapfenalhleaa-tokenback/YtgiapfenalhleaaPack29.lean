/-
  The contracts of package tlv's Put, place, Find, Number.
  The contract of package token's Put.
  Tokens, plain: the errors of reading one, way by way.
  The contract of the document's own Number of layer 2.
-/
import Derived.Test.YtgiapfenalhleaaPack1
import Derived.Test.YtgiapfenalhleaaPack2
import Derived.Test.YtgiapfenalhleaaPack3
import Derived.Test.YtgiapfenalhleaaPack4
import Derived.Test.YtgiapfenalhleaaPack5
import Derived.Test.YtgiapfenalhleaaPack6
import Derived.Test.YtgiapfenalhleaaPack7
import Derived.Test.YtgiapfenalhleaaPack8
import Derived.Test.YtgiapfenalhleaaPack9
import Derived.Test.YtgiapfenalhleaaPack10
import Derived.Test.YtgiapfenalhleaaPack11
import Derived.Test.YtgiapfenalhleaaPack12
import Derived.Test.YtgiapfenalhleaaPack13
import Derived.Test.YtgiapfenalhleaaPack14
import Derived.Test.YtgiapfenalhleaaPack15
import Derived.Test.YtgiapfenalhleaaPack16
import Derived.Test.YtgiapfenalhleaaPack17
import Derived.Test.YtgiapfenalhleaaPack18
import Derived.Test.YtgiapfenalhleaaPack19
import Derived.Test.YtgiapfenalhleaaPack20
import Derived.Test.YtgiapfenalhleaaPack21
import Derived.Test.YtgiapfenalhleaaPack22
import Derived.Test.YtgiapfenalhleaaPack23
import Derived.Test.YtgiapfenalhleaaPack24
import Derived.Test.YtgiapfenalhleaaPack25
import Derived.Test.YtgiapfenalhleaaPack26
import Derived.Test.YtgiapfenalhleaaPack27
import Derived.Test.YtgiapfenalhleaaPack28
namespace Go.Proofs.Ytgiapfenalhleaa
open Go.RowKit Go.WalkArith

set_option maxRecDepth 100000 in
set_option maxHeartbeats 2000000 in
theorem tlvPut_ok (A : Option Addr) (n c : Nat) (l : List Rec) (w : World) (hr : Sl lay_Record w (· < w.heap.size) A n c l) (hm : MayBe l) :
    Calls Try.prog 51 #[.slice A n c] w fun e w' => ∃ v', e = .returned (.tuple #[v', .int .i64 (putE l)]) ∧ Own w' w.heap.size 5 .u8 v' (putO l) ∧ Below w.heap.size w w' := by
  have hcap := hr.cap
  unfold maxLen at hcap
  have HL := hid hr.len
  have hn64 : n ≤ 64 := by rw [← HL.out]; exact hm.1
  have HM := hid hm
  have HC := hid (chk_ok hm)
  clear hm
  go_enter Try.func51, Try.ntmps51
  go_wp2_with (go_at_call 79; go_must (refine (tlvCheck_any _ _ _ _ _ hr).mono ?_; rw [HC.out]; rintro e w1 ⟨rfl, hb1⟩))
  go_loopw [5, 15] (fun u i wr => ∃ j : Nat, j ≤ n ∧ i = .int .i64 j ∧ Own wr w.heap.size 5 .u8 u (octsR (l.take j)) ∧ Below w.heap.size w wr) (fun _ i _ => n - (intOf i).toNat)
  case atStart => exact ⟨0, Nat.zero_le _, rfl, Own.nil _ _ _ _, hb1⟩
  case round =>
    obtain ⟨j, hj, rfl, hown, hbel⟩ := hrel
    have hsz := hbel.size
    have hlen := octsR_len (l := l.take j) fun r h => HM.out.small r (List.mem_of_mem_take h)
    have hlt64 : (l.take j).length ≤ 64 := Nat.le_trans (List.length_take_le _ _) (by omega)
    by_cases hlt : j < n
    · obtain ⟨b, off, A', n', c', hx, rfl, hb, h1, h2, hT, hV⟩ := rec_at hr hlt
      have q1 := (hbel.cell (p := ⟨b, off + j * 2, none⟩) hb).trans h1
      have q2 := (hbel.cell (p := ⟨b, off + j * 2 + 1, none⟩) hb).trans h2
      have R := (hV.rd (B := w.heap.size) fun _ h => h).below hbel
      have HT := hid (octsR_take hx)
      have hVl := hid hV.len
      have hn' : n' ≤ 4096 := by rw [← hVl.out]; exact HM.out.small _ (List.getElem_mem hx)
      have hWT := wf_u64 hT
      have hWN : (Lit.int .u64 (n' : Int)).wf = true := wf_u64 (by omega)
      have hR : octR l[j] = octs [l[j].T, (n' : Int)] ++ l[j].V := by simp [octR, octs, hVl.out]
      have HR := hid hR
      have ho2 := octs_len_le [l[j].T, (n' : Int)]
      have ho3 : (octs [l[j].T, (n' : Int)]).length ≤ 18 := by simpa using ho2
      have hol : (octsR (l.take j)).length ≤ 263296 := by omega
      clear h1 h2 hV hR ho2 hlen
      generalize l[j].T = x at *
      generalize l[j].V = xs at *
      have HNN := hid (hown.not_new (Nat.le_refl _))
      go_wp2_with (first | (go_at_call 34; go_must (refine (put_any _ _ _ [x, (n' : Int)] _ (Rd.lit2 ?_ ?_ hWT hWN) (by omega)).mono ?_; go_simp; go_simp; rintro e w2 ⟨v2, rfl, hown2, hb2⟩; obtain ⟨A2, n2, c2, rfl, hr2⟩ := hown2.formN; have hl2 : n2 ≤ 18 := (by rw [← hr2.len]; exact ho3); have hz2 : w.heap.size ≤ w2.heap.size := by (have h9 := hb2.size; simp at h9; omega))) | (at_builtin; refine wpList_cat rfl (.tmp 19) (.tmp 27) 46 rfl w.heap.size 5 .u8 1 Try.underlying46 Try.infoU8 u5 (octsR (l.take j)) _ A2 n2 c2 (octs [x, (n' : Int)]) rfl rfl (((hown.alloc _).alloc _).below_all hb2) hr2 hz2 (by omega) (by omega) ?_; intro v3 w3 hown3 hext3; have q5 := var_kept (i := 1) hb2 hext3 HNN.out rfl) | (at_builtin; go_must (refine wpList_cat rfl (.tmp 29) (.tmp 31) 46 rfl w.heap.size 5 .u8 1 Try.underlying46 Try.infoU8 v3 (octsR (l.take j) ++ octs [x, (n' : Int)]) _ A' n' c' xs rfl rfl hown3 (R.below (bel3 hsz hb2 (((hown.alloc _).alloc _).below_all hb2) hext3)) (Nat.le_trans hz2 hext3.size) (by rw [List.length_append]; omega) (by rw [List.length_append]; omega) ?_; intro v4 w4 hown4 hext4)))
      go_roundw
      case rel => exact ⟨j + 1, by omega, by go_num, by rw [HT.out, HR.out, ← List.append_assoc]; exact hown4, (hbel.trans (bel3 hsz hb2 (((hown.alloc _).alloc _).below_all hb2) hext3)).trans (hown3.below hext4 (Nat.le_trans hz2 hext3.size))⟩
      case measure => simp [intOf]; omega
    · have HE := hid (show l.take j = l from List.take_of_length_le (by rw [HL.out]; omega))
      rw [HE.out] at hown hlen
      obtain ⟨A4, c4, rfl, hr4⟩ := hown.form
      have hl4 : (octsR l).length ≤ 263296 := by rw [HL.out] at hlen; omega
      by_cases hbig : (octsR l).length ≤ 65535
      · have HO := hid (show putO l = octsR l from if_pos hbig)
        have HPE := hid (show putE l = 0 from if_pos hbig)
        have d5 : decide ((65535 : Int) < ((octsR l).length : Nat)) = false := by simp; omega
        go_wp2
        go_ret2
        exact ⟨_, by rw [HPE.out]; rfl, by rw [HO.out]; exact hown, hbel⟩
      · have HO := hid (show putO l = [] from if_neg hbig)
        have HPE := hid (show putE l = 4 from if_neg hbig)
        have d5 : decide ((65535 : Int) < ((octsR l).length : Nat)) = true := by simp; omega
        go_wp2
        go_ret2
        exact ⟨_, by rw [HPE.out]; rfl, by rw [HO.out]; exact Own.nil _ _ _ _, hbel⟩

set_option maxHeartbeats 400000 in
theorem tlvPut_no (A : Option Addr) (n c : Nat) (l : List Rec) (w : World) (hr : Sl lay_Record w (· < w.heap.size) A n c l) (hm : ¬ MayBe l) :
    Calls Try.prog 51 #[.slice A n c] w fun e w' => e = .returned (.tuple #[.slice none 0 0, .int .i64 1]) ∧ Below w.heap.size w w' := by
  have HC := hid (chk_no hm)
  go_enter Try.func51, Try.ntmps51
  go_wp2_with (go_at_call 79; go_must (refine (tlvCheck_any _ _ _ _ _ hr).mono ?_; rw [HC.out]; rintro e w1 ⟨rfl, hb1⟩))
  go_ret2
  exact ⟨rfl, hb1⟩

theorem tlvPut_any (A : Option Addr) (n c : Nat) (l : List Rec) (w : World) (hr : Sl lay_Record w (· < w.heap.size) A n c l) :
    Calls Try.prog 51 #[.slice A n c] w fun e w' => ∃ v', e = .returned (.tuple #[v', .int .i64 (pE l)]) ∧ Own w' w.heap.size 5 .u8 v' (pO l) ∧ Below w.heap.size w w' := by
  by_cases hm : MayBe l
  · rw [pE_ok hm, pO_ok hm]; exact tlvPut_ok A n c l w hr hm
  · rw [pE_no hm, pO_no hm]
    exact (tlvPut_no A n c l w hr hm).mono fun e w' h => ⟨_, h.1, Own.nil _ _ _ _, h.2⟩
theorem refPutR_any (A : Option Addr) (n c : Nat) (l : List Rec) (w : World) (hr : Sl lay_Record w (· < w.heap.size) A n c l) :
    Calls Try.prog 52 #[.slice A n c] w fun e w' => ∃ v', e = .returned (.tuple #[v', .int .i64 (pE l)]) ∧ Own w' w.heap.size 5 .u8 v' (pO l) ∧ Below w.heap.size w w' := by
  by_cases hm : MayBe l
  · rw [pE_ok hm, pO_ok hm]; exact refPutR_ok A n c l w hr hm
  · rw [pE_no hm, pO_no hm]
    exact (refPutR_no A n c l w hr hm).mono fun e w' h => ⟨_, h.1, Own.nil _ _ _ _, h.2⟩

/-- How two numbers stand to each other. -/
def cmpI (x y : Int) : Int := if x < y then -1 else if y < x then 1 else 0
theorem isNaN_any (x : Int) (w : World) : Calls Try.prog 108 #[.int .u64 x] w fun e w' => e = .returned (.bool false) ∧ w = w' := by
  have h : (x != x) = false := by simp
  go_enter Try.func108, Try.ntmps108
  go_wp2
  go_ret
  exact ⟨rfl, rfl⟩
theorem compare_any (x y : Int) (w : World) : Calls Try.prog 105 #[.int .u64 x, .int .u64 y] w fun e w' => e = .returned (.int .i64 (cmpI x y)) ∧ w = w' := by
  go_enter Try.func105, Try.ntmps105
  go_wp2_with (go_at_call 108; refine (isNaN_any _ _).mono ?_; rintro e w' ⟨rfl, rfl⟩)
  all_goals (go_ret; exact ⟨ret_num (by unfold cmpI; (repeat' split) <;> omega), rfl⟩)
theorem place1_any (s : Array Value) (S : Nat → Prop) (r : Rec) (t : Int) (w : World) (hs : lay_Record.rep w S r s.toList) :
    Calls Try.prog 104 #[.agg s, .int .u64 t] w fun e w' => e = .returned (.int .i64 (cmpI r.T t)) ∧ Below w.heap.size w w' := by
  obtain ⟨A1, n1, c1, hc1, hT1, hV1⟩ := rep_Record.1 hs
  obtain rfl : s = #[.int .u64 r.T, .slice A1 n1 c1] := Array.ext' hc1
  go_enter Try.func104, Try.ntmps104
  go_wp2_with (go_at_call 105; refine (compare_any _ _ _).mono ?_; rintro e w' ⟨rfl, rfl⟩)
  go_ret
  exact ⟨rfl, by (repeat (first | exact Below.refl _ _ | refine Below.drew ?_ | refine bel_drewN ?_ _ | refine bel_alloc ?_ _ | refine bel_call ?_ (by assumption)))⟩
end Go.Proofs.Ytgiapfenalhleaa
namespace Go.Proofs.Ytgiapfenalhleaa
open Go.RowKit Go.WalkArith

theorem OwnL.geB {α : Type} {L : Lay α} {w : World} {base : Nat} {lo : Option Nat} {e : TypeId} {v : Value} {xs : List α} (h : OwnL L w base lo e v xs) {g : Nat} (hg : v.ownBlock = some g) : base ≤ g := by
  obtain ⟨cs, h1, h2⟩ := h
  exact (h1.lt g hg).1

set_option maxRecDepth 100000 in
set_option maxHeartbeats 8000000 in
theorem tPut_any (s : Array Value) (t : Tok) (w : World) (g : lay_Token.rep w (· < w.heap.size) t s.toList) :
    Calls Try.prog 25 #[.agg s] w fun e w' => ∃ v', e = .returned (.tuple #[v', .int .i64 (tpE t)]) ∧ Own w' w.heap.size 5 .u8 v' (tpO t) ∧ Below w.heap.size w w' := by
  obtain ⟨A2, n2, c2, rfl, hR, hT, hL⟩ := agg_Token g
  clear g
  have HL := hid hL.len
  have hb0 : Below w.heap.size w (w.alloc (Obj.cells #[.int .u64 t.Root, .slice A2 n2 c2, .int .i64 t.Tag] 28)) := bel_alloc (Below.refl _ _) _
  have v0 : Var3 (w.alloc (Obj.cells #[.int .u64 t.Root, .slice A2 n2 c2, .int .i64 t.Tag] 28)) w.heap.size 28 (.int .u64 t.Root) (.slice A2 n2 c2) (.int .i64 t.Tag) := Var3.new _ _ _ _ _
  have PT := hid (token_in hR hT hL hb0)
  clear hL
  go_enter Try.func25, Try.ntmps25
  go_wp2_with fail
  generalize (w.alloc (Obj.cells #[.int .u64 t.Root, .slice A2 n2 c2, .int .i64 t.Tag] 28)) = W0 at *
  refine (ttexts_any _ t W0 PT.out).mono ?_
  rintro e w1 ⟨vl, rfl, hol, hb1⟩
  obtain ⟨A6, n6, c6, rfl, hs6⟩ := hol.read
  have HB := bel_call hb0 hb1
  have v1 := v0.call hb1
  clear v0 hb0 hb1 hol PT
  rcases tk_is (t := t) with ⟨hE, hok⟩ | ⟨hE, hok⟩
  rotate_left
  · rw [hE]
    have HE := hid (show tpE t = 1 ∧ tpO t = [] from ⟨if_neg hok, if_neg hok⟩)
    clear hE hok v1 hs6
    go_wp2
    go_ret2
    exact ⟨_, by rw [HE.out.1]; rfl, by rw [HE.out.2]; exact Own.nil _ _ _ _, HB⟩
  rw [hE]
  have HE := hid (show tpE t = 0 ∧ tpO t = octsR (recsT t) from ⟨if_pos hok, if_pos hok⟩)
  rw [show ttL t = txts t.L from if_pos hok] at hs6
  have hn6 : n6 = t.L.length := by rw [← hs6.len]; unfold txts; rw [List.length_map]
  have hn16 : n6 ≤ 16 := by rw [hn6]; exact hok.1.1
  have HN6 := hid hn6
  have HS6 := hid hs6
  have HOK := hid hok
  clear hE hn6 hs6
  have hTu : (Lit.int .u64 t.Tag).wf = true := by have := hok.2; exact wf_u64 (by omega)
  have hwt : IntKind.u64.wrap t.Tag = t.Tag := by have := hok.2; exact IntWalk.u64_in _ (by omega)
  clear hok
  have k0 := v1.c0
  have k2 := v1.c2
  have HA : Below w1.heap.size w1 ((w1.alloc (Obj.cells #[.int .u64 t.Root, .int .u64 t.Tag] 78)).alloc (Obj.cells #[.int .i64 2] 3)) := bel_alloc (bel_alloc (Below.refl _ _) _) _
  have VF : Var1 ((w1.alloc (Obj.cells #[.int .u64 t.Root, .int .u64 t.Tag] 78)).alloc (Obj.cells #[.int .i64 2] 3)) (w1.heap.size + 1) 3 (.int .i64 2) := alloc2_new _ _ _
  have VH : ((w1.alloc (Obj.cells #[.int .u64 t.Root, .int .u64 t.Tag] 78)).alloc (Obj.cells #[.int .i64 2] 3)).heap[w1.heap.size]? = some (Obj.cells #[.int .u64 t.Root, .int .u64 t.Tag] 78) := heap_alloc2_old _ _ _
  have HTY := hid (types_any (w1.alloc (Obj.cells #[.int .u64 t.Root, .int .u64 t.Tag] 78)))
  rw [show (w1.alloc (Obj.cells #[.int .u64 t.Root, .int .u64 t.Tag] 78)).heap.size = w1.heap.size + 1 from by simp] at HTY
  clear v1
  go_wp2_with fail
  refine HTY.out.mono ?_
  rintro e w2 ⟨rfl, rfl⟩
  clear HTY
  generalize (w1.alloc (Obj.cells #[.int .u64 t.Root, .int .u64 t.Tag] 78)).alloc (Obj.cells #[.int .i64 2] 3) = W2 at *
  have q0 : W2.cell? ⟨w1.heap.size, 0, none⟩ = some (.int .u64 t.Root) := by simp [World.cell?, VH]
  have q1 : W2.cell? ⟨w1.heap.size, 1, none⟩ = some (.int .u64 t.Tag) := by simp [World.cell?, VH]
  clear k0 k2 VH
  go_wp2
  clear q0 q1
  go_loopw [8, 29] (fun lv i wr => ∃ (j : Nat) (tv : Value), j ≤ 2 ∧ i = .int .i64 j ∧ lv = tv ∧ OwnL lay_Record wr W2.heap.size none 83 tv ((recsT t).take j) ∧ Below W2.heap.size W2 wr) (fun _ i _ => 2 - (intOf i).toNat)
  case atStart => exact ⟨0, _, by omega, rfl, rfl, OwnL.nil _ _ _ _ _, Below.refl _ _⟩
  case round =>
  obtain ⟨j, tx, hj, rfl, htx, hown, hbel⟩ := hrel
  replace htx := htx.symm
  subst htx
  rcases (show j = 0 ∨ j = 1 ∨ j = 2 by omega) with rfl | rfl | rfl
  · obtain ⟨A3, n3, c3, rfl, hs3⟩ := hown.read
    have hn3 : n3 = 0 := by rw [← hs3.len]; rfl
    subst hn3
    have vf := (VF.call hbel).c0
    have HTA : Calls Try.prog 78 #[.int .i64 0, .pointer (some ⟨w1.heap.size + 1, 0, none⟩)] wr fun e w' => e = .returned (.int .u64 1) ∧ wr = w' := tyAt_any 0 _ wr vf (by omega)
    have HTB := hid HTA
    have hba := bel_alloc (Below.refl wr.heap.size wr) (Obj.cells #[.int .u64 t.Root] 25)
    have HPU := hid (put_any _ _ _ _ _ (rd_nums1 (w := wr) (t := 25) hR) (by decide))
    rw [octs_one] at HPU
    have HZB := hid (show (wr.alloc (Obj.cells #[.int .u64 t.Root] 25)).heap.size = wr.heap.size + 1 from by simp)
    have ix : ∀ w, (Instr.index 78 (.agg #[.int .u64 t.Root, .int .u64 t.Tag]) (.int .i64 0)).run Try.prog w = .ok (.int .u64 t.Root) w := fun _ => by kernel_rfl
    clear HTA hs3
    go_wp2_with fail
    refine HTB.out.mono ?_
    rintro e w4 ⟨rfl, rfl⟩
    go_wp2_with fail
    refine HPU.out.mono ?_
    rintro e w5 ⟨v5, rfl, ho5, hb5⟩
    obtain ⟨A5, n5, c5, rfl, hs5⟩ := ho5.slI
    have hb6 := bel_call hba hb5
    have ho6 := hown.keep hb6
    have HGE := hid (show ∀ g, (Value.slice A3 0 c3).ownBlock = some g → g < wr.heap.size from fun g hg => hown.lt hg)
    have hz5 := hb5.size
    rw [HZB.out] at hz5 hs5
    have HS5 := hid hs5
    have hwz := hbel.size
    clear hba hb5 ho5 hs5 HPU HTB vf
    go_wp2_with (at_builtin; go_must (refine wpList_pushL (w := w5) rfl (.tmp 32) (.tmp 41) 81 rfl W2.heap.size none 83 _ 32 Try.underlying81 Try.infoRec rfl (by decide) (.slice A3 0 c3) ((recsT t).take 0) ⟨1, oct t.Root⟩ #[.int .u64 1, .slice A5 n5 c5] (From w5 (wr.heap.size + 1)) rfl rfl ho6 (rep_Record.2 ⟨A5, n5, c5, rfl, (by show (Lit.int .u64 1).wf = true; decide), HS5.out⟩) (fun b hb => ⟨trivial, hb.2.1, fun he => by have := HGE.out b he.symm; have := hb.1; omega⟩) (by omega) (by simp [recsT]) (by simp [recsT, maxLen]) ?_; intro v7 w7 ho7 hx7; have hb7 : Below W2.heap.size w5 w7 := ho6.below hx7 (by omega)))
    go_roundw
    case rel => exact ⟨1, _, by omega, by go_num, rfl, ho7, (bel_call hbel hb6).trans hb7⟩
    case measure => simp [intOf]
  · obtain ⟨A3, n3, c3, rfl, hs3⟩ := hown.read
    have hn3 : n3 = 1 := by rw [← hs3.len]; rfl
    subst hn3
    have vf := (VF.call hbel).c0
    have HTA : Calls Try.prog 78 #[.int .i64 1, .pointer (some ⟨w1.heap.size + 1, 0, none⟩)] wr fun e w' => e = .returned (.int .u64 2) ∧ wr = w' := tyAt_any 1 _ wr vf (by omega)
    have HTB := hid HTA
    have hba := bel_alloc (Below.refl wr.heap.size wr) (Obj.cells #[.int .u64 t.Tag] 25)
    have HPU := hid (put_any _ _ _ _ _ (rd_nums1 (w := wr) (t := 25) hTu) (by decide))
    rw [octs_one] at HPU
    have HZB := hid (show (wr.alloc (Obj.cells #[.int .u64 t.Tag] 25)).heap.size = wr.heap.size + 1 from by simp)
    have ix : ∀ w, (Instr.index 78 (.agg #[.int .u64 t.Root, .int .u64 t.Tag]) (.int .i64 1)).run Try.prog w = .ok (.int .u64 t.Tag) w := fun _ => by kernel_rfl
    clear HTA hs3
    go_wp2_with fail
    refine HTB.out.mono ?_
    rintro e w4 ⟨rfl, rfl⟩
    go_wp2_with fail
    refine HPU.out.mono ?_
    rintro e w5 ⟨v5, rfl, ho5, hb5⟩
    obtain ⟨A5, n5, c5, rfl, hs5⟩ := ho5.slI
    have hb6 := bel_call hba hb5
    have ho6 := hown.keep hb6
    have HGE := hid (show ∀ g, (Value.slice A3 1 c3).ownBlock = some g → g < wr.heap.size from fun g hg => hown.lt hg)
    have hz5 := hb5.size
    rw [HZB.out] at hz5 hs5
    have HS5 := hid hs5
    have hwz := hbel.size
    clear hba hb5 ho5 hs5 HPU HTB vf
    go_wp2_with (at_builtin; go_must (refine wpList_pushL (w := w5) rfl (.tmp 32) (.tmp 41) 81 rfl W2.heap.size none 83 _ 32 Try.underlying81 Try.infoRec rfl (by decide) (.slice A3 1 c3) ((recsT t).take 1) ⟨2, oct t.Tag⟩ #[.int .u64 2, .slice A5 n5 c5] (From w5 (wr.heap.size + 1)) rfl rfl ho6 (rep_Record.2 ⟨A5, n5, c5, rfl, (by show (Lit.int .u64 2).wf = true; decide), HS5.out⟩) (fun b hb => ⟨trivial, hb.2.1, fun he => by have := HGE.out b he.symm; have := hb.1; omega⟩) (by omega) (by simp [recsT]) (by simp [recsT, maxLen]) ?_; intro v7 w7 ho7 hx7; have hb7 : Below W2.heap.size w5 w7 := ho6.below hx7 (by omega)))
    go_roundw
    case rel => exact ⟨2, _, by omega, by go_num, rfl, ho7, (bel_call hbel hb6).trans hb7⟩
    case measure => simp [intOf]
  have ho2 : OwnL lay_Record wr W2.heap.size none 83 tx ((⟨1, oct t.Root⟩ : Rec) :: ⟨2, oct t.Tag⟩ :: capR 16 (t.L.take 0)) := hown
  clear hown
  rw [show ((2 : Nat) : Int) = 2 from rfl]
  go_wp2
  obtain ⟨wq, hwq⟩ : ∃ z, z = wr := ⟨_, rfl⟩
  subst hwq
  go_loopw [8, 46] (fun lv i wr => ∃ (j : Nat) (tv : Value), j ≤ n6 ∧ i = .int .i64 j ∧ lv = tv ∧ OwnL lay_Record wr W2.heap.size none 83 tv ((⟨1, oct t.Root⟩ : Rec) :: ⟨2, oct t.Tag⟩ :: capR 16 (t.L.take j)) ∧ Below W2.heap.size W2 wr) (fun _ i _ => n6 - (intOf i).toNat)
  case atStart => exact ⟨0, _, Nat.zero_le _, rfl, rfl, ho2, hbel⟩
  case round =>
  clear ho2 hbel
  obtain ⟨j, tx, hj, rfl, htx, hown, hbel⟩ := hrel
  replace htx := htx.symm
  subst htx
  have hwz := hbel.size
  have hwa := HA.size
  by_cases hlt : j < n6
  · have hbw := bel_call HA hbel
    obtain ⟨b1, o1, A5, n5, c5, hx1, hA6, hb1, t1, hs5⟩ := txt_atA (HS6.out.keep fun _ hp => hbw.cell hp) hlt
    subst hA6
    have hx2 : j < t.L.length := by rw [← HN6.out]; exact hlt
    have hp : (txts t.L)[j] = putC t.L[j] := by simp [txts]
    rw [hp] at hs5
    obtain ⟨A3, n3, c3, rfl, hs3⟩ := hown.read
    have hn3 : n3 = j + 2 := by rw [← hs3.len]; simp [capR_len]; omega
    have vf := (VF.call hbel).c0
    have HTA := tyAt_any n3 _ wr vf (by omega)
    rw [show tyAt n3 = 16 + (j : Int) from by rw [hn3]; unfold tyAt; rw [if_neg (by omega)]; omega] at HTA
    have HTB := hid HTA
    have HT := hid (show capR 16 (t.L.take (j + 1)) = capR 16 (t.L.take j) ++ [⟨16 + (j : Int), putC t.L[j]⟩] from by
      rw [List.take_succ_eq_append_getElem hx2, capR_snoc, List.length_take, Nat.min_eq_left (Nat.le_of_lt hx2)]; simp)
    have HGE := hid (show ∀ g, (Value.slice A3 n3 c3).ownBlock = some g → W2.heap.size ≤ g from fun g hg => hown.geB hg)
    have hal : ((⟨1, oct t.Root⟩ : Rec) :: ⟨2, oct t.Tag⟩ :: capR 16 (t.L.take j)).length ≤ 18 := by simp [capR_len]; omega
    have hlen1 : (((⟨1, oct t.Root⟩ : Rec) :: ⟨2, oct t.Tag⟩ :: capR 16 (t.L.take j)).length + 1) * 32 ≤ 140737488355328 := by omega
    have hlen2 : ((⟨1, oct t.Root⟩ : Rec) :: ⟨2, oct t.Tag⟩ :: capR 16 (t.L.take j)).length + 1 ≤ maxLen := by unfold maxLen; omega
    have hwf : (Lit.int .u64 (16 + (j : Int))).wf = true := wf_u64 (by omega)
    have HS5 := hid hs5
    clear HTA hs3 hn3 hal hs5 hp
    go_wp2_with fail
    refine HTB.out.mono ?_
    rintro e w4 ⟨rfl, rfl⟩
    clear HTB vf
    go_wp2_with (at_builtin; go_must (refine wpList_pushL (w := wr) rfl (.tmp 50) (.tmp 57) 81 rfl W2.heap.size none 83 _ 32 Try.underlying81 Try.infoRec rfl (by decide) (.slice A3 n3 c3) ((⟨1, oct t.Root⟩ : Rec) :: ⟨2, oct t.Tag⟩ :: capR 16 (t.L.take j)) ⟨16 + (j : Int), putC t.L[j]⟩ #[.int .u64 (16 + (j : Int)), .slice A5 n5 c5] (· < w1.heap.size) rfl rfl hown (rep_Record.2 ⟨A5, n5, c5, rfl, hwf, HS5.out⟩) (fun b hb => ⟨trivial, by omega, fun he => by have := HGE.out b he.symm; omega⟩) (by omega) hlen1 hlen2 ?_; intro v7 w7 ho7 hx7; have hb7 : Below W2.heap.size wr w7 := hown.below hx7 (by omega)))
    go_roundw
    case rel => exact ⟨j + 1, _, by omega, by go_num, rfl, by rw [HT.out]; exact ho7, hbel.trans hb7⟩
    case measure => simp [intOf]; omega
  · have HTK := hid (show t.L.take j = t.L from List.take_of_length_le (by rw [← HN6.out]; omega))
    rw [HTK.out] at hown
    obtain ⟨A7, n7, c7, rfl, hs7⟩ := hown.read
    have HPR := hid (tlvPut_any A7 n7 c7 (recsT t) wr hs7)
    rw [(tp_is HOK.out).1, (tp_is HOK.out).2] at HPR
    have hzz := HB.size
    clear hown hs7
    go_wp2_with fail
    refine HPR.out.mono ?_
    rintro e w9 ⟨v9, rfl, ho9, hb9⟩
    have HBE := hid (bel_call (bel_call HB (bel_call HA hbel)) hb9)
    have HO9 := hid (Own.weaken ho9 (show w.heap.size ≤ wr.heap.size by omega))
    clear ho9
    go_wp2
    go_ret2
    exact ⟨_, by rw [HE.out.1]; rfl, by rw [HE.out.2]; exact HO9.out, HBE.out⟩
end Go.Proofs.Ytgiapfenalhleaa
namespace Go.Proofs.Ytgiapfenalhleaa
open Go.RowKit Go.WalkArith

theorem tgt_err {xs : List Int} (h : tgtE xs ≠ 0) : tgtT xs = zeroT := by
  unfold tgtE at h
  unfold tgtT
  split at h
  · rename_i h1; rw [if_pos h1]
  · rename_i h1; rw [if_neg h1]; unfold rtT; exact if_neg h
section
variable {l : List Rec}
theorem rt0 (h : fE l 1 ≠ 0 ∨ fE l 2 ≠ 0) : rtE l = 5 := if_pos h
theorem rt1 (h1 : fE l 1 = 0) (h2 : fE l 2 = 0) (h : nE l 1 ≠ 0) : rtE l = nE l 1 := by
  unfold rtE; rw [if_neg (by simp [h1, h2]), if_pos h]
theorem rt2 (h1 : fE l 1 = 0) (h2 : fE l 2 = 0) (h3 : nE l 1 = 0) (h : nE l 2 ≠ 0) : rtE l = nE l 2 := by
  unfold rtE; rw [if_neg (by simp [h1, h2]), if_neg (by simp [h3]), if_pos h]
theorem rt3 (h1 : fE l 1 = 0) (h2 : fE l 2 = 0) (h3 : nE l 1 = 0) (h4 : nE l 2 = 0) (h : 1048576 < nV l 2 ∨ 18 < l.length) : rtE l = 2 := by
  unfold rtE; rw [if_neg (by simp [h1, h2]), if_neg (by simp [h3]), if_neg (by simp [h4]), if_pos h]
theorem rt4 (h1 : fE l 1 = 0) (h2 : fE l 2 = 0) (h3 : nE l 1 = 0) (h4 : nE l 2 = 0) (h5 : ¬ (1048576 < nV l 2 ∨ 18 < l.length)) (h : ¬ NumOk (l.drop 2)) : rtE l = 2 := by
  unfold rtE; rw [if_neg (by simp [h1, h2]), if_neg (by simp [h3]), if_neg (by simp [h4]), if_neg h5, if_pos h]
theorem rt5 (h1 : fE l 1 = 0) (h2 : fE l 2 = 0) (h3 : nE l 1 = 0) (h4 : nE l 2 = 0) (h5 : ¬ (1048576 < nV l 2 ∨ 18 < l.length)) (h6 : NumOk (l.drop 2)) (h : (l[0]?.map (·.T)) ≠ some 1) : rtE l = 2 := by
  unfold rtE; rw [if_neg (by simp [h1, h2]), if_neg (by simp [h3]), if_neg (by simp [h4]), if_neg h5, if_neg (by simpa using h6), if_pos h]
theorem rt6 (h1 : fE l 1 = 0) (h2 : fE l 2 = 0) (h3 : nE l 1 = 0) (h4 : nE l 2 = 0) (h5 : ¬ (1048576 < nV l 2 ∨ 18 < l.length)) (h6 : NumOk (l.drop 2)) (h : (l[0]?.map (·.T)) = some 1) : rtE l = csE (l.drop 2) := by
  unfold rtE; rw [if_neg (by simp [h1, h2]), if_neg (by simp [h3]), if_neg (by simp [h4]), if_neg h5, if_neg (by simpa using h6), if_neg (by simpa using h)]
theorem rt_two (hm : MayBe l) (h1 : fE l 1 = 0) (h2 : fE l 2 = 0) : 2 ≤ l.length := by
  rw [fE_ok hm] at h1 h2
  match l, h1, h2 with
  | [], h1, _ => simp [foE, findR] at h1
  | [a], h1, h2 =>
    unfold foE findR at h1 h2
    by_cases k : a.T = 1
    · simp [k] at h2
    · simp [k] at h1
  | _ :: _ :: _, _, _ => simp
theorem rt_ok (h : rtE l = 0) : rtT l = ⟨nV l 1, csL (l.drop 2), nV l 2⟩ := if_pos h
end
theorem csE_step {l : List Rec} {j : Nat} (hj : j < l.length) : csE (l.drop j) = if (getC l[j].V).2 ≠ 0 then (getC l[j].V).2 else csE (l.drop (j + 1)) := by
  rw [List.drop_eq_getElem_cons hj]; rfl
theorem csL_take {l : List Rec} {j : Nat} (hj : j < l.length) : csL (l.take (j + 1)) = csL (l.take j) ++ [(getC l[j].V).1] := by
  unfold csL
  rw [List.take_succ_eq_append_getElem hj, List.map_append]; rfl
end Go.Proofs.Ytgiapfenalhleaa
namespace Go.Proofs.Ytgiapfenalhleaa
open Go.RowKit Go.WalkArith

set_option maxRecDepth 100000 in
set_option maxHeartbeats 1000000 in
theorem refNumber_any (A : Option Addr) (n c : Nat) (l : List Rec) (t : Int) (w : World) (hr : Sl lay_Record w (· < w.heap.size) A n c l) :
    Calls Try.prog 59 #[.slice A n c, .int .u64 t] w fun e w' => e = .returned (.tuple #[.int .u64 (nV l t), .int .i64 (nE l t)]) ∧ Below w.heap.size w w' := by
  unfold nV nE
  have HF := refFind_any A n c l t w hr
  generalize fE l t = e at *
  generalize fV l t = xs at *
  by_cases he : e = 0
  case neg =>
    rw [if_pos he, if_pos he]
    have hb : (e != 0) = true := by simpa using he
    clear he
    go_enter Try.func59, Try.ntmps59
    go_wp2_with (go_at_call 58; go_must (refine HF.mono ?_; rintro e w1 ⟨v1, rfl, hown1, hb1⟩))
    go_ret2
    exact ⟨rfl, hb1⟩
  subst he
  rw [if_neg (by simp), if_neg (by simp)]
  unfold numV numE
  by_cases he : getE xs = 0
  case neg =>
    rw [if_pos he, if_pos he]
    have HE := hid he
    have hb : (getE xs != 0) = true := by simpa using he
    clear he
    go_enter Try.func59, Try.ntmps59
    go_wp2_with (go_at_call 58; go_must (refine HF.mono ?_; rintro e w1 ⟨v1, rfl, hown1, hb1⟩; obtain ⟨A1, n1, c1, rfl, hr1⟩ := hown1.formN))
    with_reducible refine (refGet_bad _ _ _ xs _ hr1 HE.out).mono ?_
    rintro e w2 ⟨rfl, hb2⟩
    go_wp2
    go_ret2
    exact ⟨rfl, bel_call hb1 hb2⟩
  have hne : ¬ (getE xs ≠ 0) := by simp [he]
  rw [if_neg hne, if_neg hne]
  have HE := hid he
  clear he hne
  by_cases hkk : (oct (rdN xs)).length = xs.length
  all_goals
    have HK := hid hkk
    first | rw [if_pos hkk, if_pos hkk] | rw [if_neg hkk, if_neg hkk]
    clear hkk
    go_enter Try.func59, Try.ntmps59
    go_wp2_with (go_at_call 58; go_must (refine HF.mono ?_; rintro e w1 ⟨v1, rfl, hown1, hb1⟩; obtain ⟨A1, n1, c1, rfl, hr1⟩ := hown1.formN))
    obtain ⟨m, k, hX, hK, hk1, hk9, hkn, hm, -⟩ := num_at hr1 HE.out
    have HL := hid hr1.len
    have X := hid hX
    have K := hid hK
    clear hX hK
    with_reducible refine (refGet_ok _ _ _ xs _ hr1 HE.out).mono ?_
    rw [K.out, X.out]
    rintro e w2 ⟨rfl, hb2⟩
  · have hkk : k = n1 := by rw [← K.out, HK.out, HL.out]
    subst hkk
    go_wp2
    go_ret2
    exact ⟨by rw [X.out]; rfl, bel_call hb1 hb2⟩
  · have hkk : k ≠ n1 := fun h => HK.out (by rw [K.out, HL.out, h])
    have hne : ((k : Int) != (n1 : Int)) = true := by simp; omega
    go_wp2
    go_ret2
    exact ⟨rfl, bel_call hb1 hb2⟩
end Go.Proofs.Ytgiapfenalhleaa
