/-
  The contract of package token's Put.
  The contracts of package token's readHead, inPlace, and readCaveats.
  The contract of package token's Get.
  All contracts of package token.
  The contracts of the laws' own 'live' and 'bound' of layer 7.
-/
import Derived.Test.YtgiapfenalhleaaPackTok
import Derived.Test.YtgiapfenalhleaaPackTokRef
import Derived.Test.YtgiapfenalhleaaPackTlv
import Derived.BigQuiet
namespace Go.Proofs.Ytgiapfenalhleaa
open Go.RowKit Go.WalkArith

theorem OwnL.geB {α : Type} {L : Lay α} {w : World} {base : Nat} {lo : Option Nat} {e : TypeId} {v : Value} {xs : List α} (h : OwnL L w base lo e v xs) {g : Nat} (hg : v.ownBlock = some g) : base ≤ g := by
  obtain ⟨cs, h1, h2⟩ := h
  exact (h1.lt g hg).1

set_option maxRecDepth 100000 in
set_option maxHeartbeats 8000000 in
theorem tPut_any (s : Array Value) (t : Tok) (w : World) (g : lay_Token.rep w (· < w.heap.size) t s.toList) :
    Calls Try.prog 25 #[.agg s] w fun e w' => ∃ v', e = .returned (.tuple #[v', .int .i64 (tpE t)]) ∧ Own w' w.heap.size 5 .u8 v' (tpO t) ∧ Below w.heap.size w w' := by
  obtain ⟨A2, n2, c2, rfl, hR, hT, hL⟩ := agg_Token g
  clear g
  have HL := hid hL.len
  have hb0 : Below w.heap.size w (w.alloc (Obj.cells #[.int .u64 t.Root, .slice A2 n2 c2, .int .i64 t.Tag] 28)) := bel_alloc (Below.refl _ _) _
  have v0 : Var3 (w.alloc (Obj.cells #[.int .u64 t.Root, .slice A2 n2 c2, .int .i64 t.Tag] 28)) w.heap.size 28 (.int .u64 t.Root) (.slice A2 n2 c2) (.int .i64 t.Tag) := Var3.new _ _ _ _ _
  have PT := hid (token_in hR hT hL hb0)
  clear hL
  go_enter Try.func25, Try.ntmps25
  go_wp2_with fail
  generalize (w.alloc (Obj.cells #[.int .u64 t.Root, .slice A2 n2 c2, .int .i64 t.Tag] 28)) = W0 at *
  refine (ttexts_any _ t W0 PT.out).mono ?_
  rintro e w1 ⟨vl, rfl, hol, hb1⟩
  obtain ⟨A6, n6, c6, rfl, hs6⟩ := hol.read
  have HB := bel_call hb0 hb1
  have v1 := v0.call hb1
  clear v0 hb0 hb1 hol PT
  rcases tk_is (t := t) with ⟨hE, hok⟩ | ⟨hE, hok⟩
  rotate_left
  · rw [hE]
    have HE := hid (show tpE t = 1 ∧ tpO t = [] from ⟨if_neg hok, if_neg hok⟩)
    clear hE hok v1 hs6
    go_wp2
    go_ret2
    exact ⟨_, by rw [HE.out.1]; rfl, by rw [HE.out.2]; exact Own.nil _ _ _ _, HB⟩
  rw [hE]
  have HE := hid (show tpE t = 0 ∧ tpO t = octsR (recsT t) from ⟨if_pos hok, if_pos hok⟩)
  rw [show ttL t = txts t.L from if_pos hok] at hs6
  have hn6 : n6 = t.L.length := by rw [← hs6.len]; unfold txts; rw [List.length_map]
  have hn16 : n6 ≤ 16 := by rw [hn6]; exact hok.1.1
  have HN6 := hid hn6
  have HS6 := hid hs6
  have HOK := hid hok
  clear hE hn6 hs6
  have hTu : (Lit.int .u64 t.Tag).wf = true := by have := hok.2; exact wf_u64 (by omega)
  have hwt : IntKind.u64.wrap t.Tag = t.Tag := by have := hok.2; exact IntWalk.u64_in _ (by omega)
  clear hok
  have k0 := v1.c0
  have k2 := v1.c2
  have HA : Below w1.heap.size w1 ((w1.alloc (Obj.cells #[.int .u64 t.Root, .int .u64 t.Tag] 78)).alloc (Obj.cells #[.int .i64 2] 3)) := bel_alloc (bel_alloc (Below.refl _ _) _) _
  have VF : Var1 ((w1.alloc (Obj.cells #[.int .u64 t.Root, .int .u64 t.Tag] 78)).alloc (Obj.cells #[.int .i64 2] 3)) (w1.heap.size + 1) 3 (.int .i64 2) := alloc2_new _ _ _
  have VH : ((w1.alloc (Obj.cells #[.int .u64 t.Root, .int .u64 t.Tag] 78)).alloc (Obj.cells #[.int .i64 2] 3)).heap[w1.heap.size]? = some (Obj.cells #[.int .u64 t.Root, .int .u64 t.Tag] 78) := heap_alloc2_old _ _ _
  have HTY := hid (types_any (w1.alloc (Obj.cells #[.int .u64 t.Root, .int .u64 t.Tag] 78)))
  rw [show (w1.alloc (Obj.cells #[.int .u64 t.Root, .int .u64 t.Tag] 78)).heap.size = w1.heap.size + 1 from by simp] at HTY
  clear v1
  go_wp2_with fail
  refine HTY.out.mono ?_
  rintro e w2 ⟨rfl, rfl⟩
  clear HTY
  generalize (w1.alloc (Obj.cells #[.int .u64 t.Root, .int .u64 t.Tag] 78)).alloc (Obj.cells #[.int .i64 2] 3) = W2 at *
  have q0 : W2.cell? ⟨w1.heap.size, 0, none⟩ = some (.int .u64 t.Root) := by simp [World.cell?, VH]
  have q1 : W2.cell? ⟨w1.heap.size, 1, none⟩ = some (.int .u64 t.Tag) := by simp [World.cell?, VH]
  clear k0 k2 VH
  go_wp2
  clear q0 q1
  go_loopw [8, 29] (fun lv i wr => ∃ (j : Nat) (tv : Value), j ≤ 2 ∧ i = .int .i64 j ∧ lv = tv ∧ OwnL lay_Record wr W2.heap.size none 83 tv ((recsT t).take j) ∧ Below W2.heap.size W2 wr) (fun _ i _ => 2 - (intOf i).toNat)
  case atStart => exact ⟨0, _, by omega, rfl, rfl, OwnL.nil _ _ _ _ _, Below.refl _ _⟩
  case round =>
  obtain ⟨j, tx, hj, rfl, htx, hown, hbel⟩ := hrel
  replace htx := htx.symm
  subst htx
  rcases (show j = 0 ∨ j = 1 ∨ j = 2 by omega) with rfl | rfl | rfl
  · obtain ⟨A3, n3, c3, rfl, hs3⟩ := hown.read
    have hn3 : n3 = 0 := by rw [← hs3.len]; rfl
    subst hn3
    have vf := (VF.call hbel).c0
    have HTA : Calls Try.prog 78 #[.int .i64 0, .pointer (some ⟨w1.heap.size + 1, 0, none⟩)] wr fun e w' => e = .returned (.int .u64 1) ∧ wr = w' := tyAt_any 0 _ wr vf (by omega)
    have HTB := hid HTA
    have hba := bel_alloc (Below.refl wr.heap.size wr) (Obj.cells #[.int .u64 t.Root] 25)
    have HPU := hid (put_any _ _ _ _ _ (rd_nums1 (w := wr) (t := 25) hR) (by decide))
    rw [octs_one] at HPU
    have HZB := hid (show (wr.alloc (Obj.cells #[.int .u64 t.Root] 25)).heap.size = wr.heap.size + 1 from by simp)
    have ix : ∀ w, (Instr.index 78 (.agg #[.int .u64 t.Root, .int .u64 t.Tag]) (.int .i64 0)).run Try.prog w = .ok (.int .u64 t.Root) w := fun _ => by kernel_rfl
    clear HTA hs3
    go_wp2_with fail
    refine HTB.out.mono ?_
    rintro e w4 ⟨rfl, rfl⟩
    go_wp2_with fail
    refine HPU.out.mono ?_
    rintro e w5 ⟨v5, rfl, ho5, hb5⟩
    obtain ⟨A5, n5, c5, rfl, hs5⟩ := ho5.slI
    have hb6 := bel_call hba hb5
    have ho6 := hown.keep hb6
    have HGE := hid (show ∀ g, (Value.slice A3 0 c3).ownBlock = some g → g < wr.heap.size from fun g hg => hown.lt hg)
    have hz5 := hb5.size
    rw [HZB.out] at hz5 hs5
    have HS5 := hid hs5
    have hwz := hbel.size
    clear hba hb5 ho5 hs5 HPU HTB vf
    go_wp2_with (at_builtin; go_must (refine wpList_pushL (w := w5) rfl (.tmp 32) (.tmp 41) 81 rfl W2.heap.size none 83 _ 32 Try.underlying81 Try.infoRec rfl (by decide) (.slice A3 0 c3) ((recsT t).take 0) ⟨1, oct t.Root⟩ #[.int .u64 1, .slice A5 n5 c5] (From w5 (wr.heap.size + 1)) rfl rfl ho6 (rep_Record.2 ⟨A5, n5, c5, rfl, (by show (Lit.int .u64 1).wf = true; decide), HS5.out⟩) (fun b hb => ⟨trivial, hb.2.1, fun he => by have := HGE.out b he.symm; have := hb.1; omega⟩) (by omega) (by simp [recsT]) (by simp [recsT, maxLen]) ?_; intro v7 w7 ho7 hx7; have hb7 : Below W2.heap.size w5 w7 := ho6.below hx7 (by omega)))
    go_roundw
    case rel => exact ⟨1, _, by omega, by go_num, rfl, ho7, (bel_call hbel hb6).trans hb7⟩
    case measure => simp [intOf]
  · obtain ⟨A3, n3, c3, rfl, hs3⟩ := hown.read
    have hn3 : n3 = 1 := by rw [← hs3.len]; rfl
    subst hn3
    have vf := (VF.call hbel).c0
    have HTA : Calls Try.prog 78 #[.int .i64 1, .pointer (some ⟨w1.heap.size + 1, 0, none⟩)] wr fun e w' => e = .returned (.int .u64 2) ∧ wr = w' := tyAt_any 1 _ wr vf (by omega)
    have HTB := hid HTA
    have hba := bel_alloc (Below.refl wr.heap.size wr) (Obj.cells #[.int .u64 t.Tag] 25)
    have HPU := hid (put_any _ _ _ _ _ (rd_nums1 (w := wr) (t := 25) hTu) (by decide))
    rw [octs_one] at HPU
    have HZB := hid (show (wr.alloc (Obj.cells #[.int .u64 t.Tag] 25)).heap.size = wr.heap.size + 1 from by simp)
    have ix : ∀ w, (Instr.index 78 (.agg #[.int .u64 t.Root, .int .u64 t.Tag]) (.int .i64 1)).run Try.prog w = .ok (.int .u64 t.Tag) w := fun _ => by kernel_rfl
    clear HTA hs3
    go_wp2_with fail
    refine HTB.out.mono ?_
    rintro e w4 ⟨rfl, rfl⟩
    go_wp2_with fail
    refine HPU.out.mono ?_
    rintro e w5 ⟨v5, rfl, ho5, hb5⟩
    obtain ⟨A5, n5, c5, rfl, hs5⟩ := ho5.slI
    have hb6 := bel_call hba hb5
    have ho6 := hown.keep hb6
    have HGE := hid (show ∀ g, (Value.slice A3 1 c3).ownBlock = some g → g < wr.heap.size from fun g hg => hown.lt hg)
    have hz5 := hb5.size
    rw [HZB.out] at hz5 hs5
    have HS5 := hid hs5
    have hwz := hbel.size
    clear hba hb5 ho5 hs5 HPU HTB vf
    go_wp2_with (at_builtin; go_must (refine wpList_pushL (w := w5) rfl (.tmp 32) (.tmp 41) 81 rfl W2.heap.size none 83 _ 32 Try.underlying81 Try.infoRec rfl (by decide) (.slice A3 1 c3) ((recsT t).take 1) ⟨2, oct t.Tag⟩ #[.int .u64 2, .slice A5 n5 c5] (From w5 (wr.heap.size + 1)) rfl rfl ho6 (rep_Record.2 ⟨A5, n5, c5, rfl, (by show (Lit.int .u64 2).wf = true; decide), HS5.out⟩) (fun b hb => ⟨trivial, hb.2.1, fun he => by have := HGE.out b he.symm; have := hb.1; omega⟩) (by omega) (by simp [recsT]) (by simp [recsT, maxLen]) ?_; intro v7 w7 ho7 hx7; have hb7 : Below W2.heap.size w5 w7 := ho6.below hx7 (by omega)))
    go_roundw
    case rel => exact ⟨2, _, by omega, by go_num, rfl, ho7, (bel_call hbel hb6).trans hb7⟩
    case measure => simp [intOf]
  have ho2 : OwnL lay_Record wr W2.heap.size none 83 tx ((⟨1, oct t.Root⟩ : Rec) :: ⟨2, oct t.Tag⟩ :: capR 16 (t.L.take 0)) := hown
  clear hown
  rw [show ((2 : Nat) : Int) = 2 from rfl]
  go_wp2
  obtain ⟨wq, hwq⟩ : ∃ z, z = wr := ⟨_, rfl⟩
  subst hwq
  go_loopw [8, 46] (fun lv i wr => ∃ (j : Nat) (tv : Value), j ≤ n6 ∧ i = .int .i64 j ∧ lv = tv ∧ OwnL lay_Record wr W2.heap.size none 83 tv ((⟨1, oct t.Root⟩ : Rec) :: ⟨2, oct t.Tag⟩ :: capR 16 (t.L.take j)) ∧ Below W2.heap.size W2 wr) (fun _ i _ => n6 - (intOf i).toNat)
  case atStart => exact ⟨0, _, Nat.zero_le _, rfl, rfl, ho2, hbel⟩
  case round =>
  clear ho2 hbel
  obtain ⟨j, tx, hj, rfl, htx, hown, hbel⟩ := hrel
  replace htx := htx.symm
  subst htx
  have hwz := hbel.size
  have hwa := HA.size
  by_cases hlt : j < n6
  · have hbw := bel_call HA hbel
    obtain ⟨b1, o1, A5, n5, c5, hx1, hA6, hb1, t1, hs5⟩ := txt_atA (HS6.out.keep fun _ hp => hbw.cell hp) hlt
    subst hA6
    have hx2 : j < t.L.length := by rw [← HN6.out]; exact hlt
    have hp : (txts t.L)[j] = putC t.L[j] := by simp [txts]
    rw [hp] at hs5
    obtain ⟨A3, n3, c3, rfl, hs3⟩ := hown.read
    have hn3 : n3 = j + 2 := by rw [← hs3.len]; simp [capR_len]; omega
    have vf := (VF.call hbel).c0
    have HTA := tyAt_any n3 _ wr vf (by omega)
    rw [show tyAt n3 = 16 + (j : Int) from by rw [hn3]; unfold tyAt; rw [if_neg (by omega)]; omega] at HTA
    have HTB := hid HTA
    have HT := hid (show capR 16 (t.L.take (j + 1)) = capR 16 (t.L.take j) ++ [⟨16 + (j : Int), putC t.L[j]⟩] from by
      rw [List.take_succ_eq_append_getElem hx2, capR_snoc, List.length_take, Nat.min_eq_left (Nat.le_of_lt hx2)]; simp)
    have HGE := hid (show ∀ g, (Value.slice A3 n3 c3).ownBlock = some g → W2.heap.size ≤ g from fun g hg => hown.geB hg)
    have hal : ((⟨1, oct t.Root⟩ : Rec) :: ⟨2, oct t.Tag⟩ :: capR 16 (t.L.take j)).length ≤ 18 := by simp [capR_len]; omega
    have hlen1 : (((⟨1, oct t.Root⟩ : Rec) :: ⟨2, oct t.Tag⟩ :: capR 16 (t.L.take j)).length + 1) * 32 ≤ 140737488355328 := by omega
    have hlen2 : ((⟨1, oct t.Root⟩ : Rec) :: ⟨2, oct t.Tag⟩ :: capR 16 (t.L.take j)).length + 1 ≤ maxLen := by unfold maxLen; omega
    have hwf : (Lit.int .u64 (16 + (j : Int))).wf = true := wf_u64 (by omega)
    have HS5 := hid hs5
    clear HTA hs3 hn3 hal hs5 hp
    go_wp2_with fail
    refine HTB.out.mono ?_
    rintro e w4 ⟨rfl, rfl⟩
    clear HTB vf
    go_wp2_with (at_builtin; go_must (refine wpList_pushL (w := wr) rfl (.tmp 50) (.tmp 57) 81 rfl W2.heap.size none 83 _ 32 Try.underlying81 Try.infoRec rfl (by decide) (.slice A3 n3 c3) ((⟨1, oct t.Root⟩ : Rec) :: ⟨2, oct t.Tag⟩ :: capR 16 (t.L.take j)) ⟨16 + (j : Int), putC t.L[j]⟩ #[.int .u64 (16 + (j : Int)), .slice A5 n5 c5] (· < w1.heap.size) rfl rfl hown (rep_Record.2 ⟨A5, n5, c5, rfl, hwf, HS5.out⟩) (fun b hb => ⟨trivial, by omega, fun he => by have := HGE.out b he.symm; omega⟩) (by omega) hlen1 hlen2 ?_; intro v7 w7 ho7 hx7; have hb7 : Below W2.heap.size wr w7 := hown.below hx7 (by omega)))
    go_roundw
    case rel => exact ⟨j + 1, _, by omega, by go_num, rfl, by rw [HT.out]; exact ho7, hbel.trans hb7⟩
    case measure => simp [intOf]; omega
  · have HTK := hid (show t.L.take j = t.L from List.take_of_length_le (by rw [← HN6.out]; omega))
    rw [HTK.out] at hown
    obtain ⟨A7, n7, c7, rfl, hs7⟩ := hown.read
    have HPR := hid (tlvPut_any A7 n7 c7 (recsT t) wr hs7)
    rw [(tp_is HOK.out).1, (tp_is HOK.out).2] at HPR
    have hzz := HB.size
    clear hown hs7
    go_wp2_with fail
    refine HPR.out.mono ?_
    rintro e w9 ⟨v9, rfl, ho9, hb9⟩
    have HBE := hid (bel_call (bel_call HB (bel_call HA hbel)) hb9)
    have HO9 := hid (Own.weaken ho9 (show w.heap.size ≤ wr.heap.size by omega))
    clear ho9
    go_wp2
    go_ret2
    exact ⟨_, by rw [HE.out.1]; rfl, by rw [HE.out.2]; exact HO9.out, HBE.out⟩
end Go.Proofs.Ytgiapfenalhleaa
namespace Go.Proofs.Ytgiapfenalhleaa
open Go.RowKit Go.WalkArith

/-- An array's variable of two cells. -/
def Pair (w : World) (g : Nat) (t : TypeId) (x y : Value) : Prop := w.heap[g]? = some (.cells #[x, y] t (0, 0))
section
variable {w w' : World} {g : Nat} {t : TypeId} {x y : Value}
theorem Pair.c0 (h : Pair w g t x y) : w.cell? ⟨g, 0, none⟩ = some x := by unfold Pair at h; simp [World.cell?, h]
theorem Pair.c1 (h : Pair w g t x y) : w.cell? ⟨g, 1, none⟩ = some y := by unfold Pair at h; simp [World.cell?, h]
theorem Pair.f (h : Pair w g t x y) (i : Nat) : w.frozen? ⟨g, i, none⟩ = false := by unfold Pair at h; simp [World.frozen?, h]
theorem Pair.lt (h : Pair w g t x y) : g < w.heap.size := (Array.getElem?_eq_some_iff.1 h).1
theorem Pair.call (h : Pair w g t x y) (hb : Below w.heap.size w w') : Pair w' g t x y := (hb.block g h.lt).trans h
theorem Pair.set0 (h : Pair w g t x y) (u : Value) : Pair (w.setCell ⟨g, 0, none⟩ u) g t u y := heap_setCell_same w g 0 _ t u h
theorem Pair.set1 (h : Pair w g t x y) (u : Value) : Pair (w.setCell ⟨g, 1, none⟩ u) g t x u := heap_setCell_same w g 1 _ t u h
theorem Pair.set (h : Pair w g t x y) (u v : Value) : Pair ((w.setCell ⟨g, 0, none⟩ u).setCell ⟨g, 1, none⟩ v) g t u v := (h.set0 u).set1 v
theorem Pair.setOther {b : Nat} (h : Pair w g t x y) (hne : g ≠ b) (i : Nat) (u : Value) : Pair (w.setCell ⟨b, i, none⟩ u) g t x y := (Below.heap_setCell _ _ _ _ hne).trans h
theorem Pair.new (w : World) (t : TypeId) (x y : Value) : Pair (w.alloc (.cells #[x, y] t)) w.heap.size t x y := heap_alloc_new w _
end

/-- The error of what is ahead of caveats. -/
noncomputable def hdE (l : List Rec) : Int := if fE l 1 ≠ 0 ∨ fE l 2 ≠ 0 then 5 else if nE l 1 ≠ 0 then nE l 1 else nE l 2
theorem fE5 {l : List Rec} {k : Int} (hm : MayBe l) : fE l k = 0 ∨ fE l k = 5 := by
  rw [fE_ok hm]
  unfold foE
  by_cases h : (findR l k).isSome
  · exact .inl (if_pos h)
  · exact .inr (if_neg h)

set_option maxRecDepth 100000 in
set_option maxHeartbeats 4000000 in
theorem readHead_any (A : Option Addr) (n c b : Nat) (l : List Rec) (w : World) (hs : Sl lay_Record w (· < w.heap.size) A n c l) (hm : MayBe l) (hc : w.cell? ⟨b, 0, none⟩ = some (.int .i64 2)) :
    Calls Try.prog 54 #[.slice A n c, tyF b] w fun e w' => ∃ x y, e = .returned (.tuple #[.agg #[.int .u64 x, .int .u64 y], .int .i64 (hdE l)]) ∧ (hdE l = 0 → x = nV l 1 ∧ y = nV l 2) ∧ Below w.heap.size w w' := by
  have RS := hid (fun (W : World) (h : Below w.heap.size w W) => Sl.call hs h)
  have KB := hid (fun (W : World) (h : Below w.heap.size w W) => (h.cell (p := ⟨b, 0, none⟩) (World.block_lt_of_cell? w _ hc)).trans hc)
  have hb0 : Below w.heap.size w ((w.alloc (Obj.cells #[.int .u64 0, .int .u64 0] 78)).alloc (Obj.cells #[.int .u64 0, .int .u64 0] 78)) := bel_alloc (bel_alloc (Below.refl _ _) _) _
  have VR0 : Pair ((w.alloc (Obj.cells #[.int .u64 0, .int .u64 0] 78)).alloc (Obj.cells #[.int .u64 0, .int .u64 0] 78)) w.heap.size 78 (.int .u64 0) (.int .u64 0) := heap_alloc2_old _ _ _
  have VH0 : Pair ((w.alloc (Obj.cells #[.int .u64 0, .int .u64 0] 78)).alloc (Obj.cells #[.int .u64 0, .int .u64 0] 78)) (w.heap.size + 1) 78 (.int .u64 0) (.int .u64 0) := alloc2_new _ _ _
  clear hs hc
  go_enter Try.func54, Try.ntmps54
  go_wp2
  generalize ((w.alloc (Obj.cells #[.int .u64 0, .int .u64 0] 78)).alloc (Obj.cells #[.int .u64 0, .int .u64 0] 78)) = W0 at *
  go_loopw [13] (fun i wr => ∃ j : Nat, j ≤ 2 ∧ i = .int .i64 j ∧ Hid (0 < j → fE l 1 = 0) ∧ Hid (1 < j → fE l 2 = 0) ∧ Pair wr w.heap.size 78 (.int .u64 0) (.int .u64 0) ∧ Pair wr (w.heap.size + 1) 78 (.int .u64 0) (.int .u64 0) ∧ Below w.heap.size w wr) (fun i _ => 2 - (intOf i).toNat)
  case atStart => exact ⟨0, by omega, rfl, hid fun h => absurd h (by omega), hid fun h => absurd h (by omega), VR0, VH0, hb0⟩
  case round =>
  clear VR0 VH0 hb0
  obtain ⟨j, hj, rfl, p1, p2, VR, VH, hbel⟩ := hrel
  rcases (show j = 0 ∨ j = 1 ∨ j = 2 by omega) with rfl | rfl | rfl
  · obtain ⟨fe, hfe⟩ : ∃ z, fE l 1 = z := ⟨_, rfl⟩
    have HF := hid (tlvFind_any A n c l 1 wr (RS.out _ hbel) (by decide))
    rw [hfe] at HF
    have FE := hid hfe
    clear hfe
    have HTB := hid (show Calls Try.prog 78 #[.int .i64 0, .pointer (some ⟨b, 0, none⟩)] wr fun e w' => e = .returned (.int .u64 1) ∧ wr = w' from tyAt_any 0 _ wr (KB.out _ hbel) (by omega))
    go_wp2_with fail
    refine HTB.out.mono ?_
    rintro e w4 ⟨rfl, rfl⟩
    go_wp2_with fail
    refine HF.out.mono ?_
    rintro e w5 ⟨v5, rfl, -, hb5⟩
    clear HF HTB
    by_cases hz : fe = 0
    · subst hz
      go_wp2
      go_roundw
      case rel => exact ⟨1, by omega, by go_num, hid fun _ => FE.out, hid fun h => absurd h (by omega), VR.call hb5, VH.call hb5, bel_call hbel hb5⟩
      case measure => simp [intOf]
    · have h5 : fe = 5 := by
        have := fE5 (k := 1) hm
        rw [FE.out] at this
        rcases this with h | h
        · exact absurd h hz
        · exact h
      have HE := hid (show hdE l = 5 from if_pos (.inl (by rw [FE.out]; exact hz)))
      have HB5 := bel_call hbel hb5
      have V5 := VR.call hb5
      subst h5
      clear hz VR VH hb5
      have k0 := V5.c0
      have k1 := V5.c1
      have f0 := V5.f 0
      have f1 := V5.f 1
      have V9 := hid (V5.set (.int .u64 0) (.int .u64 0))
      have HB9 := hid ((HB5.setCell (p := ⟨w.heap.size, 0, none⟩) (Nat.le_refl _) (.int .u64 0)).setCell (p := ⟨w.heap.size, 1, none⟩) (Nat.le_refl _) (.int .u64 0))
      go_wp2
      refine bodyPost_ret_by (results_ct rfl _ _ w.heap.size 0 rfl [.int .u64 0, .int .u64 0] _ (range2 V9.out.c0 V9.out.c1) Try.underlying78 rfl (by kernel_rfl)) rfl ?_
      exact ⟨0, 0, by rw [HE.out]; rfl, fun h => absurd h (by rw [HE.out]; exact by decide), HB9.out⟩
  · obtain ⟨fe, hfe⟩ : ∃ z, fE l 2 = z := ⟨_, rfl⟩
    have HF := hid (tlvFind_any A n c l 2 wr (RS.out _ hbel) (by decide))
    rw [hfe] at HF
    have FE := hid hfe
    clear hfe
    have HTB := hid (show Calls Try.prog 78 #[.int .i64 1, .pointer (some ⟨b, 0, none⟩)] wr fun e w' => e = .returned (.int .u64 2) ∧ wr = w' from tyAt_any 1 _ wr (KB.out _ hbel) (by omega))
    go_wp2_with fail
    refine HTB.out.mono ?_
    rintro e w4 ⟨rfl, rfl⟩
    go_wp2_with fail
    refine HF.out.mono ?_
    rintro e w5 ⟨v5, rfl, -, hb5⟩
    clear HF HTB
    by_cases hz : fe = 0
    · subst hz
      go_wp2
      go_roundw
      case rel => exact ⟨2, by omega, by go_num, hid fun _ => p1.out (by omega), hid fun _ => FE.out, VR.call hb5, VH.call hb5, bel_call hbel hb5⟩
      case measure => simp [intOf]
    · have h5 : fe = 5 := by
        have := fE5 (k := 2) hm
        rw [FE.out] at this
        rcases this with h | h
        · exact absurd h hz
        · exact h
      have HE := hid (show hdE l = 5 from if_pos (.inr (by rw [FE.out]; exact hz)))
      have HB5 := bel_call hbel hb5
      have V5 := VR.call hb5
      subst h5
      clear hz VR VH hb5
      have k0 := V5.c0
      have k1 := V5.c1
      have f0 := V5.f 0
      have f1 := V5.f 1
      have V9 := hid (V5.set (.int .u64 0) (.int .u64 0))
      have HB9 := hid ((HB5.setCell (p := ⟨w.heap.size, 0, none⟩) (Nat.le_refl _) (.int .u64 0)).setCell (p := ⟨w.heap.size, 1, none⟩) (Nat.le_refl _) (.int .u64 0))
      go_wp2
      refine bodyPost_ret_by (results_ct rfl _ _ w.heap.size 0 rfl [.int .u64 0, .int .u64 0] _ (range2 V9.out.c0 V9.out.c1) Try.underlying78 rfl (by kernel_rfl)) rfl ?_
      exact ⟨0, 0, by rw [HE.out]; rfl, fun h => absurd h (by rw [HE.out]; exact by decide), HB9.out⟩
  have F1 := p1.out (by omega)
  have F2 := p2.out (by omega)
  have HFF := hid (show ¬ (fE l 1 ≠ 0 ∨ fE l 2 ≠ 0) from fun h => h.elim (fun k => k F1) (fun k => k F2))
  clear p1 p2 F1 F2 hj
  rw [show ((2 : Nat) : Int) = 2 from rfl]
  go_wp2
  obtain ⟨wq, hwq⟩ : ∃ z, z = wr := ⟨_, rfl⟩
  subst hwq
  go_loopw [29] (fun i wr => ∃ j : Nat, ((j = 0 ∧ Pair wr (w.heap.size + 1) 78 (.int .u64 0) (.int .u64 0)) ∨ (j = 1 ∧ Hid (nE l 1 = 0) ∧ Pair wr (w.heap.size + 1) 78 (.int .u64 (nV l 1)) (.int .u64 0)) ∨ (j = 2 ∧ Hid (nE l 1 = 0) ∧ Hid (nE l 2 = 0) ∧ Pair wr (w.heap.size + 1) 78 (.int .u64 (nV l 1)) (.int .u64 (nV l 2)))) ∧ Pair wr w.heap.size 78 (.int .u64 0) (.int .u64 0) ∧ Below w.heap.size w wr ∧ i = .int .i64 j) (fun i _ => 2 - (intOf i).toNat)
  case atStart => exact ⟨0, .inl ⟨rfl, VH⟩, VR, hbel, rfl⟩
  case round =>
  clear VR VH hbel
  obtain ⟨j, hway, VR, hbel, rfl⟩ := hrel
  rcases hway with ⟨rfl, VH⟩ | ⟨rfl, P1, VH⟩ | ⟨rfl, P1, P2, VH⟩
  · obtain ⟨ne, hne⟩ : ∃ z, nE l 1 = z := ⟨_, rfl⟩
    obtain ⟨nv, hnv⟩ : ∃ z, nV l 1 = z := ⟨_, rfl⟩
    have HF := hid (tlvNumber_any A n c l 1 wr (RS.out _ hbel) (by decide))
    rw [hne, hnv] at HF
    have NE := hid hne
    have NV := hid hnv
    clear hne hnv
    have HTB := hid (show Calls Try.prog 78 #[.int .i64 0, .pointer (some ⟨b, 0, none⟩)] wr fun e w' => e = .returned (.int .u64 1) ∧ wr = w' from tyAt_any 0 _ wr (KB.out _ hbel) (by omega))
    go_wp2_with fail
    refine HTB.out.mono ?_
    rintro e w4 ⟨rfl, rfl⟩
    go_wp2_with fail
    refine HF.out.mono ?_
    rintro e w6 ⟨rfl, hb6⟩
    have HB6 := bel_call hbel hb6
    have V6 := VH.call hb6
    have VR6 := VR.call hb6
    clear HF HTB VH VR hb6
    by_cases hz : ne = 0
    · subst hz
      have x0 := V6.c0
      have x1 := V6.f 0
      go_wp2
      go_roundw
      case rel => exact ⟨1, .inr (.inl ⟨rfl, NE, by rw [NV.out]; exact V6.set0 _⟩), VR6.setOther (by omega) 0 _, HB6.setCell (p := ⟨w.heap.size + 1, 0, none⟩) (by show w.heap.size ≤ w.heap.size + 1; omega) _, by go_num⟩
      case measure => simp [intOf]
    · have HE := hid (show hdE l = ne from by unfold hdE; rw [if_neg HFF.out, if_pos (by rw [NE.out]; exact hz), NE.out])
      have k0 := VR6.c0
      have k1 := VR6.c1
      have f0 := VR6.f 0
      have f1 := VR6.f 1
      have V9 := hid (VR6.set (.int .u64 0) (.int .u64 0))
      have HB9 := hid ((HB6.setCell (p := ⟨w.heap.size, 0, none⟩) (Nat.le_refl _) (.int .u64 0)).setCell (p := ⟨w.heap.size, 1, none⟩) (Nat.le_refl _) (.int .u64 0))
      have hne : (ne != 0) = true := by simpa using hz
      go_wp2
      refine bodyPost_ret_by (results_ct rfl _ _ w.heap.size 0 rfl [.int .u64 0, .int .u64 0] _ (range2 V9.out.c0 V9.out.c1) Try.underlying78 rfl (by kernel_rfl)) rfl ?_
      exact ⟨0, 0, by rw [HE.out]; rfl, fun h => absurd h (by rw [HE.out]; exact hz), HB9.out⟩
  · obtain ⟨ne, hne⟩ : ∃ z, nE l 2 = z := ⟨_, rfl⟩
    obtain ⟨nv, hnv⟩ : ∃ z, nV l 2 = z := ⟨_, rfl⟩
    have HF := hid (tlvNumber_any A n c l 2 wr (RS.out _ hbel) (by decide))
    rw [hne, hnv] at HF
    have NE := hid hne
    have NV := hid hnv
    clear hne hnv
    have HTB := hid (show Calls Try.prog 78 #[.int .i64 1, .pointer (some ⟨b, 0, none⟩)] wr fun e w' => e = .returned (.int .u64 2) ∧ wr = w' from tyAt_any 1 _ wr (KB.out _ hbel) (by omega))
    go_wp2_with fail
    refine HTB.out.mono ?_
    rintro e w4 ⟨rfl, rfl⟩
    go_wp2_with fail
    refine HF.out.mono ?_
    rintro e w6 ⟨rfl, hb6⟩
    have HB6 := bel_call hbel hb6
    have V6 := VH.call hb6
    have VR6 := VR.call hb6
    clear HF HTB VH VR hb6
    by_cases hz : ne = 0
    · subst hz
      have x0 := V6.c1
      have x1 := V6.f 1
      go_wp2
      go_roundw
      case rel => exact ⟨2, .inr (.inr ⟨rfl, P1, NE, by rw [NV.out]; exact V6.set1 _⟩), VR6.setOther (by omega) 1 _, HB6.setCell (p := ⟨w.heap.size + 1, 1, none⟩) (by show w.heap.size ≤ w.heap.size + 1; omega) _, by go_num⟩
      case measure => simp [intOf]
    · have HE := hid (show hdE l = ne from by unfold hdE; rw [if_neg HFF.out, if_neg (by rw [P1.out]; decide), NE.out])
      have k0 := VR6.c0
      have k1 := VR6.c1
      have f0 := VR6.f 0
      have f1 := VR6.f 1
      have V9 := hid (VR6.set (.int .u64 0) (.int .u64 0))
      have HB9 := hid ((HB6.setCell (p := ⟨w.heap.size, 0, none⟩) (Nat.le_refl _) (.int .u64 0)).setCell (p := ⟨w.heap.size, 1, none⟩) (Nat.le_refl _) (.int .u64 0))
      have hne : (ne != 0) = true := by simpa using hz
      go_wp2
      refine bodyPost_ret_by (results_ct rfl _ _ w.heap.size 0 rfl [.int .u64 0, .int .u64 0] _ (range2 V9.out.c0 V9.out.c1) Try.underlying78 rfl (by kernel_rfl)) rfl ?_
      exact ⟨0, 0, by rw [HE.out]; rfl, fun h => absurd h (by rw [HE.out]; exact hz), HB9.out⟩
  have HE := hid (show hdE l = 0 from by unfold hdE; rw [if_neg HFF.out, if_neg (by rw [P1.out]; decide), P2.out])
  have x0 := VH.c0
  have x1 := VH.c1
  have k0 := VR.c0
  have k1 := VR.c1
  have f0 := VR.f 0
  have f1 := VR.f 1
  have V9 := hid (VR.set (.int .u64 (nV l 1)) (.int .u64 (nV l 2)))
  have HB9 := hid ((hbel.setCell (p := ⟨w.heap.size, 0, none⟩) (Nat.le_refl _) (.int .u64 (nV l 1))).setCell (p := ⟨w.heap.size, 1, none⟩) (Nat.le_refl _) (.int .u64 (nV l 2)))
  clear VR VH hbel
  go_wp2
  refine bodyPost_ret_by (results_ct rfl _ _ w.heap.size 0 rfl [.int .u64 (nV l 1), .int .u64 (nV l 2)] _ (range2 V9.out.c0 V9.out.c1) Try.underlying78 rfl (by kernel_rfl)) rfl ?_
  exact ⟨_, _, by rw [HE.out]; rfl, fun _ => ⟨rfl, rfl⟩, HB9.out⟩

def InPl (l : List Rec) : Prop := l.length ≤ 18 ∧ ∀ (i : Nat) (h : i < l.length), l[i].T = tyAt i
noncomputable instance (l : List Rec) : Decidable (InPl l) := Classical.propDecidable _

set_option maxRecDepth 100000 in
set_option maxHeartbeats 4000000 in
theorem inPlace_any (A : Option Addr) (n c b : Nat) (l : List Rec) (w : World) (hs : Sl lay_Record w (· < w.heap.size) A n c l) (hc : w.cell? ⟨b, 0, none⟩ = some (.int .i64 2)) :
    Calls Try.prog 55 #[.slice A n c, tyF b] w fun e w' => e = .returned (.bool (decide (InPl l))) ∧ Below w.heap.size w w' := by
  have HL := hid hs.len
  have hcap := hs.cap
  unfold maxLen at hcap
  have KB := hid (fun (W : World) (h : Below w.heap.size w W) => (h.cell (p := ⟨b, 0, none⟩) (World.block_lt_of_cell? w _ hc)).trans hc)
  by_cases h18 : 18 < n
  · have HE := hid (show decide (InPl l) = false from decide_eq_false fun k => by have := k.1; rw [HL.out] at this; omega)
    have d : decide ((18 : Int) < (n : Int)) = true := decide_eq_true (by omega)
    clear hc
    go_enter Try.func55, Try.ntmps55
    go_wp2
    go_ret
    exact ⟨ret_bool HE.out.symm, Below.refl _ _⟩
  have d : decide ((18 : Int) < (n : Int)) = false := decide_eq_false (by omega)
  clear hc
  go_enter Try.func55, Try.ntmps55
  go_wp2
  go_loopw [12] (fun i wr => ∃ j : Nat, j ≤ n ∧ i = .int .i64 j ∧ Hid (∀ (i : Nat) (h : i < l.length), i < j → l[i].T = tyAt i) ∧ Below w.heap.size w wr) (fun i _ => n - (intOf i).toNat)
  case atStart => exact ⟨0, Nat.zero_le _, rfl, hid fun i h hi => absurd hi (by omega), Below.refl _ _⟩
  case round =>
  obtain ⟨j, hj, rfl, hnum, hbel⟩ := hrel
  by_cases hlt : j < n
  · obtain ⟨b1, o1, A', n', c', hx1, rfl, hb9, t1', t2', hTb, -⟩ := rec_at (Sl.call hs hbel) hlt
    have hba := bel_alloc hbel (Obj.cells #[.int .u64 l[j].T, .slice A' n' c'] 83)
    have VB := Pair.new wr 83 (.int .u64 l[j].T) (.slice A' n' c')
    have HTY := hid (fun (m : Nat) => Calls.quiet_of_same ((tyAt_any j b ((wr.alloc (Obj.cells #[.int .u64 l[j].T, .slice A' n' c'] 83)).drewN m) (KB.out _ (bel_drewN hba m)) (by omega)).mono fun _ _ h => ⟨h.1, h.2.symm⟩))
    obtain ⟨ty, hty⟩ : ∃ z, tyAt j = z := ⟨_, rfl⟩
    rw [hty] at HTY
    have TY := hid hty
    clear hty
    go_upto_region 6 with (fail)
    have HBX := hid hba
    have y0 := VB.c0
    generalize wr.alloc (Obj.cells #[.int .u64 l[j].T, .slice A' n' c'] 83) = W5 at *
    clear VB hba t1' t2'
    by_cases hT : l[j].T = ty
    · have dT : (l[j].T != ty) = false := by simpa using hT
      have HT := hid (show ∀ (i : Nat) (h : i < l.length), i < j + 1 → l[i].T = tyAt i from fun i h hi => by
        by_cases k : i < j
        · exact hnum.out i h k
        · have : i = j := by omega
          subst this; rw [TY.out]; exact hT)
      clear hT
      go_quiet ((go_at_call 78; exact HTY.out _))
      go_wp2
      go_roundw
      case rel => exact ⟨j + 1, by omega, by go_num, HT, bel_drewN HBX.out _⟩
      case measure => simp [intOf]; omega
    · have dT : (l[j].T != ty) = true := by simpa using hT
      have HE := hid (show decide (InPl l) = false from decide_eq_false fun k => hT (by rw [k.2 j hx1]; exact TY.out))
      clear hT
      go_quiet ((go_at_call 78; exact HTY.out _))
      go_wp2
      go_ret
      exact ⟨ret_bool HE.out.symm, bel_drewN HBX.out _⟩
  · have HE := hid (show decide (InPl l) = true from decide_eq_true ⟨by rw [HL.out]; omega, fun i h => hnum.out i h (by rw [HL.out] at h; omega)⟩)
    go_wp2
    go_ret
    exact ⟨ret_bool HE.out.symm, hbel⟩

def csLe (l : List Rec) : List Cav := if csE l = 0 then csL l else []
set_option maxRecDepth 100000 in
set_option maxHeartbeats 4000000 in
theorem readCaveats_any (A : Option Addr) (n c : Nat) (L : List Rec) (w : World) (hs : Sl lay_Record w (· < w.heap.size) A n c L) (hn : n ≤ 64) (hsm : ∀ r ∈ L, r.V.length ≤ 4096 ∧ ∀ x ∈ r.V, 0 ≤ x ∧ x ≤ 255) :
    Calls Try.prog 56 #[.slice A n c] w fun e w' => ∃ v', e = .returned (.tuple #[v', .int .i64 (csE L)]) ∧ OwnL lay_Caveat w' w.heap.size (some w.heap.size) 30 v' (csLe L) ∧ Below w.heap.size w w' := by
  have HML := hid hs.len
  have HSM := hid hsm
  have hcap := hs.cap
  unfold maxLen at hcap
  clear hsm
  go_enter Try.func56, Try.ntmps56
  go_wp2
  go_loopw [4, 11] (fun tx i wr => ∃ (j : Nat) (tv : Value), j ≤ n ∧ i = .int .i64 j ∧ tx = tv ∧ OwnL lay_Caveat wr w.heap.size (some w.heap.size) 30 tv (csL (L.take j)) ∧ Hid (csE (L.drop j) = csE L) ∧ Below w.heap.size w wr) (fun _ i _ => n - (intOf i).toNat)
  case atStart => exact ⟨0, _, Nat.zero_le _, rfl, rfl, OwnL.nil _ _ _ _ _, hid rfl, Below.refl _ _⟩
  case round =>
  obtain ⟨j, tx, hj, rfl, htx, hown, hce, hbel⟩ := hrel
  replace htx := htx.symm
  subst htx
  by_cases hlt : j < n
  · obtain ⟨b1, o1, A', n', c', hx1, rfl, hb9, t1', t2', hTb, hV⟩ := rec_at (Sl.call hs hbel) hlt
    have hsm := HSM.out L[j] (List.getElem_mem hx1)
    have hnl := hV.len
    have hrd := (hV.rd (B := wr.heap.size) fun _ h => h).kept (bel_alloc (Below.refl _ _) (Obj.cells #[.int .u64 L[j].T, .slice A' n' c'] 83))
    have hba := bel_alloc (Below.refl wr.heap.size wr) (Obj.cells #[.int .u64 L[j].T, .slice A' n' c'] 83)
    obtain ⟨d, hd⟩ : ∃ z, (getC L[j].V).1 = z := ⟨_, rfl⟩
    obtain ⟨ge, hge⟩ : ∃ z, (getC L[j].V).2 = z := ⟨_, rfl⟩
    have hdw : CavWf d := by rw [← hd]; exact getC_ok_wf hsm.2
    have HGC := hid (cGet_any A' n' c' L[j].V _ hrd (by omega))
    rw [hd, hge, show cavV d = .agg #[.int .i64 d.Kind, .int .u64 d.A, .int .u64 d.B] from rfl] at HGC
    have HCE := hid (csE_step hx1)
    have HCL := hid (csL_take hx1)
    rw [hge] at HCE
    rw [hd] at HCL
    have hal : (csL (L.take j)).length ≤ 64 := by unfold csL; simp; omega
    have hlen1 : ((csL (L.take j)).length + 1) * 24 ≤ 140737488355328 := by omega
    have hlen2 : (csL (L.take j)).length + 1 ≤ maxLen := by unfold maxLen; omega
    clear hV hsm hnl hrd hd hge hal
    go_wp2_with fail
    refine HGC.out.mono ?_
    rintro e w9 ⟨rfl, hb9'⟩
    have hb10 := bel_alloc (bel_call hba hb9') (Obj.cells #[.int .i64 d.Kind, .int .u64 d.A, .int .u64 d.B] 30)
    have hz10 := hb10.size
    have hzr := hbel.size
    clear hba hb9' HGC t1' t2'
    by_cases hz : ge = 0
    rotate_left
    · have HE := hid (show csE L = ge ∧ csLe L = [] from by
        have e1 : csE L = ge := by rw [← hce.out, HCE.out]; exact if_pos hz
        exact ⟨e1, if_neg (by rw [e1]; exact hz)⟩)
      have hne : (ge != 0) = true := by simpa using hz
      go_wp2
      go_ret2
      exact ⟨_, by rw [HE.out.1]; rfl, by rw [HE.out.2]; exact OwnL.nil _ _ _ _ _, bel_call hbel hb10⟩
    subst hz
    have ho6 := hown.keep hb10
    have HSZ := hid (show w9.heap.size + 1 = (w9.alloc (Obj.cells #[.int .i64 d.Kind, .int .u64 d.A, .int .u64 d.B] 30)).heap.size from by simp)
    go_wp2_with (at_builtin; go_must (refine wpList_pushL (w := w9.alloc (Obj.cells #[.int .i64 d.Kind, .int .u64 d.A, .int .u64 d.B] 30)) rfl (.tmp 24) (.tmp 26) 26 rfl w.heap.size (some w.heap.size) 30 _ 24 Try.underlying26 Try.infoCav7 rfl (by decide) tx (csL (L.take j)) d #[.int .i64 d.Kind, .int .u64 d.A, .int .u64 d.B] (fun _ => False) rfl (congrArg (fun z => Value.slice (some ⟨z, 0, none⟩) 1 1) HSZ.out) ho6 (rep_Caveat.2 ⟨rfl, hdw⟩) (fun b hb => hb.elim) (by omega) hlen1 hlen2 ?_; intro v7 w11 ho7 hx7; have hb7 : Below w.heap.size (w9.alloc (Obj.cells #[.int .i64 d.Kind, .int .u64 d.A, .int .u64 d.B] 30)) w11 := ho6.below hx7 (by omega)))
    go_roundw
    case rel => exact ⟨j + 1, _, by omega, by go_num, rfl, by rw [HCL.out]; exact ho7, hid (by rw [← hce.out, HCE.out]; rfl), (bel_call hbel hb10).trans hb7⟩
    case measure => simp [intOf]; omega
  · have HLT := hid (show L.take j = L ∧ csE L = 0 from ⟨List.take_of_length_le (by rw [HML.out]; omega), by rw [← hce.out, List.drop_eq_nil_of_le (by rw [HML.out]; omega)]; rfl⟩)
    rw [HLT.out.1] at hown
    have HE := hid (show csE L = 0 ∧ csLe L = csL L from ⟨HLT.out.2, if_pos HLT.out.2⟩)
    go_wp2
    go_ret2
    exact ⟨_, by rw [HE.out.1]; rfl, by rw [HE.out.2]; exact hown, hbel⟩
end Go.Proofs.Ytgiapfenalhleaa
namespace Go.Proofs.Ytgiapfenalhleaa
open Go.RowKit Go.WalkArith

theorem at_two {l : List Rec} (hm : MayBe l) (h2 : fE l 2 = 0) (hl : 2 ≤ l.length) (h0 : l[0].T = 1) : l[1].T = 2 := by
  rw [fE_ok hm] at h2
  unfold foE at h2
  have hs : (findR l 2).isSome = true := by
    cases hf : (findR l 2).isSome with
    | true => rfl
    | false => rw [hf] at h2; simp at h2
  obtain ⟨r, hr⟩ := Option.isSome_iff_exists.1 hs
  have hrT := List.find?_some hr
  have hT : r.T = 2 := of_decide_eq_true hrT
  obtain ⟨k, hk, rfl⟩ := List.getElem_of_mem (List.mem_of_find?_eq_some hr)
  have hri := List.pairwise_iff_getElem.1 hm.rises
  have h01 := hri 0 1 (by omega) (by omega) (by omega)
  by_cases k0 : k = 0
  · subst k0; omega
  by_cases k1 : k = 1
  · subst k1; exact hT
  · have := hri 1 k (by omega) hk (by omega)
    omega
theorem inPl_is {l : List Rec} (hm : MayBe l) (h1 : fE l 1 = 0) (h2 : fE l 2 = 0) : InPl l ↔ ¬ 18 < l.length ∧ NumOk (l.drop 2) ∧ (l[0]?.map (·.T)) = some 1 := by
  have hl := rt_two hm h1 h2
  have e0 : (l[0]?.map (·.T)) = some l[0].T := by rw [List.getElem?_eq_getElem (show 0 < l.length by omega)]; rfl
  constructor
  · rintro ⟨k1, k2⟩
    refine ⟨by omega, fun i hi => ?_, ?_⟩
    · rw [List.length_drop] at hi
      rw [List.getElem_drop, k2 (2 + i) (by omega)]
      unfold tyAt
      rw [if_neg (by omega)]
      omega
    · rw [e0, k2 0 (by omega)]
      rfl
  · rintro ⟨k1, k2, k3⟩
    rw [e0] at k3
    have k4 : l[0].T = 1 := by simpa using k3
    refine ⟨by omega, fun i hi => ?_⟩
    by_cases i0 : i = 0
    · subst i0; exact k4
    by_cases i1 : i = 1
    · subst i1; exact at_two hm h2 hl k4
    · have := k2 (i - 2) (by rw [List.length_drop]; omega)
      rw [List.getElem_drop] at this
      have e : 2 + (i - 2) = i := by omega
      simp only [e] at this
      rw [this]
      unfold tyAt
      rw [if_neg (by omega)]
      omega
theorem rt_head {l : List Rec} (h : hdE l ≠ 0) : rtE l = hdE l := by
  unfold hdE at h ⊢
  by_cases q0 : fE l 1 ≠ 0 ∨ fE l 2 ≠ 0
  · rw [if_pos q0, rt0 q0]
  · rw [if_neg q0] at h ⊢
    have a1 : fE l 1 = 0 := Decidable.by_contra fun k => q0 (.inl k)
    have a2 : fE l 2 = 0 := Decidable.by_contra fun k => q0 (.inr k)
    by_cases q1 : nE l 1 ≠ 0
    · rw [if_pos q1, rt1 a1 a2 q1]
    · rw [if_neg q1] at h ⊢
      rw [rt2 a1 a2 (Decidable.by_contra fun k => q1 k) h]
theorem hd_zero {l : List Rec} (h : hdE l = 0) : fE l 1 = 0 ∧ fE l 2 = 0 ∧ nE l 1 = 0 ∧ nE l 2 = 0 := by
  unfold hdE at h
  by_cases q0 : fE l 1 ≠ 0 ∨ fE l 2 ≠ 0
  · rw [if_pos q0] at h; cases h
  · rw [if_neg q0] at h
    have a1 : fE l 1 = 0 := Decidable.by_contra fun k => q0 (.inl k)
    have a2 : fE l 2 = 0 := Decidable.by_contra fun k => q0 (.inr k)
    by_cases q1 : nE l 1 ≠ 0
    · rw [if_pos q1] at h; exact absurd h q1
    · rw [if_neg q1] at h
      exact ⟨a1, a2, Decidable.by_contra fun k => q1 k, h⟩
theorem rt_form {l : List Rec} (hm : MayBe l) (h : hdE l = 0) (h2 : 1048576 < nV l 2 ∨ ¬ InPl l) : rtE l = 2 := by
  obtain ⟨a1, a2, a3, a4⟩ := hd_zero h
  by_cases q : 1048576 < nV l 2 ∨ 18 < l.length
  · exact rt3 a1 a2 a3 a4 q
  have q' : ¬ InPl l := h2.elim (fun k => absurd (.inl k) q) id
  by_cases q5 : NumOk (l.drop 2)
  · refine rt5 a1 a2 a3 a4 q q5 fun k => q' ((inPl_is hm a1 a2).2 ⟨fun z => q (.inr z), q5, k⟩)
  · exact rt4 a1 a2 a3 a4 q q5
theorem rt_cavs {l : List Rec} (hm : MayBe l) (h : hdE l = 0) (h2 : ¬ 1048576 < nV l 2) (h3 : InPl l) : rtE l = csE (l.drop 2) := by
  obtain ⟨a1, a2, a3, a4⟩ := hd_zero h
  obtain ⟨b1, b2, b3⟩ := (inPl_is hm a1 a2).1 h3
  exact rt6 a1 a2 a3 a4 (by omega) b2 b3

set_option maxRecDepth 100000 in
set_option maxHeartbeats 8000000 in
theorem tGet_any (A : Option Addr) (n c : Nat) (xs : List Int) (w : World) (hr : Rd w w.heap.size .u8 A n c xs) :
    Calls Try.prog 27 #[.slice A n c] w fun e w' => ∃ vt, e = .returned (.tuple #[vt, .int .i64 (tgtE xs)]) ∧ OwnT w' w.heap.size vt (tgtT xs) ∧ Below w.heap.size w w' := by
  have hwb := wf_bytes hr.wf
  have hb0 : Below w.heap.size w (w.alloc (Obj.cells #[.int .u64 0, .slice none 0 0, .int .i64 0] 28)) := bel_alloc (Below.refl _ _) _
  have v0 : Var3 (w.alloc (Obj.cells #[.int .u64 0, .slice none 0 0, .int .i64 0] 28)) w.heap.size 28 (.int .u64 0) (.slice none 0 0) (.int .i64 0) := Var3.new _ _ _ _ _
  have hr0 := hr.kept hb0
  have HZW := hid (show (w.alloc (Obj.cells #[.int .u64 0, .slice none 0 0, .int .i64 0] 28)).heap.size = w.heap.size + 1 from by simp)
  obtain ⟨l, hl⟩ : ∃ z, (getR xs).1 = z := ⟨_, rfl⟩
  obtain ⟨e0, he0⟩ : ∃ z, (getR xs).2 = z := ⟨_, rfl⟩
  have HGE := hid he0
  have HGL := hid hl
  clear he0 hl
  go_enter Try.func27, Try.ntmps27
  go_wp2_with fail
  generalize (w.alloc (Obj.cells #[.int .u64 0, .slice none 0 0, .int .i64 0] 28)) = W0 at *
  refine (tlvGet_any A n c xs W0 hr0).mono ?_
  rw [HGE.out, HGL.out]
  rintro e w1 ⟨v1, rfl, ho1, hb1⟩
  obtain ⟨A1, n1, c1, rfl, hs1⟩ := ho1.read
  clear ho1 hr hr0
  by_cases hz : e0 = 0
  rotate_left
  · have HE := hid (show tgtE xs = e0 from by unfold tgtE; rw [HGE.out]; exact if_pos hz)
    have HEZ := hid (tgt_err (xs := xs) (by rw [HE.out]; exact hz))
    have V := v0.call hb1
    have t0 := V.c0
    have t1 := V.c1
    have t2 := V.c2
    have f0 := V.f 0
    have f1 := V.f 1
    have f2 := V.f 2
    have V2' := hid (V.set (.int .u64 0) (.slice none 0 0) (.int .i64 0))
    have HBE := hid ((((bel_call hb0 hb1).setCell (p := ⟨w.heap.size, 0, none⟩) (Nat.le_refl _) (.int .u64 0)).setCell (p := ⟨w.heap.size, 1, none⟩) (Nat.le_refl _) (.slice none 0 0)).setCell (p := ⟨w.heap.size, 2, none⟩) (Nat.le_refl _) (.int .i64 0))
    clear V
    have hne : (e0 != 0) = true := by simpa using hz
    go_wp2
    refine bodyPost_ret_by (results_ct rfl _ _ w.heap.size 0 rfl [.int .u64 0, .slice none 0 0, .int .i64 0] _ (range3 V2'.out.c0 V2'.out.c1 V2'.out.c2) Try.underlying28 rfl (by kernel_rfl)) rfl ?_
    exact ⟨_, by rw [HE.out]; rfl, by rw [HEZ.out]; exact ⟨_, rfl, OwnL.nil _ _ _ _ _⟩, HBE.out⟩
  subst hz
  have hgr : getR xs = (l, 0) := by rw [← HGE.out, ← HGL.out]
  have HG := hid (show tgtE xs = rtE l ∧ tgtT xs = rtT l from by unfold tgtE tgtT; rw [hgr]; exact ⟨rfl, rfl⟩)
  obtain ⟨hmb, -, -, hrw⟩ := getR_back hwb hgr
  have HMB := hid hmb
  have HRW := hid hrw
  have HNL := hid hs1.len
  have hn64 : n1 ≤ 64 := by rw [← hs1.len]; exact hmb.1
  clear hgr hmb hrw hwb
  have RS := hid (fun (W : World) (h : Below w1.heap.size w1 W) => Sl.call hs1 h)
  have HTY := hid (types_any w1)
  have hba := bel_alloc (Below.refl w1.heap.size w1) (Obj.cells #[.int .i64 2] 3)
  have VF := Var1.new w1 3 (.int .i64 2)
  clear hs1
  go_wp2_with fail
  refine HTY.out.mono ?_
  rintro e w2 ⟨rfl, rfl⟩
  clear HTY
  generalize w1.alloc (Obj.cells #[.int .i64 2] 3) = W2 at *
  obtain ⟨hd, hhd⟩ : ∃ z, hdE l = z := ⟨_, rfl⟩
  have HRH := hid (readHead_any A1 n1 c1 w1.heap.size l W2 (RS.out _ hba) HMB.out VF.c0)
  rw [hhd] at HRH
  have HD := hid hhd
  clear hhd
  go_wp2_with fail
  refine HRH.out.mono ?_
  rintro e w3 ⟨x, y, rfl, hxy, hb3⟩
  have HB3 := bel_alloc (bel_call hba hb3) (Obj.cells #[.int .u64 x, .int .u64 y] 78)
  have VH := Pair.new w3 78 (.int .u64 x) (.int .u64 y)
  have VF3 := (VF.call hb3).call (bel_alloc (Below.refl _ _) (Obj.cells #[.int .u64 x, .int .u64 y] 78))
  clear HRH hba VF hb3
  go_upto_region 6 with (fail)
  generalize w3.alloc (Obj.cells #[.int .u64 x, .int .u64 y] 78) = W3 at *
  generalize hgh : w3.heap.size = gh at *
  clear hgh
  by_cases hz : hd = 0
  rotate_left
  · have HE := hid (show tgtE xs = hd from by rw [HG.out.1, rt_head (by rw [HD.out]; exact hz), HD.out])
    have HEZ := hid (tgt_err (xs := xs) (by rw [HE.out]; exact hz))
    have V := v0.call (bel_call hb1 HB3)
    have t0 := V.c0
    have t1 := V.c1
    have t2 := V.c2
    have f0 := V.f 0
    have f1 := V.f 1
    have f2 := V.f 2
    have V2' := hid (V.set (.int .u64 0) (.slice none 0 0) (.int .i64 0))
    have HBE := hid ((((bel_call hb0 (bel_call hb1 HB3)).setCell (p := ⟨w.heap.size, 0, none⟩) (Nat.le_refl _) (.int .u64 0)).setCell (p := ⟨w.heap.size, 1, none⟩) (Nat.le_refl _) (.slice none 0 0)).setCell (p := ⟨w.heap.size, 2, none⟩) (Nat.le_refl _) (.int .i64 0))
    clear V
    have hne : (hd != 0) = true := by simpa using hz
    go_wp2
    refine bodyPost_ret_by (results_ct rfl _ _ w.heap.size 0 rfl [.int .u64 0, .slice none 0 0, .int .i64 0] _ (range3 V2'.out.c0 V2'.out.c1 V2'.out.c2) Try.underlying28 rfl (by kernel_rfl)) rfl ?_
    exact ⟨_, by rw [HE.out]; rfl, by rw [HEZ.out]; exact ⟨_, rfl, OwnL.nil _ _ _ _ _⟩, HBE.out⟩
  subst hz
  obtain ⟨hx, hy⟩ := hxy rfl
  have hyb : 0 ≤ y := by
    obtain ⟨-, a2, -, a4⟩ := hd_zero HD.out
    rw [hy]
    exact (nV_bd HMB.out HRW.out a2 a4).1
  have HX := hid hx
  have HY := hid hy
  clear hx hy hxy
  have h0 := VH.c0
  have h1 := VH.c1
  by_cases q1 : 1048576 < y
  · have HE := hid (show tgtE xs = 2 from by rw [HG.out.1]; exact rt_form HMB.out HD.out (.inl (by rw [← HY.out]; exact q1)))
    have HEZ := hid (tgt_err (xs := xs) (by rw [HE.out]; exact by decide))
    have V := v0.call (bel_call hb1 HB3)
    have t0 := V.c0
    have t1 := V.c1
    have t2 := V.c2
    have f0 := V.f 0
    have f1 := V.f 1
    have f2 := V.f 2
    have V2' := hid (V.set (.int .u64 0) (.slice none 0 0) (.int .i64 0))
    have HBE := hid ((((bel_call hb0 (bel_call hb1 HB3)).setCell (p := ⟨w.heap.size, 0, none⟩) (Nat.le_refl _) (.int .u64 0)).setCell (p := ⟨w.heap.size, 1, none⟩) (Nat.le_refl _) (.slice none 0 0)).setCell (p := ⟨w.heap.size, 2, none⟩) (Nat.le_refl _) (.int .i64 0))
    clear V
    have d1 : decide (1048576 < y) = true := decide_eq_true q1
    go_wp2
    refine bodyPost_ret_by (results_ct rfl _ _ w.heap.size 0 rfl [.int .u64 0, .slice none 0 0, .int .i64 0] _ (range3 V2'.out.c0 V2'.out.c1 V2'.out.c2) Try.underlying28 rfl (by kernel_rfl)) rfl ?_
    exact ⟨_, by rw [HE.out]; rfl, by rw [HEZ.out]; exact ⟨_, rfl, OwnL.nil _ _ _ _ _⟩, HBE.out⟩
  have d1 : decide (1048576 < y) = false := decide_eq_false q1
  have HIP := hid (inPlace_any A1 n1 c1 w1.heap.size l W3 (RS.out _ HB3) VF3.c0)
  go_wp2_with fail
  refine HIP.out.mono ?_
  rintro e w4 ⟨rfl, hb4⟩
  have HB4 := bel_call HB3 hb4
  have VH4 := VH.call hb4
  clear HIP h0 h1 VH hb4 VF3 HB3
  by_cases q2 : InPl l
  rotate_left
  · rw [decide_eq_false q2]
    have HE := hid (show tgtE xs = 2 from by rw [HG.out.1]; exact rt_form HMB.out HD.out (.inr q2))
    have HEZ := hid (tgt_err (xs := xs) (by rw [HE.out]; exact by decide))
    have V := v0.call (bel_call hb1 HB4)
    have t0 := V.c0
    have t1 := V.c1
    have t2 := V.c2
    have f0 := V.f 0
    have f1 := V.f 1
    have f2 := V.f 2
    have V2' := hid (V.set (.int .u64 0) (.slice none 0 0) (.int .i64 0))
    have HBE := hid ((((bel_call hb0 (bel_call hb1 HB4)).setCell (p := ⟨w.heap.size, 0, none⟩) (Nat.le_refl _) (.int .u64 0)).setCell (p := ⟨w.heap.size, 1, none⟩) (Nat.le_refl _) (.slice none 0 0)).setCell (p := ⟨w.heap.size, 2, none⟩) (Nat.le_refl _) (.int .i64 0))
    clear V
    go_wp2
    refine bodyPost_ret_by (results_ct rfl _ _ w.heap.size 0 rfl [.int .u64 0, .slice none 0 0, .int .i64 0] _ (range3 V2'.out.c0 V2'.out.c1 V2'.out.c2) Try.underlying28 rfl (by kernel_rfl)) rfl ?_
    exact ⟨_, by rw [HE.out]; rfl, by rw [HEZ.out]; exact ⟨_, rfl, OwnL.nil _ _ _ _ _⟩, HBE.out⟩
  rw [decide_eq_true q2]
  have HC := hid (show tgtE xs = csE (l.drop 2) from by rw [HG.out.1]; exact rt_cavs HMB.out HD.out (by rw [← HY.out]; omega) q2)
  have hl2 : 2 ≤ n1 := by
    obtain ⟨a1, a2, -, -⟩ := hd_zero HD.out
    rw [← HNL.out]; exact rt_two HMB.out a1 a2
  clear q2
  have hcut : ∀ W : World, (Instr.slice 81 (.slice A1 n1 c1) (some (.int .i64 2)) none none).run Try.prog W = .ok (.slice (cutS 2 A1 c1 2) (n1 - 2) (c1 - 2)) W := fun W => run_fromL (P := Try.prog) 81 83 .i64 Try.underlying81 (by kernel_rfl) Try.infoRec A1 n1 c1 2 hl2 W
  have RS2 := hid (fun (W : World) (h : Below w1.heap.size w1 W) => (show Sl lay_Record W (· < W.heap.size) (cutS 2 A1 c1 2) (n1 - 2) (c1 - 2) (l.drop 2) from (RS.out W h).cut hl2))
  obtain ⟨L, hL⟩ : ∃ z, l.drop 2 = z := ⟨_, rfl⟩
  obtain ⟨A2, hA2⟩ : ∃ z, cutS 2 A1 c1 2 = z := ⟨_, rfl⟩
  obtain ⟨m, hm⟩ : ∃ z, n1 - 2 = z := ⟨_, rfl⟩
  obtain ⟨c2, hc2⟩ : ∃ z, c1 - 2 = z := ⟨_, rfl⟩
  rw [hA2, hm, hc2] at hcut
  rw [hA2, hm, hc2, hL] at RS2
  rw [hL] at HC
  have hm64 : m ≤ 64 := by omega
  have HLD := hid hL
  have HSM := hid (fun (r : Rec) (h : r ∈ L) => (show r.V.length ≤ 4096 ∧ ∀ x ∈ r.V, 0 ≤ x ∧ x ≤ 255 from by
    have hrl : r ∈ l := List.mem_of_mem_drop (by rw [hL]; exact h)
    exact ⟨HMB.out.small r hrl, (HRW.out r hrl).2⟩))
  clear hL hA2 hc2 hm
  obtain ⟨ce, hce⟩ : ∃ z, csE L = z := ⟨_, rfl⟩
  have HRC := hid (readCaveats_any A2 m c2 L w4 (RS2.out _ HB4) hm64 HSM.out)
  rw [hce] at HRC HC
  have CE := hid hce
  clear hce
  go_wp2_with fail
  refine HRC.out.mono ?_
  rintro e w5 ⟨v5, rfl, ho5, hb5⟩
  have HB5 := bel_call HB4 hb5
  have VH5 := VH4.call hb5
  have hz4 := HB4.size
  clear HRC VH4 hb5 HB4 hcut
  by_cases hz : ce = 0
  rotate_left
  · have HE := hid (show tgtE xs = ce from HC.out)
    have HEZ := hid (tgt_err (xs := xs) (by rw [HE.out]; exact hz))
    have V := v0.call (bel_call hb1 HB5)
    have t0 := V.c0
    have t1 := V.c1
    have t2 := V.c2
    have f0 := V.f 0
    have f1 := V.f 1
    have f2 := V.f 2
    have V2' := hid (V.set (.int .u64 0) (.slice none 0 0) (.int .i64 0))
    have HBE := hid ((((bel_call hb0 (bel_call hb1 HB5)).setCell (p := ⟨w.heap.size, 0, none⟩) (Nat.le_refl _) (.int .u64 0)).setCell (p := ⟨w.heap.size, 1, none⟩) (Nat.le_refl _) (.slice none 0 0)).setCell (p := ⟨w.heap.size, 2, none⟩) (Nat.le_refl _) (.int .i64 0))
    clear V
    have hne : (ce != 0) = true := by simpa using hz
    go_wp2
    refine bodyPost_ret_by (results_ct rfl _ _ w.heap.size 0 rfl [.int .u64 0, .slice none 0 0, .int .i64 0] _ (range3 V2'.out.c0 V2'.out.c1 V2'.out.c2) Try.underlying28 rfl (by kernel_rfl)) rfl ?_
    exact ⟨_, by rw [HE.out]; rfl, by rw [HEZ.out]; exact ⟨_, rfl, OwnL.nil _ _ _ _ _⟩, HBE.out⟩
  subst hz
  rw [show csLe L = csL L from if_pos CE.out] at ho5
  obtain ⟨A5, n5, c5, rfl, -⟩ := ho5.read
  have HTT := hid (show tgtE xs = 0 ∧ tgtT xs = ⟨x, csL L, y⟩ from by
    refine ⟨HC.out, ?_⟩
    rw [HG.out.2, rt_ok (by rw [← HG.out.1]; exact HC.out), HX.out, HY.out, HLD.out])
  have HBU := bel_call hb1 HB5
  have g0 := VH5.c0
  have g1 := VH5.c1
  have V := v0.call HBU
  have t0 := V.c0
  have t1 := V.c1
  have t2 := V.c2
  have f0 := V.f 0
  have f1 := V.f 1
  have f2 := V.f 2
  have zw := HZW.out
  have z1 := hb1.size
  have hwv : IntKind.i64.wrap y = y := IntWalk.i64_in _ (by omega)
  have V2' := hid (V.set (.int .u64 x) (.slice A5 n5 c5) (.int .i64 y))
  have HBE := hid ((((bel_call hb0 HBU).setCell (p := ⟨w.heap.size, 0, none⟩) (Nat.le_refl _) (.int .u64 x)).setCell (p := ⟨w.heap.size, 1, none⟩) (Nat.le_refl _) (.slice A5 n5 c5)).setCell (p := ⟨w.heap.size, 2, none⟩) (Nat.le_refl _) (.int .i64 y))
  have HO := hid ((((ho5.setLow (b := w.heap.size) (by omega) (by omega) 0 (.int .u64 x)).setLow (b := w.heap.size) (by omega) (by omega) 1 (.slice A5 n5 c5)).setLow (b := w.heap.size) (by omega) (by omega) 2 (.int .i64 y)).lows (base' := w.heap.size) (lo' := w.heap.size) (by omega) (by omega))
  clear V zw z1 VH5 ho5
  go_wp2
  refine bodyPost_ret_by (results_ct rfl _ _ w.heap.size 0 rfl [.int .u64 x, .slice A5 n5 c5, .int .i64 y] _ (range3 V2'.out.c0 V2'.out.c1 V2'.out.c2) Try.underlying28 rfl (by kernel_rfl)) rfl ?_
  exact ⟨_, by rw [HTT.out.1]; rfl, by rw [HTT.out.2]; exact ⟨_, rfl, HO.out⟩, HBE.out⟩
end Go.Proofs.Ytgiapfenalhleaa

namespace Go.Proofs.Ytgiapfenalhleaa
open Go.RowKit Go.WalkArith

theorem ar_rep {w w' : World} {A : Option Addr} {n c : Nat} {l : List Trm} (h : Sl lay_Term w (· < w.heap.size) A n c l) (hb : Below w.heap.size w w') : lay_Arena.rep w' (· < w'.heap.size) l #[.slice A n c].toList := rep_Arena.2 ⟨_, _, _, rfl, Sl.call h hb⟩
theorem tk_rep {w w' : World} {A : Option Addr} {n c : Nat} {r g : Int} {l : List Cav} (h : Sl lay_Caveat w (· < w.heap.size) A n c l) (hb : Below w.heap.size w w') (h1 : (Lit.int .u64 r).wf = true) (h2 : (Lit.int .i64 g).wf = true) : lay_Token.rep w' (· < w'.heap.size) ⟨r, l, g⟩ #[.int .u64 r, .slice A n c, .int .i64 g].toList := rep_Token.2 ⟨_, _, _, rfl, h1, h2, Sl.call h hb⟩

/-- The blocks from B on, but for one. -/
def Apart (B g : Nat) (w : World) (b : Nat) : Prop := B ≤ b ∧ b ≠ g ∧ b < w.heap.size
theorem Sl.apartSet {α : Type} {L : Lay α} {w : World} {B g b : Nat} {A : Option Addr} {n c : Nat} {xs : List α} (h : Sl L w (Apart B g w) A n c xs) (hb : b = g ∨ b < B) (i : Nat) (u : Value) : Sl L (w.setCell ⟨b, i, none⟩ u) (Apart B g (w.setCell ⟨b, i, none⟩ u)) A n c xs := by
  have hne : ∀ k, Apart B g w k → k ≠ b := fun k hk e => by have := hk.1; have := hk.2.1; omega
  exact (h.keep fun p hp => World.cell?_of_block (Below.heap_setCell _ _ _ _ (hne _ hp))).wide fun k hk => ⟨hk.1, hk.2.1, by simpa using hk.2.2⟩
theorem Sl.apartKeep {α : Type} {L : Lay α} {w w' : World} {B g : Nat} {A : Option Addr} {n c : Nat} {xs : List α} (h : Sl L w (Apart B g w) A n c xs) (hb : Below w.heap.size w w') : Sl L w' (Apart B g w') A n c xs :=
  (h.keep fun _ hp => hb.cell hp.2.2).wide fun _ hk => ⟨hk.1, hk.2.1, Nat.lt_of_lt_of_le hk.2.2 hb.size⟩
theorem Sl.apartAll {α : Type} {L : Lay α} {w : World} {B g : Nat} {A : Option Addr} {n c : Nat} {xs : List α} (h : Sl L w (Apart B g w) A n c xs) : Sl L w (· < w.heap.size) A n c xs := h.wide fun _ hk => hk.2.2
theorem Sl.apartNew {α : Type} {L : Lay α} {w : World} {B g lo : Nat} {A : Option Addr} {n c : Nat} {xs : List α} (h : Sl L w (From w lo) A n c xs) (h1 : B ≤ lo) (h2 : g < lo) : Sl L w (Apart B g w) A n c xs := h.wide fun k hk => ⟨by have := hk.1; omega, by have := hk.1; omega, hk.2.1⟩

set_option maxRecDepth 100000 in
set_option maxHeartbeats 2000000 in
theorem live7_any (w : World) : Calls Try.prog 9 #[] w fun e w' => e = .returned (.bool true) ∧ Below w.heap.size w w' := by
  obtain ⟨i, L, h1, h2, h3, h4, h5, h6, h7⟩ := eg7
  have HM := hid (tMint_any #[.slice none 0 0] [] 5 9 w (rep_Arena.2 ⟨_, _, _, rfl, Sl.nil _ _ _⟩) (by decide) (by decide))
  rw [h1, h2, h3] at HM
  have E5 := hid h5
  have E6 := hid h6
  have E7 := hid h7
  have hwi : (Lit.int .i64 (i : Int)).wf = true := wf_i64 (by omega)
  clear h1 h2 h3 h5 h6 h7
  go_enter Try.func9, Try.ntmps9
  go_wp2_with fail
  refine HM.out.mono ?_
  rintro e w1 ⟨v', vt, rfl, ho, ⟨u, rfl, hu⟩, hb1⟩
  obtain ⟨A8, n8, c8, rfl, hs8⟩ := ho.read
  obtain ⟨A9, n9, c9, rfl, hs9⟩ := hu.read
  have hb2 : Below w1.heap.size w1 ((w1.alloc (Obj.cells #[.slice A8 n8 c8] 24)).alloc (Obj.cells #[.int .u64 5, .slice A9 n9 c9, .int .i64 i] 28)) := bel_alloc (bel_alloc (Below.refl _ _) _) _
  have VA : Var1 ((w1.alloc (Obj.cells #[.slice A8 n8 c8] 24)).alloc (Obj.cells #[.int .u64 5, .slice A9 n9 c9, .int .i64 i] 28)) w1.heap.size 24 (.slice A8 n8 c8) := heap_alloc2_old _ _ _
  have VT : Var3 ((w1.alloc (Obj.cells #[.slice A8 n8 c8] 24)).alloc (Obj.cells #[.int .u64 5, .slice A9 n9 c9, .int .i64 i] 28)) (w1.heap.size + 1) 28 (.int .u64 5) (.slice A9 n9 c9) (.int .i64 i) := alloc2_new _ _ _
  have PA := hid (fun (W : World) (h : Below w1.heap.size w1 W) => ar_rep hs8 h)
  have PT := hid (fun (W : World) (h : Below w1.heap.size w1 W) => tk_rep hs9 h (by decide : (Lit.int .u64 5).wf = true) hwi)
  clear ho hu hs8 hs9 HM
  go_wp2_with fail
  have HB := bel_call hb1 hb2
  generalize (w1.alloc (Obj.cells #[.slice A8 n8 c8] 24)).alloc (Obj.cells #[.int .u64 5, .slice A9 n9 c9, .int .i64 i] 28) = W2 at *
  refine (tVerify_any _ _ L 9 ⟨5, [], i⟩ W2 (PA.out _ hb2) (by decide) (PT.out _ hb2)).mono ?_
  rw [E5.out, E6.out]
  rintro e w3 ⟨rfl, hb3⟩
  have q0 := (VA.call hb3).c0
  have q1 := (VT.call hb3).c0
  have q2 := (VT.call hb3).c1
  have q3 := (VT.call hb3).c2
  go_wp2_with fail
  refine (tVerify_any _ _ L 8 ⟨5, [], i⟩ w3 (PA.out _ (bel_call hb2 hb3)) (by decide) (PT.out _ (bel_call hb2 hb3))).mono ?_
  rw [E5.out, E7.out]
  rintro e w4 ⟨rfl, hb4⟩
  clear q0 q1 q2 q3
  go_wp2
  go_ret
  exact ⟨rfl, bel_call (bel_call HB hb3) hb4⟩

set_option maxRecDepth 100000 in
set_option maxHeartbeats 4000000 in
theorem bound_any (s1 : Array Value) (l : List Trm) (root key : Int) (A2 : Option Addr) (n2 c2 : Nat) (cs : List Cav) (w : World) (g1 : lay_Arena.rep w (· < w.heap.size) l s1.toList) (hr : (Lit.int .u64 root).wf = true) (hk : (Lit.int .u64 key).wf = true) (hts : Sl lay_Caveat w (· < w.heap.size) A2 n2 c2 cs) :
    Calls Try.prog 30 #[.agg s1, .int .u64 root, .int .u64 key, .slice A2 n2 c2] w fun e w' => ∃ A n c A' n' c', e = .returned (.tuple #[.agg #[.slice A n c], .agg #[.int .u64 (bnS l root key cs).t.Root, .slice A' n' c', .int .i64 (bnS l root key cs).t.Tag], .bool (decide ((bnS l root key cs).e = 0))]) ∧ Sl lay_Term w' (· < w'.heap.size) A n c (bnS l root key cs).l ∧ Sl lay_Caveat w' (· < w'.heap.size) A' n' c' (bnS l root key cs).t.L ∧ Below w.heap.size w w' := by
  obtain ⟨A1, n1, c1, rfl, hA⟩ := agg_Arena g1
  clear g1
  have HL2 := hid hts.len
  have hc2 := hts.cap
  unfold maxLen at hc2
  have hb0 : Below w.heap.size w (((w.alloc (Obj.cells #[.slice A1 n1 c1] 24)).alloc (Obj.cells #[.slice none 0 0] 24)).alloc (Obj.cells #[.int .u64 0, .slice none 0 0, .int .i64 0] 28)) := bel_alloc (bel_alloc (bel_alloc (Below.refl _ _) _) _) _
  have VR : (((w.alloc (Obj.cells #[.slice A1 n1 c1] 24)).alloc (Obj.cells #[.slice none 0 0] 24)).alloc (Obj.cells #[.int .u64 0, .slice none 0 0, .int .i64 0] 28)).heap[w.heap.size]? = some (Obj.cells #[.slice A1 n1 c1] 24 (0, 0)) ∧ (((w.alloc (Obj.cells #[.slice A1 n1 c1] 24)).alloc (Obj.cells #[.slice none 0 0] 24)).alloc (Obj.cells #[.int .u64 0, .slice none 0 0, .int .i64 0] 28)).heap[w.heap.size + 1]? = some (Obj.cells #[.slice none 0 0] 24 (0, 0)) ∧ (((w.alloc (Obj.cells #[.slice A1 n1 c1] 24)).alloc (Obj.cells #[.slice none 0 0] 24)).alloc (Obj.cells #[.int .u64 0, .slice none 0 0, .int .i64 0] 28)).heap[w.heap.size + 1 + 1]? = some (Obj.cells #[.int .u64 0, .slice none 0 0, .int .i64 0] 28 (0, 0)) := three_vars
  have HZ := hid (show (((w.alloc (Obj.cells #[.slice A1 n1 c1] 24)).alloc (Obj.cells #[.slice none 0 0] 24)).alloc (Obj.cells #[.int .u64 0, .slice none 0 0, .int .i64 0] 28)).heap.size = w.heap.size + 3 from by simp)
  have HM := hid (tMint_any #[.slice A1 n1 c1] l root key _ (ar_rep hA hb0) hr hk)
  have PS := hid (fun (W : World) (h : Below w.heap.size w W) => hts.keep (w' := W) fun _ hp => h.cell hp)
  clear hA hts
  go_enter Try.func30, Try.ntmps30
  go_wp2_with fail
  generalize ((w.alloc (Obj.cells #[.slice A1 n1 c1] 24)).alloc (Obj.cells #[.slice none 0 0] 24)).alloc (Obj.cells #[.int .u64 0, .slice none 0 0, .int .i64 0] 28) = W0 at *
  obtain ⟨q0, q1, q2⟩ := VR
  refine HM.out.mono ?_
  rintro e w1 ⟨v', vt, rfl, ho, ⟨u, rfl, hu⟩, hb1⟩
  rw [HZ.out] at ho hu
  obtain ⟨A8, n8, c8, rfl, hs8⟩ := ho.sl (Nat.le_refl _) (Nat.le_refl _)
  obtain ⟨A9, n9, c9, rfl, hs9⟩ := hu.sl (Nat.le_refl _) (Nat.le_refl _)
  have V0 : Var1 w1 w.heap.size 24 (.slice A1 n1 c1) := (hb1.block _ (by have := HZ.out; omega)).trans q0
  have V1 : Var1 w1 (w.heap.size + 1) 24 (.slice none 0 0) := (hb1.block _ (by have := HZ.out; omega)).trans q1
  have V2 : Var3 w1 (w.heap.size + 1 + 1) 28 (.int .u64 0) (.slice none 0 0) (.int .i64 0) := (hb1.block _ (by have := HZ.out; omega)).trans q2
  have HB1 := bel_call hb0 hb1
  have hz1 : w.heap.size + 3 ≤ w1.heap.size := by have := HZ.out; have := hb1.size; omega
  clear q0 q1 q2 hb0 HM hb1 HZ ho hu
  obtain ⟨b0, hb0⟩ : ∃ z, bnS l root key [] = z := ⟨_, rfl⟩
  have e0 : mtE l root key = b0.e := congrArg Bn.e hb0
  have e1 : mtT l root key = b0.t := congrArg Bn.t hb0
  have e2 : mtL l root key = b0.l := congrArg Bn.l hb0
  rw [e0, e1]
  rw [e2] at hs8
  rw [e1] at hs9
  have HB0 := hid hb0
  clear e0 e1 e2 hb0
  have hbZ := bel_alloc (Below.refl w1.heap.size w1) (Obj.cells #[.int .u64 0, .slice none 0 0, .int .i64 0] 28)
  have X0 := (V0.call hbZ).set (.slice A8 n8 c8)
  have X1 := (V1.call hbZ).setOther (b := w.heap.size) (by omega) 0 (.slice A8 n8 c8)
  have X2 := (V2.call hbZ).setOther (b := w.heap.size) (by omega) 0 (.slice A8 n8 c8)
  have XT := (Var3.new w1 28 (.int .u64 0) (.slice none 0 0) (.int .i64 0)).setOther (b := w.heap.size) (by omega) 0 (.slice A8 n8 c8)
  have HBX := (bel_call HB1 hbZ).setCell (p := ⟨w.heap.size, 0, none⟩) (Nat.le_refl _) (.slice A8 n8 c8)
  have S8 : Sl lay_Term (w1.alloc (Obj.cells #[.int .u64 0, .slice none 0 0, .int .i64 0] 28)) (Apart (w.heap.size + 3) w1.heap.size (w1.alloc (Obj.cells #[.int .u64 0, .slice none 0 0, .int .i64 0] 28))) A8 n8 c8 b0.l := (hs8.keep fun _ hp => hbZ.cell hp.2.1).wide fun b hb => ⟨hb.1, by have := hb.2.1; omega, Nat.lt_of_lt_of_le hb.2.1 hbZ.size⟩
  have S9 : Sl lay_Caveat (w1.alloc (Obj.cells #[.int .u64 0, .slice none 0 0, .int .i64 0] 28)) (Apart (w.heap.size + 3) w1.heap.size (w1.alloc (Obj.cells #[.int .u64 0, .slice none 0 0, .int .i64 0] 28))) A9 n9 c9 b0.t.L := (hs9.keep fun _ hp => hbZ.cell hp.2.1).wide fun b hb => ⟨hb.1, by have := hb.2.1; omega, Nat.lt_of_lt_of_le hb.2.1 hbZ.size⟩
  replace S8 := S8.apartSet (b := w.heap.size) (.inr (by omega)) 0 (.slice A8 n8 c8)
  replace S9 := S9.apartSet (b := w.heap.size) (.inr (by omega)) 0 (.slice A8 n8 c8)
  have a0 := (V0.call hbZ).c0
  have af := (V0.call hbZ).f
  have hsz : w1.heap.size < ((w1.alloc (Obj.cells #[.int .u64 0, .slice none 0 0, .int .i64 0] 28)).setCell ⟨w.heap.size, 0, none⟩ (.slice A8 n8 c8)).heap.size := by simp
  have t0 := XT.c0
  have t1 := XT.c1
  have t2 := XT.c2
  have f0 := XT.f 0
  have f1 := XT.f 1
  have f2 := XT.f 2
  clear V0 V1 V2 HB1 hs8 hs9 hbZ
  go_wp2
  generalize (w1.alloc (Obj.cells #[.int .u64 0, .slice none 0 0, .int .i64 0] 28)).setCell ⟨w.heap.size, 0, none⟩ (.slice A8 n8 c8) = W2 at *
  generalize w1.heap.size = g at *
  have Y0 := ((X0.setOther (b := g) (by omega) 0 (.int .u64 b0.t.Root)).setOther (b := g) (by omega) 1 (.slice A9 n9 c9)).setOther (b := g) (by omega) 2 (.int .i64 b0.t.Tag)
  have Y1 := ((X1.setOther (b := g) (by omega) 0 (.int .u64 b0.t.Root)).setOther (b := g) (by omega) 1 (.slice A9 n9 c9)).setOther (b := g) (by omega) 2 (.int .i64 b0.t.Tag)
  have Y2 := ((X2.setOther (b := g) (by omega) 0 (.int .u64 b0.t.Root)).setOther (b := g) (by omega) 1 (.slice A9 n9 c9)).setOther (b := g) (by omega) 2 (.int .i64 b0.t.Tag)
  have YT := XT.set (.int .u64 b0.t.Root) (.slice A9 n9 c9) (.int .i64 b0.t.Tag)
  have R8 := ((S8.apartSet (b := g) (.inl rfl) 0 (.int .u64 b0.t.Root)).apartSet (b := g) (.inl rfl) 1 (.slice A9 n9 c9)).apartSet (b := g) (.inl rfl) 2 (.int .i64 b0.t.Tag)
  have R9 := ((S9.apartSet (b := g) (.inl rfl) 0 (.int .u64 b0.t.Root)).apartSet (b := g) (.inl rfl) 1 (.slice A9 n9 c9)).apartSet (b := g) (.inl rfl) 2 (.int .i64 b0.t.Tag)
  have HBY := ((HBX.setCell (p := ⟨g, 0, none⟩) (by show w.heap.size ≤ g; omega) (.int .u64 b0.t.Root)).setCell (p := ⟨g, 1, none⟩) (by show w.heap.size ≤ g; omega) (.slice A9 n9 c9)).setCell (p := ⟨g, 2, none⟩) (by show w.heap.size ≤ g; omega) (.int .i64 b0.t.Tag)
  clear X0 X1 X2 XT S8 S9 HBX t0 t1 t2 f0 f1 f2 a0 af hsz
  generalize ((W2.setCell ⟨g, 0, none⟩ (.int .u64 b0.t.Root)).setCell ⟨g, 1, none⟩ (.slice A9 n9 c9)).setCell ⟨g, 2, none⟩ (.int .i64 b0.t.Tag) = W3 at *
  have HT0 := hid (show bnS l root key (cs.take 0) = b0 from by rw [List.take_zero]; exact HB0.out)
  go_loopw [12, 25] (fun er i wr => ∃ (j : Nat) (s : Bn) (A : Option Addr) (n c : Nat) (A' : Option Addr) (n' c' : Nat), j ≤ n2 ∧ i = .int .i64 j ∧ Hid (bnS l root key (cs.take j) = s) ∧ er = .int .i64 s.e ∧ Var1 wr w.heap.size 24 (.slice A n c) ∧ Var1 wr (w.heap.size + 1) 24 (.slice none 0 0) ∧ Var3 wr (w.heap.size + 1 + 1) 28 (.int .u64 0) (.slice none 0 0) (.int .i64 0) ∧ Var3 wr g 28 (.int .u64 s.t.Root) (.slice A' n' c') (.int .i64 s.t.Tag) ∧ Sl lay_Term wr (Apart (w.heap.size + 3) g wr) A n c s.l ∧ Sl lay_Caveat wr (Apart (w.heap.size + 3) g wr) A' n' c' s.t.L ∧ Below w.heap.size w wr) (fun _ i _ => n2 - (intOf i).toNat)
  case atStart => exact ⟨0, b0, A8, n8, c8, A9, n9, c9, Nat.zero_le _, rfl, HT0, rfl, Y0, Y1, Y2, YT, R8, R9, HBY⟩
  case round =>
    obtain ⟨j, s, A, n, c, A', n', c', hj, rfl, HS, rfl, V0, V1, V2, VT, S8, S9, hbel⟩ := hrel
    clear Y0 Y1 Y2 YT R8 R9 HBY HT0 HB0
    have hg := VT.lt
    have hg0 := V0.lt
    by_cases hlt : j < n2
    · obtain ⟨b1, o1, hx1, rfl, hb1, t1, t2, t3, hw⟩ := cav_at (PS.out wr hbel) hlt
      have HX := hid (bnS_take (l := l) (root := root) (key := key) hx1)
      have hbw : Below wr.heap.size wr (wr.alloc (Obj.cells #[.int .i64 cs[j].Kind, .int .u64 cs[j].A, .int .u64 cs[j].B] 30)) := bel_alloc (Below.refl _ _) _
      have hba := bel_call hbel hbw
      have hsz : (wr.alloc (Obj.cells #[.int .i64 cs[j].Kind, .int .u64 cs[j].A, .int .u64 cs[j].B] 30)).heap.size = wr.heap.size + 1 := by simp
      by_cases he : s.e = 0
      · have hwf := bn_wf (l := l) (root := root) (key := key) (cs := cs.take j) (by rw [HS.out]; exact he)
        rw [HS.out] at hwf
        have HB := hid (tBind_any _ _ _ s.l s.t cs[j] _ (ar_rep S8.apartAll hbw) (tk_rep (r := s.t.Root) (g := s.t.Tag) S9.apartAll hbw (by rw [hwf.1]; exact hr) (wf_i64 (by omega))) (rep_Caveat.2 ⟨rfl, hw⟩))
        have HN := hid (show bnS l root key (cs.take (j + 1)) = ⟨bdL s.l s.t cs[j], bdT s.l s.t cs[j], bdE s.l s.t cs[j]⟩ from by rw [HX.out, HS.out]; exact if_pos he)
        have x0 := (V0.call hbw).c0
        have x1 := (VT.call hbw).c0
        have x2 := (VT.call hbw).c1
        have x3 := (VT.call hbw).c2
        rw [he]
        obtain ⟨r, hrr⟩ : ∃ z, (⟨bdL s.l s.t cs[j], bdT s.l s.t cs[j], bdE s.l s.t cs[j]⟩ : Bn) = z := ⟨_, rfl⟩
        have r0 : bdE s.l s.t cs[j] = r.e := congrArg Bn.e hrr
        have r1 : bdT s.l s.t cs[j] = r.t := congrArg Bn.t hrr
        have r2 : bdL s.l s.t cs[j] = r.l := congrArg Bn.l hrr
        rw [hrr] at HN
        rw [r0, r1, r2] at HB
        clear he hwf HX S8 S9 hrr r0 r1 r2
        go_wp2_with fail
        refine HB.out.mono ?_
        rintro e w3 ⟨v3, vt3, rfl, ho3, ⟨u3, rfl, hu3⟩, hb3⟩
        obtain ⟨A8', n8', c8', rfl, hs8⟩ := ho3.sl (Nat.le_refl _) (Nat.le_refl _)
        obtain ⟨A9', n9', c9', rfl, hs9⟩ := hu3.sl (Nat.le_refl _) (Nat.le_refl _)
        have hz3 := hbel.size
        have S8 := hs8.apartNew (B := w.heap.size + 3) (g := g) (by omega) (by omega)
        have S9 := hs9.apartNew (B := w.heap.size + 3) (g := g) (by omega) (by omega)
        have V0' := (V0.call hbw).call hb3
        have V1' := (V1.call hbw).call hb3
        have V2' := (V2.call hbw).call hb3
        have VT' := (VT.call hbw).call hb3
        have HB3 := bel_call hba hb3
        clear HB hs8 hs9 ho3 hu3 V0 V1 V2 VT x0 x1 x2 x3 hb3 hba hbw hbel
        have y0 := V0'.c0
        have yf := V0'.f
        have X1 := VT'.setOther (b := w.heap.size) (by omega) 0 (.slice A8' n8' c8')
        have t0 := X1.c0
        have t1 := X1.c1
        have t2 := X1.c2
        have f0 := X1.f 0
        have f1 := X1.f 1
        have f2 := X1.f 2
        have Q0 := hid ((((V0'.set (.slice A8' n8' c8')).setOther (b := g) (by omega) 0 (.int .u64 r.t.Root)).setOther (b := g) (by omega) 1 (.slice A9' n9' c9')).setOther (b := g) (by omega) 2 (.int .i64 r.t.Tag))
        have Q1 := hid ((((V1'.setOther (b := w.heap.size) (by omega) 0 (.slice A8' n8' c8')).setOther (b := g) (by omega) 0 (.int .u64 r.t.Root)).setOther (b := g) (by omega) 1 (.slice A9' n9' c9')).setOther (b := g) (by omega) 2 (.int .i64 r.t.Tag))
        have Q2 := hid ((((V2'.setOther (b := w.heap.size) (by omega) 0 (.slice A8' n8' c8')).setOther (b := g) (by omega) 0 (.int .u64 r.t.Root)).setOther (b := g) (by omega) 1 (.slice A9' n9' c9')).setOther (b := g) (by omega) 2 (.int .i64 r.t.Tag))
        have QT := hid (X1.set (.int .u64 r.t.Root) (.slice A9' n9' c9') (.int .i64 r.t.Tag))
        have R8 := hid ((((S8.apartSet (b := w.heap.size) (.inr (by omega)) 0 (.slice A8' n8' c8')).apartSet (b := g) (.inl rfl) 0 (.int .u64 r.t.Root)).apartSet (b := g) (.inl rfl) 1 (.slice A9' n9' c9')).apartSet (b := g) (.inl rfl) 2 (.int .i64 r.t.Tag))
        have R9 := hid ((((S9.apartSet (b := w.heap.size) (.inr (by omega)) 0 (.slice A8' n8' c8')).apartSet (b := g) (.inl rfl) 0 (.int .u64 r.t.Root)).apartSet (b := g) (.inl rfl) 1 (.slice A9' n9' c9')).apartSet (b := g) (.inl rfl) 2 (.int .i64 r.t.Tag))
        have HB9 := hid ((((HB3.setCell (p := ⟨w.heap.size, 0, none⟩) (Nat.le_refl _) (.slice A8' n8' c8')).setCell (p := ⟨g, 0, none⟩) (by show w.heap.size ≤ g; omega) (.int .u64 r.t.Root)).setCell (p := ⟨g, 1, none⟩) (by show w.heap.size ≤ g; omega) (.slice A9' n9' c9')).setCell (p := ⟨g, 2, none⟩) (by show w.heap.size ≤ g; omega) (.int .i64 r.t.Tag))
        clear X1 V0' V1' V2' VT' S8 S9 HB3
        go_wp2
        go_roundw
        case rel => exact ⟨j + 1, r, A8', n8', c8', A9', n9', c9', by omega, by go_num, HN, rfl, Q0.out, Q1.out, Q2.out, QT.out, R8.out, R9.out, HB9.out⟩
        case measure => simp [intOf]; omega
      · have HN := hid (show bnS l root key (cs.take (j + 1)) = s from by rw [HX.out, HS.out]; exact if_neg he)
        have hne : (s.e == 0) = false := by simpa using he
        have Q0 := V0.call hbw
        have Q1 := V1.call hbw
        have Q2 := V2.call hbw
        have QT := VT.call hbw
        have R8 := S8.apartKeep hbw
        have R9 := S9.apartKeep hbw
        clear he HX S8 S9 V0 V1 V2 VT
        go_wp2
        go_roundw
        case rel => exact ⟨j + 1, s, A, n, c, A', n', c', by omega, by go_num, HN, rfl, Q0, Q1, Q2, QT, R8, R9, hba⟩
        case measure => simp [intOf]; omega
    · have HT := hid (show bnS l root key cs = s from by rw [← HS.out, List.take_of_length_le (by rw [HL2.out]; omega)])
      have x0 := V0.c0
      have x1 := VT.c0
      have x2 := VT.c1
      have x3 := VT.c2
      have y0 := V1.c0
      have yf := V1.f
      have X2 := V2.setOther (b := w.heap.size + 1) (by omega) 0 (.slice A n c)
      have t0 := X2.c0
      have t1 := X2.c1
      have t2 := X2.c2
      have f0 := X2.f 0
      have f1 := X2.f 1
      have f2 := X2.f 2
      have Q1 := hid ((((V1.set (.slice A n c)).setOther (b := w.heap.size + 1 + 1) (by omega) 0 (.int .u64 s.t.Root)).setOther (b := w.heap.size + 1 + 1) (by omega) 1 (.slice A' n' c')).setOther (b := w.heap.size + 1 + 1) (by omega) 2 (.int .i64 s.t.Tag))
      have Q2 := hid (X2.set (.int .u64 s.t.Root) (.slice A' n' c') (.int .i64 s.t.Tag))
      have R8 := hid ((((S8.apartSet (b := w.heap.size + 1) (.inr (by omega)) 0 (.slice A n c)).apartSet (b := w.heap.size + 1 + 1) (.inr (by omega)) 0 (.int .u64 s.t.Root)).apartSet (b := w.heap.size + 1 + 1) (.inr (by omega)) 1 (.slice A' n' c')).apartSet (b := w.heap.size + 1 + 1) (.inr (by omega)) 2 (.int .i64 s.t.Tag)).apartAll
      have R9 := hid ((((S9.apartSet (b := w.heap.size + 1) (.inr (by omega)) 0 (.slice A n c)).apartSet (b := w.heap.size + 1 + 1) (.inr (by omega)) 0 (.int .u64 s.t.Root)).apartSet (b := w.heap.size + 1 + 1) (.inr (by omega)) 1 (.slice A' n' c')).apartSet (b := w.heap.size + 1 + 1) (.inr (by omega)) 2 (.int .i64 s.t.Tag)).apartAll
      have HB9 := hid ((((hbel.setCell (p := ⟨w.heap.size + 1, 0, none⟩) (by show w.heap.size ≤ w.heap.size + 1; omega) (.slice A n c)).setCell (p := ⟨w.heap.size + 1 + 1, 0, none⟩) (by show w.heap.size ≤ w.heap.size + 1 + 1; omega) (.int .u64 s.t.Root)).setCell (p := ⟨w.heap.size + 1 + 1, 1, none⟩) (by show w.heap.size ≤ w.heap.size + 1 + 1; omega) (.slice A' n' c')).setCell (p := ⟨w.heap.size + 1 + 1, 2, none⟩) (by show w.heap.size ≤ w.heap.size + 1 + 1; omega) (.int .i64 s.t.Tag))
      have HD := hid (show (s.e == 0) = decide (s.e = 0) from by rw [Bool.eq_iff_iff]; simp)
      clear X2 V0 V1 V2 VT S8 S9
      go_wp2
      go_region
      go_wp2
      have D1 := Q1.out.call (Below.refl _ _).drew
      have D2 := Q2.out.call (Below.refl _ _).drew
      refine bodyPost_ret_by (results_cct rfl _ _ (w.heap.size + 1) 0 rfl [.slice A n c] _ (range1 D1.c0) Try.underlying24 rfl (by kernel_rfl) (w.heap.size + 1 + 1) 0 rfl [.int .u64 s.t.Root, .slice A' n' c', .int .i64 s.t.Tag] _ (range3 D2.c0 D2.c1 D2.c2) Try.underlying28 rfl (by kernel_rfl)) rfl ?_
      exact ⟨A, n, c, A', n', c', by rw [HT.out, ← HD.out]; rfl, by rw [HT.out]; exact Sl.call R8.out (Below.refl _ _).drew, by rw [HT.out]; exact Sl.call R9.out (Below.refl _ _).drew, HB9.out.drew⟩
end Go.Proofs.Ytgiapfenalhleaa
