/-
  The contracts of package arena's with, Root, and Next.
  The contracts of package arena's Root, Next, and Find.
-/
import Derived.Test.YtgiapfenalhleaaPack1
import Derived.Test.YtgiapfenalhleaaPack2
import Derived.Test.YtgiapfenalhleaaPack3
import Derived.Test.YtgiapfenalhleaaPack4
import Derived.Test.YtgiapfenalhleaaPack5
import Derived.Test.YtgiapfenalhleaaPack6
import Derived.Test.YtgiapfenalhleaaPack7
import Derived.Test.YtgiapfenalhleaaPack8
import Derived.Test.YtgiapfenalhleaaPack9
import Derived.Test.YtgiapfenalhleaaPack10
import Derived.Test.YtgiapfenalhleaaPack11
import Derived.Test.YtgiapfenalhleaaPack12
import Derived.Test.YtgiapfenalhleaaPack13
import Derived.Test.YtgiapfenalhleaaPack14
import Derived.Test.YtgiapfenalhleaaPack15
import Derived.Test.YtgiapfenalhleaaPack16
import Derived.Test.YtgiapfenalhleaaPack17
import Derived.Test.YtgiapfenalhleaaPack18
namespace Go.Proofs.Ytgiapfenalhleaa
open Go.RowKit Go.WalkArith

set_option maxRecDepth 100000 in
set_option maxHeartbeats 4000000 in
theorem aWith_any (s1 s2 : Array Value) (l : List Trm) (x : Trm) (w : World) (g1 : lay_Arena.rep w (· < w.heap.size) l s1.toList) (g2 : lay_Term.rep w (· < w.heap.size) x s2.toList) (hu : x.Up < l.length ∧ -1 ≤ x.Up) :
    Calls Try.prog 67 #[.agg s1, .agg s2] w fun e w' => ∃ v', e = .returned (.tuple #[.agg #[v'], .int .i64 (withI l x), .int .i64 (withE l x)]) ∧ OwnL lay_Term w' w.heap.size (some w.heap.size) 62 v' (withL l x) ∧ Below w.heap.size w w' := by
  obtain ⟨A, n, c, rfl, hA⟩ := agg_Arena g1
  obtain ⟨Ax, nx, cx, rfl, e1, e2, hX⟩ := agg_Term g2
  clear g1 g2
  have HL := hid hA.len
  have hcap := hA.cap
  have hcx := hX.cap
  unfold maxLen at hcap hcx
  have HLX := hid hX.len
  have hz3 : (((w.alloc (Obj.cells #[.slice A n c] 24)).alloc (Obj.cells #[.int .u64 x.Key, .int .i64 x.Up, .slice Ax nx cx] 62)).alloc (Obj.cells #[.slice none 0 0] 24)).heap.size = w.heap.size + 3 := by simp
  have hb0 : Below w.heap.size w (((w.alloc (Obj.cells #[.slice A n c] 24)).alloc (Obj.cells #[.int .u64 x.Key, .int .i64 x.Up, .slice Ax nx cx] 62)).alloc (Obj.cells #[.slice none 0 0] 24)) := bel_alloc (bel_alloc (bel_alloc (Below.refl _ _) _) _) _
  have hB3 := fun (W : World) (h : Below (w.heap.size + 3) (((w.alloc (Obj.cells #[.slice A n c] 24)).alloc (Obj.cells #[.int .u64 x.Key, .int .i64 x.Up, .slice Ax nx cx] 62)).alloc (Obj.cells #[.slice none 0 0] 24)) W) => three_blocks h
  have PA := hid (fun (W : World) (h : Below w.heap.size w W) => (show lay_Arena.rep W (· < W.heap.size) l #[.slice A n c].toList from rep_Arena.2 ⟨A, n, c, rfl, Sl.call hA h⟩))
  have PS := hid (fun (W : World) (h : Below w.heap.size w W) => Sl.call hA h)
  have PX := hid (fun (W : World) (h : Below w.heap.size w W) => (show lay_Term.rep W (· < W.heap.size) x #[.int .u64 x.Key, .int .i64 x.Up, .slice Ax nx cx].toList from rep_Term.2 ⟨Ax, nx, cx, rfl, e1, e2, Sl.call hX h⟩))
  have PX0 := hid (fun (W : World) (h : Below w.heap.size w W) => (show lay_Term.rep W (· < w.heap.size) x #[.int .u64 x.Key, .int .i64 x.Up, .slice Ax nx cx].toList from rep_Term.2 ⟨Ax, nx, cx, rfl, e1, e2, hX.keep fun _ hp => h.cell hp⟩))
  have PT := hid (fun (W : World) (h : Below w.heap.size w W) => Sl.call hX h)
  have HWF := hid hX.wfI
  have HE12 := hid (And.intro e1 e2)
  clear hA hX e1 e2
  go_enter Try.func67, Try.ntmps67
  go_wp2_with fail
  generalize (((w.alloc (Obj.cells #[.slice A n c] 24)).alloc (Obj.cells #[.int .u64 x.Key, .int .i64 x.Up, .slice Ax nx cx] 62)).alloc (Obj.cells #[.slice none 0 0] 24)) = W0 at *
  have hz0 : w.heap.size ≤ W0.heap.size := hb0.size
  refine (places_any _ l W0 (PA.out W0 hb0)).mono ?_
  rintro e w1 ⟨⟨v, rfl, hmap⟩, hb1⟩
  have HB1 : Below w.heap.size w w1 := bel_call hb0 hb1
  have hz1 := hb1.size
  obtain ⟨q2, q3, q4⟩ := hB3 w1 (by rw [← hz3]; exact hb1)
  clear hB3 hb1 hb0
  have V3 : Var3 w1 (w.heap.size + 1) 62 _ _ _ := q3
  have c2 := cell_of_one q2
  have c30 := V3.c0
  have c31 := V3.c1
  have c32 := V3.c2
  have c4 := cell_of_one q4
  have f4 := free_of_one q4
  rcases with_cases (l := l) x with ⟨hE, hok, hU, hU1, hT, hin, hLs, hI⟩ | ⟨hE, hok, hU, hU1, hT, hin, hlt, hLs, hI⟩ | ⟨hE, hok, hU, hU1, hT, hin, hlt, hLs, hI⟩ | ⟨hE, hok, hU, hU1, hT, hLs, hI⟩ | ⟨hE, hno, hLs, hI⟩
  all_goals
    have HE := hid hE
    have HI := hid hI
    have HW := hid hLs
    clear hE hI hLs
  rotate_left 4
  · -- no such
    have har : arE l = 1 := if_neg fun k => hno ⟨k, hu⟩
    rw [har]
    clear har hno hmap
    go_wp2
    refine bodyPost_ret_by (results_ctt rfl _ _ (w.heap.size + 1 + 1) 0 rfl [.slice none 0 0] _ (range1 (cell_of_one (one_setCell q4))) Try.underlying24 rfl (by kernel_rfl)) rfl ?_
    exact ⟨_, by rw [HE.out, HI.out]; rfl, by rw [HW.out]; exact OwnL.nil _ _ _ _ _, HB1.setCell (by show w.heap.size ≤ w.heap.size + 1 + 1; omega) _⟩
  all_goals
    have har : arE l = 0 := if_pos hok
    obtain ⟨mb, rfl, hmt, hmb⟩ := hmap har
    rw [har]
    clear har hmap
    have HA := hid (anyLong_one Ax nx cx x.Text w1 (PT.out w1 HB1))
    have HMT := hid hmt
    clear hmt
  rotate_left 3
  · -- too long
    rw [decide_eq_true (by rw [← HLX.out]; exact hT)] at HA
    go_wp2_with fail
    refine HA.out.mono ?_
    rintro e w2 ⟨rfl, hb2⟩
    have Q4 := (hb2.block _ (lt_of_block q4)).trans q4
    have c4' := cell_of_one Q4
    have f4' := free_of_one Q4
    have HB2 : Below w.heap.size w w2 := bel_call HB1 hb2
    go_wp2
    refine bodyPost_ret_by (results_ctt rfl _ _ (w.heap.size + 1 + 1) 0 rfl [.slice none 0 0] _ (range1 (cell_of_one (one_setCell Q4))) Try.underlying24 rfl (by kernel_rfl)) rfl ?_
    exact ⟨_, by rw [HE.out, HI.out]; rfl, by rw [HW.out]; exact OwnL.nil _ _ _ _ _, HB2.setCell (by show w.heap.size ≤ w.heap.size + 1 + 1; omega) _⟩
  all_goals
    rw [decide_eq_false (by rw [← HLX.out]; omega)] at HA
    go_wp2_with fail
    refine HA.out.mono ?_
    rintro e w2 ⟨rfl, hb2⟩
    have HB2 : Below w.heap.size w w2 := bel_call HB1 hb2
    have hz2 := hb2.size
    have V3b := V3.call hb2
    have c2' := cell_of_one ((hb2.block _ (lt_of_block q2)).trans q2)
    have d30 := V3b.c0
    have d31 := V3b.c1
    have d32 := V3b.c2
    have HF := hid (formOf_any _ x w2 (PX.out _ HB2))
    go_wp2_with fail
    refine HF.out.mono ?_
    rintro e w3 ⟨rfl, hb3⟩
    have HB3 : Below w.heap.size w w3 := bel_call HB2 hb3
    have h13 : Below w1.heap.size w1 w3 := bel_call hb2 hb3
    have hz3' := h13.size
    have hlook := (HMT.out.below h13).look hok.nodup (x := x) ⟨HE12.out.1, HE12.out.2, HWF.out, hT⟩
    have Q2 := (h13.block _ (lt_of_block q2)).trans q2
    have V4 := V3.call h13
    have Q4 := (h13.block _ (lt_of_block q4)).trans q4
    have k2 := cell_of_one Q2
    have k4 := cell_of_one Q4
    have k4f := free_of_one Q4
    have k30 := V4.c0
    have k31 := V4.c1
    have k32 := V4.c2
    clear c2 c30 c31 c32 c4 f4 c2' d30 d31 d32 V3b hb2 hb3 HA HF HMT
    have hn1 : n ≤ 1048576 := by rw [← HL.out]; exact hok.1
  rotate_left 2
  · -- full
    rw [if_neg hin, decide_eq_false hin] at hlook
    have hfull : n = 1048576 := by rw [← HL.out]; exact hlt
    have d5 : ((n : Int) == 1048576) = true := by simp; omega
    go_wp2
    refine bodyPost_ret_by (results_ctt rfl _ _ (w.heap.size + 1 + 1) 0 rfl [.slice none 0 0] _ (range1 (cell_of_one (one_setCell Q4))) Try.underlying24 rfl (by kernel_rfl)) rfl ?_
    exact ⟨_, by rw [HE.out, HI.out]; rfl, by rw [HW.out]; exact OwnL.nil _ _ _ _ _, HB3.setCell (by show w.heap.size ≤ w.heap.size + 1 + 1; omega) _⟩
  · -- there
    rw [if_pos hin, decide_eq_true hin] at hlook
    have HIP := hid (show withI l x = plc x l from HI.out)
    generalize plc x l = pl at *
    go_wp2_with fail
    refine (cloneT_any _ _ _ l w3 (PS.out w3 HB3) hn1).mono ?_
    rintro e w5 ⟨v5, rfl, ho5, hb5⟩
    obtain ⟨A5, n5, c5, rfl, hs5⟩ := ho5.read
    have hl5 := hs5.len
    rw [HL.out] at hl5
    subst hl5
    have R4 := hid ((hb5.block _ (lt_of_block Q4)).trans Q4)
    have RZ := hb5.size
    have HBW := hid (bel_call HB3 hb5)
    clear k2 k4 k4f k30 k31 k32 hlook q2 q3 q4 Q2 Q4 V3 V4 hs5

    have hys : Hid (∀ y ∈ l, y.Text.length ≤ 4096) := hid (fun y hy => by obtain ⟨i, hi, rfl⟩ := List.getElem_of_mem hy; exact (hok.fit hi).2.2.2)
    have HMX := hid (ho5.mixV w3.heap.size)
    go_wp2
    go_loopw [56] (fun i wr => ∃ j : Nat, j ≤ n ∧ i = .int .i64 j ∧ MixV lay_Term wr w3.heap.size w3.heap.size 62 A5 n c5 l j ∧ wr.heap[w.heap.size + 1 + 1]? = some (Obj.cells #[.slice none 0 0] 24 (0, 0)) ∧ w3.heap.size ≤ wr.heap.size ∧ Below w.heap.size w wr) (fun i _ => n - (intOf i).toNat)
    case atStart => exact ⟨0, Nat.zero_le _, rfl, HMX.out, R4.out, RZ, HBW.out⟩
    case round =>
      obtain ⟨j, hj, rfl, hmix, hr4, hrz, hbel⟩ := hrel
      clear HMX R4 RZ HBW
      by_cases hlt2 : j < n
      · rcases hmix with ⟨-, h0, -⟩ | ⟨g, rfl, hmix⟩
        · omega
        obtain ⟨A', n', c', hx, -, -, t2, -, -, hV, hf⟩ := hmix.term hlt2
        have hnt : n' ≤ 4096 := by rw [← hV.len]; exact hys.out _ (List.getElem_mem hx)
        have HCL := hid (clone_any A' n' c' wr.heap.size l[j].Text wr (hV.rd fun _ h => h) (Nat.le_refl _) (by omega))
        have HMI := hid hmix
        clear hmix hV
        go_wp2_with fail
        refine HCL.out.mono ?_
        rintro e w6 ⟨v6, rfl, ho6, hb6⟩
        obtain ⟨A6, n6, c6, rfl, hs6⟩ := ho6.slI
        have hm6 := HMI.out.keep hb6
        obtain ⟨A8, n8, c8, -, -, -, y2, -, -, -, y3⟩ := hm6.term hlt2
        have HM := hid (hm6.step hlt2 hx hs6 hrz HMI.out.lt.2)
        have hgl := HMI.out.lt
        have hr4' := hid ((hb6.block _ (lt_of_block hr4)).trans hr4)
        have hb8 := hid ((bel_call hbel hb6).setCell (p := ⟨g, j * 3 + 2, none⟩) (by show w.heap.size ≤ g; omega) (.slice A6 n6 c6))
        have hz6 := hb6.size
        clear t2 hf ho6 hs6 hm6 hr4 hb6
        go_wp2
        go_roundw
        case rel => exact ⟨j + 1, by omega, by go_num, .inr ⟨g, rfl, HM.out⟩, (heap_setCell_other _ _ _ _ (by simp; omega)).trans hr4'.out, by simp; omega, hb8.out⟩
        case measure => simp [intOf]; omega
      · obtain rfl : j = n := by omega
        have z4 := cell_of_one hr4
        have z4f := free_of_one hr4
        have HO := hid ((hmix.own.setLow (b := w.heap.size + 1 + 1) (by omega) (by omega) 0 (.slice A5 j c5)).lows (base' := w.heap.size) (lo' := w.heap.size) (by omega) (by omega))
        have HB9 := hid (hbel.setCell (p := ⟨w.heap.size + 1 + 1, 0, none⟩) (by show w.heap.size ≤ w.heap.size + 1 + 1; omega) (.slice A5 j c5))
        clear hmix
        go_wp2
        refine bodyPost_ret_by (results_ctt rfl _ _ (w.heap.size + 1 + 1) 0 rfl [.slice A5 j c5] _ (range1 (cell_of_one (one_setCell hr4))) Try.underlying24 rfl (by kernel_rfl)) rfl ?_
        exact ⟨_, by rw [HE.out, HIP.out]; rfl, by rw [HW.out]; exact HO.out, HB9.out⟩
  · -- new
    rw [if_neg hin, decide_eq_false hin] at hlook
    have hlt3 : n < 1048576 := by rw [← HL.out]; exact hlt
    have d5 : ((n : Int) == 1048576) = false := by simp; omega
    have HIP := hid (show withI l x = n from by rw [HI.out, HL.out])
    go_wp2_with fail
    refine (cloneT_any _ _ _ l w3 (PS.out w3 HB3) hn1).mono ?_
    rintro e w5 ⟨v5, rfl, ho5, hb5⟩
    obtain ⟨A5, n5, c5, rfl, hs5⟩ := ho5.read
    have hl5 := hs5.len
    rw [HL.out] at hl5
    subst hl5
    have V5 := V4.call hb5
    have j30 := V5.c0
    have j31 := V5.c1
    have j32 := V5.c2
    have hz5 := hb5.size
    have HB5 := bel_call HB3 hb5
    have Q5 := (hb5.block _ (lt_of_block Q4)).trans Q4
    have hnl : (l.length + 1) * 40 ≤ 140737488355328 := by rw [HL.out]; omega
    have hnm : l.length + 1 ≤ maxLen := by rw [HL.out]; unfold maxLen; omega
    have hge : ∀ g, (Value.slice A5 n c5).ownBlock = some g → w3.heap.size ≤ g := fun g hg => ho5.ge hg
    have HGE := hid hge
    clear hge k2 k4 k4f k30 k31 k32 hlook q2 q3 q4 Q2 Q4 V3 V4 hs5
    go_wp2_with (at_builtin; refine wpList_pushL (w := w5) rfl (.tmp 50) (.tmp 52) 22 rfl w3.heap.size none 62 _ 40 Try.underlying22 Try.infoTerm rfl (by decide) (.slice A5 n c5) l x #[.int .u64 x.Key, .int .i64 x.Up, .slice Ax nx cx] (· < w.heap.size) rfl rfl ho5 (PX0.out w5 HB5) (fun b hb => ⟨trivial, Nat.lt_of_lt_of_le hb HB5.size, fun he => by have := HGE.out b he.symm; omega⟩) (by omega) hnl hnm ?_; intro v7 w7 ho7 hext7; obtain ⟨A7, n7, c7, rfl, hs7⟩ := ho7.read; have hb7 : Below w3.heap.size w5 w7 := ho5.below hext7 (by omega); have R4 := hid ((hb7.block (w.heap.size + 1 + 1) (by omega)).trans Q5); have RZ : w3.heap.size ≤ w7.heap.size := Nat.le_trans hz5 hb7.size; have HBW := hid (HB5.trans (hb7.mono (by omega))); have hl7 := hs7.len; clear j30 j31 j32 ho5 hs7 hext7 hb7 Q5 V5)
    have hn7 : n7 = n + 1 := by rw [← hl7, List.length_append, HL.out]; rfl
    have hb7n : n7 ≤ 1048577 := by omega
    clear hl7 hn7

    have hys : Hid (∀ y ∈ (l ++ [x]), y.Text.length ≤ 4096) := hid (fun y hy => by rcases List.mem_append.1 hy with hy | hy; (obtain ⟨i, hi, rfl⟩ := List.getElem_of_mem hy; exact (hok.fit hi).2.2.2); (simp at hy; subst hy; exact hT))
    have HMX := hid (ho7.mixV w3.heap.size)
    go_wp2
    go_loopw [56] (fun i wr => ∃ j : Nat, j ≤ n7 ∧ i = .int .i64 j ∧ MixV lay_Term wr w3.heap.size w3.heap.size 62 A7 n7 c7 (l ++ [x]) j ∧ wr.heap[w.heap.size + 1 + 1]? = some (Obj.cells #[.slice none 0 0] 24 (0, 0)) ∧ w3.heap.size ≤ wr.heap.size ∧ Below w.heap.size w wr) (fun i _ => n7 - (intOf i).toNat)
    case atStart => exact ⟨0, Nat.zero_le _, rfl, HMX.out, R4.out, RZ, HBW.out⟩
    case round =>
      obtain ⟨j, hj, rfl, hmix, hr4, hrz, hbel⟩ := hrel
      clear HMX R4 RZ HBW
      by_cases hlt2 : j < n7
      · rcases hmix with ⟨-, h0, -⟩ | ⟨g, rfl, hmix⟩
        · omega
        obtain ⟨A', n', c', hx, -, -, t2, -, -, hV, hf⟩ := hmix.term hlt2
        have hnt : n' ≤ 4096 := by rw [← hV.len]; exact hys.out _ (List.getElem_mem hx)
        have HCL := hid (clone_any A' n' c' wr.heap.size (l ++ [x])[j].Text wr (hV.rd fun _ h => h) (Nat.le_refl _) (by omega))
        have HMI := hid hmix
        clear hmix hV
        go_wp2_with fail
        refine HCL.out.mono ?_
        rintro e w6 ⟨v6, rfl, ho6, hb6⟩
        obtain ⟨A6, n6, c6, rfl, hs6⟩ := ho6.slI
        have hm6 := HMI.out.keep hb6
        obtain ⟨A8, n8, c8, -, -, -, y2, -, -, -, y3⟩ := hm6.term hlt2
        have HM := hid (hm6.step hlt2 hx hs6 hrz HMI.out.lt.2)
        have hgl := HMI.out.lt
        have hr4' := hid ((hb6.block _ (lt_of_block hr4)).trans hr4)
        have hb8 := hid ((bel_call hbel hb6).setCell (p := ⟨g, j * 3 + 2, none⟩) (by show w.heap.size ≤ g; omega) (.slice A6 n6 c6))
        have hz6 := hb6.size
        clear t2 hf ho6 hs6 hm6 hr4 hb6
        go_wp2
        go_roundw
        case rel => exact ⟨j + 1, by omega, by go_num, .inr ⟨g, rfl, HM.out⟩, (heap_setCell_other _ _ _ _ (by simp; omega)).trans hr4'.out, by simp; omega, hb8.out⟩
        case measure => simp [intOf]; omega
      · obtain rfl : j = n7 := by omega
        have z4 := cell_of_one hr4
        have z4f := free_of_one hr4
        have HO := hid ((hmix.own.setLow (b := w.heap.size + 1 + 1) (by omega) (by omega) 0 (.slice A7 j c7)).lows (base' := w.heap.size) (lo' := w.heap.size) (by omega) (by omega))
        have HB9 := hid (hbel.setCell (p := ⟨w.heap.size + 1 + 1, 0, none⟩) (by show w.heap.size ≤ w.heap.size + 1 + 1; omega) (.slice A7 j c7))
        clear hmix
        go_wp2
        refine bodyPost_ret_by (results_ctt rfl _ _ (w.heap.size + 1 + 1) 0 rfl [.slice A7 j c7] _ (range1 (cell_of_one (one_setCell hr4))) Try.underlying24 rfl (by kernel_rfl)) rfl ?_
        exact ⟨_, by rw [HE.out, HIP.out]; rfl, by rw [HW.out]; exact HO.out, HB9.out⟩
end Go.Proofs.Ytgiapfenalhleaa
namespace Go.Proofs.Ytgiapfenalhleaa
open Go.RowKit Go.WalkArith

set_option maxRecDepth 100000 in
set_option maxHeartbeats 2000000 in
theorem aRoot_any (s1 : Array Value) (l : List Trm) (k : Int) (A : Option Addr) (n c : Nat) (t : List Int) (w : World) (g1 : lay_Arena.rep w (· < w.heap.size) l s1.toList) (hk : (Lit.int .u64 k).wf = true) (hr : Rd w w.heap.size .u8 A n c t) :
    Calls Try.prog 33 #[.agg s1, .int .u64 k, .slice A n c] w fun e w' => ∃ v', e = .returned (.tuple #[.agg #[v'], .int .i64 (withI l (rootT k t)), .int .i64 (withE l (rootT k t))]) ∧ OwnL lay_Term w' w.heap.size (some w.heap.size) 62 v' (withL l (rootT k t)) ∧ Below w.heap.size w w' := by
  obtain ⟨A1, n1, c1, rfl, hA⟩ := agg_Arena g1
  clear g1
  have hb0 : Below w.heap.size w ((w.alloc (Obj.cells #[.slice A1 n1 c1] 24)).alloc (Obj.cells #[.slice none 0 0] 24)) := bel_alloc (bel_alloc (Below.refl _ _) _) _
  have hB2 := fun (W : World) (h : Below (w.heap.size + 2) ((w.alloc (Obj.cells #[.slice A1 n1 c1] 24)).alloc (Obj.cells #[.slice none 0 0] 24)) W) => two_blocks2 h
  have hz : ((w.alloc (Obj.cells #[.slice A1 n1 c1] 24)).alloc (Obj.cells #[.slice none 0 0] 24)).heap.size = w.heap.size + 2 := by simp
  have P := hid (Sl.call hA hb0)
  have R := hid (Sl.call hr.sl hb0)
  clear hA hr
  go_enter Try.func33, Try.ntmps33
  go_wp2_with fail
  generalize ((w.alloc (Obj.cells #[.slice A1 n1 c1] 24)).alloc (Obj.cells #[.slice none 0 0] 24)) = W0 at *
  refine (aWith_any _ _ l (rootT k t) W0 (rep_Arena.2 ⟨_, _, _, rfl, P.out⟩) (rep_Term.2 ⟨_, _, _, rfl, hk, (by decide : (Lit.int .i64 (-1)).wf = true), R.out⟩) ⟨by show (-1 : Int) < _; omega, by show (-1 : Int) ≤ -1; omega⟩).mono ?_
  rintro e w1 ⟨v1, rfl, ho1, hb1⟩
  obtain ⟨A2, n2, c2, rfl, hs2⟩ := ho1.read
  obtain ⟨q2, q3⟩ := hB2 w1 (by rw [← hz]; exact hb1)
  have HB1 : Below w.heap.size w w1 := bel_call hb0 hb1
  have c3 := cell_of_one q3
  have f3 := free_of_one q3
  have HO := (ho1.setLow (b := w.heap.size + 1) (by omega) (by omega) 0 (.slice A2 n2 c2)).lows (base' := w.heap.size) (lo' := w.heap.size) (by omega) (by omega)
  clear hB2 hb1 hb0 hs2 ho1
  go_wp2
  refine bodyPost_ret_by (results_ctt rfl _ _ (w.heap.size + 1) 0 rfl [.slice A2 n2 c2] _ (range1 (cell_of_one (one_setCell q3))) Try.underlying24 rfl (by kernel_rfl)) rfl ?_
  exact ⟨_, rfl, HO, HB1.setCell (by show w.heap.size ≤ w.heap.size + 1; omega) _⟩

theorem aNext_eq {l : List Trm} {u : Int} {t : List Int} (hu : 0 ≤ u) : nextE l u t = withE l (nextT u t) ∧ nextL l u t = withL l (nextT u t) ∧ nextI l u t = withI l (nextT u t) := by
  have h1 : nextE l u t = withE l (nextT u t) := if_neg (by omega)
  refine ⟨h1, ?_, ?_⟩
  · rw [nextL, h1]
    by_cases h : withE l (nextT u t) = 0
    · rw [if_pos h]
    · rw [if_neg h, withL, if_neg h]
  · rw [nextI, h1]
    by_cases h : withE l (nextT u t) = 0
    · rw [if_pos h]
    · rw [if_neg h, withI, if_neg h]
theorem aNext_no {l : List Trm} {u : Int} {t : List Int} (hu : ¬ (0 ≤ u ∧ u < l.length)) : nextE l u t = 1 ∧ nextL l u t = [] ∧ nextI l u t = 0 := by
  have h1 : nextE l u t = 1 := by
    unfold nextE
    split
    · rfl
    · rw [withE, if_neg]
      rintro ⟨-, h, -⟩
      exact hu ⟨by omega, h⟩
  exact ⟨h1, by rw [nextL, h1]; rfl, by rw [nextI, h1]; rfl⟩

set_option maxRecDepth 100000 in
set_option maxHeartbeats 2000000 in
theorem aNext_any (s1 : Array Value) (l : List Trm) (u : Int) (A : Option Addr) (n c : Nat) (t : List Int) (w : World) (g1 : lay_Arena.rep w (· < w.heap.size) l s1.toList) (hk : (Lit.int .i64 u).wf = true) (hr : Rd w w.heap.size .u8 A n c t) :
    Calls Try.prog 39 #[.agg s1, .int .i64 u, .slice A n c] w fun e w' => ∃ v', e = .returned (.tuple #[.agg #[v'], .int .i64 (nextI l u t), .int .i64 (nextE l u t)]) ∧ OwnL lay_Term w' w.heap.size (some w.heap.size) 62 v' (nextL l u t) ∧ Below w.heap.size w w' := by
  obtain ⟨A1, n1, c1, rfl, hA⟩ := agg_Arena g1
  clear g1
  have hb0 : Below w.heap.size w ((w.alloc (Obj.cells #[.slice A1 n1 c1] 24)).alloc (Obj.cells #[.slice none 0 0] 24)) := bel_alloc (bel_alloc (Below.refl _ _) _) _
  have hB2 := fun (W : World) (h : Below (w.heap.size + 2) ((w.alloc (Obj.cells #[.slice A1 n1 c1] 24)).alloc (Obj.cells #[.slice none 0 0] 24)) W) => two_blocks2 h
  have hz : ((w.alloc (Obj.cells #[.slice A1 n1 c1] 24)).alloc (Obj.cells #[.slice none 0 0] 24)).heap.size = w.heap.size + 2 := by simp
  have P := hid (fun (W : World) (h : Below w.heap.size w W) => Sl.call hA h)
  have R := hid (fun (W : World) (h : Below w.heap.size w W) => Sl.call hr.sl h)
  have HIT := hid (isTag_any _ l u _ (rep_Arena.2 ⟨_, _, _, rfl, P.out _ hb0⟩) hk)
  clear hA hr
  by_cases hu : 0 ≤ u ∧ u < l.length
  · obtain ⟨x1, x2, x3⟩ := aNext_eq (l := l) (t := t) hu.1
    rw [decide_eq_true hu.1, decide_eq_true hu.2, Bool.and_true] at HIT
    rw [x1, x2, x3]
    clear x1 x2 x3
    go_enter Try.func39, Try.ntmps39
    go_wp2_with fail
    generalize ((w.alloc (Obj.cells #[.slice A1 n1 c1] 24)).alloc (Obj.cells #[.slice none 0 0] 24)) = W0 at *
    refine HIT.out.mono ?_
    rintro e w1 ⟨rfl, hb1⟩
    obtain ⟨q2, q3⟩ := hB2 w1 (by rw [← hz]; exact hb1)
    have HB1 : Below w.heap.size w w1 := bel_call hb0 hb1
    have hz1 := hb1.size
    have c2 := cell_of_one q2
    clear hB2 hb1 hb0
    go_wp2_with fail
    refine (aWith_any _ _ l (nextT u t) w1 (rep_Arena.2 ⟨_, _, _, rfl, P.out _ HB1⟩) (rep_Term.2 ⟨_, _, _, rfl, (by decide : (Lit.int .u64 0).wf = true), hk, R.out _ HB1⟩) ⟨hu.2, by show -1 ≤ u; omega⟩).mono ?_
    rintro e w2 ⟨v2, rfl, ho2, hb2⟩
    obtain ⟨A2, n2, c2', rfl, hs2⟩ := ho2.read
    have Q3 := (hb2.block _ (lt_of_block q3)).trans q3
    have HB2 := bel_call HB1 hb2
    have c3 := cell_of_one Q3
    have f3 := free_of_one Q3
    have HO := hid ((ho2.setLow (b := w.heap.size + 1) (by omega) (by omega) 0 (.slice A2 n2 c2')).lows (base' := w.heap.size) (lo' := w.heap.size) (by omega) (by omega))
    have HB9 := hid (HB2.setCell (p := ⟨w.heap.size + 1, 0, none⟩) (by show w.heap.size ≤ w.heap.size + 1; omega) (.slice A2 n2 c2'))
    clear hs2 ho2 hb2
    go_wp2
    refine bodyPost_ret_by (results_ctt rfl _ _ (w.heap.size + 1) 0 rfl [.slice A2 n2 c2'] _ (range1 (cell_of_one (one_setCell Q3))) Try.underlying24 rfl (by kernel_rfl)) rfl ?_
    exact ⟨_, rfl, HO.out, HB9.out⟩
  · obtain ⟨x1, x2, x3⟩ := aNext_no (l := l) (t := t) hu
    have hff : (decide (0 ≤ u) && decide (u < (l.length : Int))) = false := by
      rw [Bool.and_eq_false_iff, decide_eq_false_iff_not, decide_eq_false_iff_not]
      by_cases h : 0 ≤ u
      · exact .inr fun h2 => hu ⟨h, h2⟩
      · exact .inl h
    rw [hff] at HIT
    rw [x1, x2, x3]
    clear x1 x2 x3 hff
    go_enter Try.func39, Try.ntmps39
    go_wp2_with fail
    generalize ((w.alloc (Obj.cells #[.slice A1 n1 c1] 24)).alloc (Obj.cells #[.slice none 0 0] 24)) = W0 at *
    refine HIT.out.mono ?_
    rintro e w1 ⟨rfl, hb1⟩
    obtain ⟨q2, q3⟩ := hB2 w1 (by rw [← hz]; exact hb1)
    have HB1 : Below w.heap.size w w1 := bel_call hb0 hb1
    have c3 := cell_of_one q3
    have f3 := free_of_one q3
    clear hB2 hb1 hb0
    go_wp2
    refine bodyPost_ret_by (results_ctt rfl _ _ (w.heap.size + 1) 0 rfl [.slice none 0 0] _ (range1 (cell_of_one (one_setCell q3))) Try.underlying24 rfl (by kernel_rfl)) rfl ?_
    exact ⟨_, rfl, OwnL.nil _ _ _ _ _, HB1.setCell (by show w.heap.size ≤ w.heap.size + 1; omega) _⟩
end Go.Proofs.Ytgiapfenalhleaa
