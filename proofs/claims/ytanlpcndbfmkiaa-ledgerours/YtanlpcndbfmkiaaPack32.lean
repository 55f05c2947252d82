/-
  Package ledger: one put into a row of channels that is one's own (slices.Insert), at whatever place, with room or without.
-/
import Derived.Deep.RegionLaw
import Derived.Laws.CopyOwn
import Derived.Lib.Overlaps
import Derived.Lib.AppendZeros
import Derived.Lib.AppendZerosOnto
import Derived.Test.YtanlpcndbfmkiaaPack1
import Derived.Test.YtanlpcndbfmkiaaPack2
import Derived.Test.YtanlpcndbfmkiaaPack3
import Derived.Test.YtanlpcndbfmkiaaPack4
import Derived.Test.YtanlpcndbfmkiaaPack5
import Derived.Test.YtanlpcndbfmkiaaPack6
import Derived.Test.YtanlpcndbfmkiaaPack7
import Derived.Test.YtanlpcndbfmkiaaPack8
import Derived.Test.YtanlpcndbfmkiaaPack9
import Derived.Test.YtanlpcndbfmkiaaPack10
import Derived.Test.YtanlpcndbfmkiaaPack11
import Derived.Test.YtanlpcndbfmkiaaPack12
import Derived.Test.YtanlpcndbfmkiaaPack13
import Derived.Test.YtanlpcndbfmkiaaPack14
import Derived.Test.YtanlpcndbfmkiaaPack15
import Derived.Test.YtanlpcndbfmkiaaPack16
import Derived.Test.YtanlpcndbfmkiaaPack17
import Derived.Test.YtanlpcndbfmkiaaPack18
import Derived.Test.YtanlpcndbfmkiaaPack19
import Derived.Test.YtanlpcndbfmkiaaPack20
import Derived.Test.YtanlpcndbfmkiaaPack21
import Derived.Test.YtanlpcndbfmkiaaPack22
import Derived.Test.YtanlpcndbfmkiaaPack23
import Derived.Test.YtanlpcndbfmkiaaPack24
import Derived.Test.YtanlpcndbfmkiaaPack25
import Derived.Test.YtanlpcndbfmkiaaPack26
import Derived.Test.YtanlpcndbfmkiaaPack27
import Derived.Test.YtanlpcndbfmkiaaPack28
import Derived.Test.YtanlpcndbfmkiaaPack29
import Derived.Test.YtanlpcndbfmkiaaPack30
import Derived.Test.YtanlpcndbfmkiaaPack31
namespace Go.Proofs.Ytanlpcndbfmkiaa
open Go.RowKit Go.WalkArith

theorem Try.infoChI : (Try.prog.info? 26).map (fun i => (i.zero, i.size, i.bytes)) = some (some (.agg #[.int .u64 0, .int .u64 0, .int .u64 0, .int .u64 0, .int .u64 0, .slice none 0 0, .bool false]), lay_Channel.size, 72) := by kernel_rfl
theorem Try.elemChI : Try.prog.elem 22 = 26 := by kernel_rfl
theorem sizeC7 : (Try.prog.info? 26).map (·.size) = some 7 := by
  obtain ⟨i, hi, hz0, hz1, hz2⟩ := info_parts Try.infoChI
  rw [hi]
  simp [hz1, size_lay_Channel]
theorem sizeOfC (w : World) : (Go.sizeOf 26).run Try.prog w = .ok 7 w := by
  obtain ⟨i, hi, -, hz1, -⟩ := info_parts Try.infoChI
  simp [sizeOf, typeInfo, hi, hz1, size_lay_Channel]
theorem fromC (A : Addr) (n cap i : Nat) (hi : i ≤ n) (hc : cap ≠ i) (W : World) : (Instr.slice 22 (.slice (some A) n cap) (some (.int .i64 (i : Int))) none none).run Try.prog W = .ok (.slice (some (A.add (i * 7))) (n - i) (cap - i)) W := by
  have h := run_fromL (P := Try.prog) 22 26 .i64 Try.underlying22 Try.elemChI Try.infoChI (some A) n cap i hi W
  rw [cutS, if_neg hc] at h
  exact h

/-- What an owned row of channels is made of. -/
theorem own_parts {g n cap base : Nat} {l : List Chn} {w : World} (ho : OwnL lay_Channel w base (some base) 26 (.slice (some ⟨g, 0, none⟩) n cap) l) :
    l.length = n ∧ ∃ (cs : List Value) (cur : Array Value), cs.length = n * 7 ∧ RepRow lay_Channel w (Els w (some base) (.slice (some ⟨g, 0, none⟩) n cap)) l cs ∧ base ≤ g ∧ w.heap[g]? = some (.cells cur 26 (0, 0)) ∧ n ≤ cap ∧ cap ≤ maxLen ∧ cur.size = cap * 7 ∧ cur.toList.take (n * 7) = cs := by
  have hn := ho.num
  obtain ⟨cs, h1, h2⟩ := ho
  rw [hn] at h1
  refine ⟨hn, cs, ?_⟩
  rcases h1.2 with ⟨h', _⟩ | ⟨g', cap', cur, h', hbg, hg, hnc, hcm, hcs, ht⟩
  · simp at h'
  · simp only [Value.slice.injEq, Option.some.injEq, Addr.mk.injEq, and_true, true_and] at h'
    obtain ⟨rfl, rfl⟩ := h'
    exact ⟨cur, h1.1, h2, hbg, hg, hnc, hcm, hcs, ht⟩

/-- A row put together of cells that lie in a block of one's own. -/
theorem own_made {g n cap base : Nat} {l : List Chn} {x : Chn} {i : Nat} {w W : World} {v : Value} {cs cx row : List Value} (h2 : RepRow lay_Channel w (Els w (some base) v) l cs) (hr : lay_Channel.rep w (Els w (some base) v) x cx) (hl : l.length = n) (hi : i ≤ n)
    (hbg : base ≤ g) (hg : W.heap[g]? = some (.cells row.toArray 26 (0, 0))) (hnc : n + 1 ≤ cap) (hcm : cap ≤ maxLen) (hrow : row.length = cap * 7) (ht : row.take ((n + 1) * 7) = cs.take (i * 7) ++ cx ++ cs.drop (i * 7))
    (hk : ∀ b, Els w (some base) v b → W.heap[b]? = w.heap[b]? ∧ b < W.heap.size ∧ b ≠ g) : OwnL lay_Channel W base (some base) 26 (.slice (some ⟨g, 0, none⟩) (n + 1) cap) (l.take i ++ [x] ++ l.drop i) := by
  have hlen : (l.take i ++ [x] ++ l.drop i).length = n + 1 := by simp; omega
  have hrows := rows_put h2 hr i
  have hcl := hrows.len
  refine ⟨cs.take (i * 7) ++ cx ++ cs.drop (i * 7), ?_, ?_⟩
  · rw [hlen]
    rw [hlen] at hcl
    exact ⟨hcl, .inr ⟨g, cap, row.toArray, rfl, hbg, hg, hnc, hcm, by simpa [size_lay_Channel] using hrow, by simpa [size_lay_Channel] using ht⟩⟩
  · exact (hrows.keep fun p hp => World.cell?_of_block (hk p.block hp).1).wide fun b hb => ⟨hb.1.of_block (hk b hb).1, (hk b hb).2.1, fun e => (hk b hb).2.2 (by simpa [Value.ownBlock, eq_comm] using e)⟩

set_option maxRecDepth 100000 in
set_option maxHeartbeats 4000000 in
/-- There is room. -/
theorem insIn_any (g n cap i vb base : Nat) (l : List Chn) (x : Chn) (cx : Array Value) (w : World) (ho : OwnL lay_Channel w base (some base) 26 (.slice (some ⟨g, 0, none⟩) n cap) l) (hi : i < n) (hc : n + 1 ≤ cap) (hn : n ≤ 32)
    (hx : w.heap[vb]? = some (.cells cx 26 (0, 0))) (hr : lay_Channel.rep w (Els w (some base) (.slice (some ⟨g, 0, none⟩) n cap)) x cx.toList) (hne : vb ≠ g) :
    Calls Try.prog 38 #[.slice (some ⟨g, 0, none⟩) n cap, .int .i64 i, .slice (some ⟨vb, 0, none⟩) 1 1] w fun e w' => ∃ v', e = .returned v' ∧ OwnL lay_Channel w' base (some base) 26 v' (l.take i ++ [x] ++ l.drop i) ∧ Below base w w' := by
  obtain ⟨hl, cs, cur, hcl, h2, hbg, hg, hnc, hcm, hcs, ht⟩ := own_parts ho
  have hcx := lay_Channel.len hr
  rw [size_lay_Channel] at hcx
  have hcap := hcm
  unfold maxLen at hcap
  have hle := Nat.mul_le_mul_right 7 hc
  have hi7 := Nat.mul_le_mul_right 7 (Nat.le_of_lt hi)
  have hd7 : (cs.drop (i * 7)).length = (n - i) * 7 := by rw [List.length_drop, hcl, Nat.sub_mul]
  have hgc : ∀ (W : World), W.heap[g]? = w.heap[g]? → ∀ j v, cs[j]? = some v → W.cell? ⟨g, j, none⟩ = some v := fun W hW j v hj => by
    have hjl := (List.getElem?_eq_some_iff.1 hj).1
    rw [World.cell?_of_block hW]
    simp only [World.cell?, hg]
    rw [← ht, List.getElem?_take, if_pos (by omega)] at hj
    simpa using hj
  have hv1 : ∀ j v, cx.toList[j]? = some v → w.cell? ⟨vb, j, none⟩ = some v := fun j v hj => by
    simp only [World.cell?, hx]
    simpa using hj
  obtain ⟨W1, hW1⟩ : ∃ W1, W1 = w.drew.setRow g (shiftS 7 i cur.toList cs).toArray := ⟨_, rfl⟩
  obtain ⟨W2, hW2⟩ : ∃ W2, W2 = W1.setRow g (putS 7 i (shiftS 7 i cur.toList cs) cx.toList).toArray := ⟨_, rfl⟩
  have hg1 : W1.heap[g]? = some (.cells (shiftS 7 i cur.toList cs).toArray 26 (0, 0)) := by rw [hW1]; exact setRow_heap _ g _ _ _ _ (show w.drew.heap[g]? = _ from hg)
  have hg2 : W2.heap[g]? = some (.cells (putS 7 i (shiftS 7 i cur.toList cs) cx.toList).toArray 26 (0, 0)) := by rw [hW2]; exact setRow_heap _ g _ _ _ _ hg1
  have hsl := shift_len (size := 7) (i := i) (cur := cur.toList) hcl (by omega) (by rw [Array.length_toList]; exact hcs) (by omega)
  have hcp1 : ∀ ty dc sc, (Builtin.copy_ #[22, 22] ty #[.slice (some ⟨g, (i + 1) * 7, none⟩) (n - i) dc, .slice (some ⟨g, i * 7, none⟩) (n + 1 - i) sc]).run Try.prog w.drew = .ok (goInt (n - i : Nat)) W1 := fun ty dc sc => by
    have h := run_copyS (P := Try.prog) w.drew 22 22 ty 26 7 g ((i + 1) * 7) (n - i) dc ⟨g, i * 7, none⟩ (n + 1 - i) sc cur 26 (cs.drop (i * 7)) Try.underlying22 sizeC7 hg (by rw [hd7]; congr 1; simp only [Nat.min_def]; split <;> omega)
      (fun j v hj => by rw [Addr.add_lit]; rw [List.getElem?_drop] at hj; exact hgc w.drew rfl _ v hj) (by rw [hd7, hcs, ← Nat.add_mul]; exact Nat.mul_le_mul_right 7 (by omega)) (fun v hv => h2.one v (List.mem_of_mem_drop hv))
    rw [show Nat.min (n + 1 - i) (n - i) = n - i from by simp only [Nat.min_def]; split <;> omega] at h
    rw [hW1]
    exact h
  have hcp2 : ∀ ty dc, (Builtin.copy_ #[22, 22] ty #[.slice (some ⟨g, i * 7, none⟩) (n + 1 - i) dc, .slice (some ⟨vb, 0, none⟩) 1 1]).run Try.prog W1 = .ok (goInt (1 : Nat)) W2 := fun ty dc => by
    have h := run_copyS (P := Try.prog) W1 22 22 ty 26 7 g (i * 7) (n + 1 - i) dc ⟨vb, 0, none⟩ 1 1 _ 26 cx.toList Try.underlying22 sizeC7 hg1 (by rw [hcx]; rw [show Nat.min 1 (n + 1 - i) = 1 from by simp only [Nat.min_def]; split <;> omega])
      (fun j v hj => by
        rw [Addr.add_lit, Nat.zero_add, World.cell?_of_block (w := w) (by rw [hW1]; exact setRow_other w.drew g vb _ hne)]
        exact hv1 j v hj) (by simp only [List.size_toArray, hsl, hcx]; omega) (fun v hv => lay_Channel.one hr v hv)
    rw [show Nat.min 1 (n + 1 - i) = 1 from by simp only [Nat.min_def]; split <;> omega] at h
    rw [hW2]
    simpa [putS] using h
  obtain ⟨hp1, hp2⟩ := put_shift (size := 7) hcl hcx (Nat.le_of_lt hi) (by rw [Array.length_toList]; exact hcs) (by omega) (by rw [← ht, List.take_take, Nat.min_eq_left (by omega)])
  have HO := hid (own_made (g := g) (cap := cap) (W := W2) h2 hr hl (Nat.le_of_lt hi) hbg hg2 hc hcm hp1 hp2 fun b hb => by
    have hbn : b ≠ g := fun e => hb.2.2 (by rw [e]; rfl)
    have e1 : W2.heap[b]? = w.heap[b]? := by rw [hW2, setRow_other _ _ _ _ hbn, hW1]; exact setRow_other w.drew _ _ _ hbn
    exact ⟨e1, by rw [hW2, hW1]; simpa [World.setRow] using hb.2.1, hbn⟩)
  have HB := hid (show Below base w W2 from by rw [hW2, hW1]; exact Go.below_setRow (Go.below_setRow (Below.refl base w).drew hbg _) hbg _)
  have hov : ∀ lb cb, (callFunc 72 #[.slice (some ⟨vb, 0, none⟩) 1 1, .slice (some ⟨g, (i + 1) * 7, none⟩) lb cb]).run Try.prog w = .ok (.value (.bool false)) w := fun lb cb => by
    rw [run_callFunc_extern Try.func72 (by kernel_rfl) (by kernel_rfl) (by kernel_rfl) (e := Extern.SlicesOverlaps.overlaps #[22, 22] #[4]) (by kernel_rfl),
      Lib.run_overlaps_apart w 22 4 26 Try.underlying22 7 sizeOfC ⟨vb, 0, none⟩ ⟨g, (i + 1) * 7, none⟩ 1 1 lb cb hne 26 26 cx.size cur.size (by simp [World.shape?, hx]) (by simp [World.shape?, hg]) (by omega) (by simp [World.frozen?, hx]) (by simp [World.frozen?, hx])]
    rfl
  have hct0 := fun W => fromC ⟨g, 0, none⟩ n cap i (Nat.le_of_lt hi) (by omega) W
  have hct1 : ∀ W, (Instr.slice 22 (.slice (some ⟨g, 0, none⟩) (n + 1) cap) (some (.int .i64 ((i : Int) + 1))) none none).run Try.prog W = .ok (.slice (some ⟨g, (i + 1) * 7, none⟩) (n - i) (cap - (i + 1))) W := fun W => by
    have h := fromC ⟨g, 0, none⟩ (n + 1) cap (i + 1) (by omega) (by omega) W
    rw [Addr.add_lit, Nat.zero_add, Nat.add_sub_add_right] at h
    exact h
  have hct2 : ∀ W, (Instr.slice 22 (.slice (some ⟨g, 0, none⟩) (n + 1) cap) (some (.int .i64 (i : Int))) none none).run Try.prog W = .ok (.slice (some ⟨g, i * 7, none⟩) (n + 1 - i) (cap - i)) W := fun W => by
    have h := fromC ⟨g, 0, none⟩ (n + 1) cap i (by omega) (by omega) W
    rw [Addr.add_lit, Nat.zero_add] at h
    exact h
  have hct3 : ∀ W, (Instr.slice 22 (.slice (some ⟨g, 0, none⟩) n cap) none (some (.int .i64 ((n : Int) + 1))) none).run Try.prog W = .ok (.slice (some ⟨g, 0, none⟩) (n + 1) cap) W := fun W => run_uptoL (P := Try.prog) 22 26 .i64 Try.underlying22 Try.elemChI Try.infoChI (some ⟨g, 0, none⟩) n cap (n + 1) hc W
  have wi : IntKind.i64.wrap ((i : Int) + 1) = (i : Int) + 1 := IntWalk.i64_in _ (by omega)
  have wn : IntKind.i64.wrap ((n : Int) + 1) = (n : Int) + 1 := IntWalk.i64_in _ (by omega)
  have d0 : ((i : Int) == (n : Int)) = false := by simp; omega
  have d1 : decide ((cap : Int) < (n : Int) + 1) = false := by simp; omega
  clear hgc hv1 hg1 hg2 hsl hp1 hp2 hd7 hle hi7 h2 hW2 hW1 hr hx hg ht hcs ho
  go_enter Try.func38, Try.ntmps38
  go_wp2_with (simp only [hov])
  go_region_law (refine step_copyS rfl _ _ 22 22 rfl _ _ (by simp [Act.eval, Act.put]) (by simp [Act.eval, Act.put]) (fun ty => hcp1 ty _ _) ?_)
  all_goals
    go_wp2_with (at_builtin; refine wpList_copyS rfl _ _ 22 22 rfl _ _ rfl rfl (fun ty => hcp2 ty _) ?_)
    go_ret
    exact ⟨_, rfl, HO.out, HB.out⟩

/-- The cells behind one put in ahead, then all from place i on, one further. -/
theorem shift_put {size i n m : Nat} {cur cs cx : List Value} (hc : cs.length = n * size) (hx : cx.length = size) (hi : i ≤ n) (hm : cur.length = m * size) (hn : n < m) (ht : cur.take (i * size) = cs.take (i * size)) :
    (putS size i cur cx).length = m * size ∧ (shiftS size i (putS size i cur cx) cs).length = m * size ∧ (shiftS size i (putS size i cur cx) cs).take ((n + 1) * size) = cs.take (i * size) ++ cx ++ cs.drop (i * size) := by
  have h1 : (n + 1) * size ≤ m * size := Nat.mul_le_mul_right _ hn
  have h2 : i * size ≤ n * size := Nat.mul_le_mul_right _ hi
  rw [Nat.add_mul] at h1
  have hl : (putS size i cur cx).length = m * size := by
    unfold putS
    simp only [List.length_append, List.length_take, List.length_drop, hm, hx]
    omega
  have e1 : (putS size i cur cx).take ((i + 1) * size) = cs.take (i * size) ++ cx := by
    unfold putS
    rw [ht, List.take_append_of_le_length (by simp only [List.length_append, List.length_take, hc, hx, Nat.add_mul]; omega), List.take_of_length_le (by simp only [List.length_append, List.length_take, hc, hx, Nat.add_mul]; omega)]
  refine ⟨hl, shift_len hc hi hl hn, ?_⟩
  unfold shiftS
  rw [e1, List.take_append_of_le_length (by simp only [List.length_append, List.length_take, List.length_drop, hc, hx, Nat.add_mul]; omega), List.take_of_length_le (by simp only [List.length_append, List.length_take, List.length_drop, hc, hx, Nat.add_mul]; omega)]

set_option maxRecDepth 100000 in
set_option maxHeartbeats 4000000 in
/-- There is no room. -/
theorem insGrow_any (g n cap i vb base : Nat) (l : List Chn) (x : Chn) (cx : Array Value) (w : World) (ho : OwnL lay_Channel w base (some base) 26 (.slice (some ⟨g, 0, none⟩) n cap) l) (hi : i < n) (hc : cap < n + 1) (hn : n ≤ 32) (hbase : base ≤ w.heap.size)
    (hx : w.heap[vb]? = some (.cells cx 26 (0, 0))) (hr : lay_Channel.rep w (Els w (some base) (.slice (some ⟨g, 0, none⟩) n cap)) x cx.toList) :
    Calls Try.prog 38 #[.slice (some ⟨g, 0, none⟩) n cap, .int .i64 i, .slice (some ⟨vb, 0, none⟩) 1 1] w fun e w' => ∃ v', e = .returned v' ∧ OwnL lay_Channel w' base (some base) 26 v' (l.take i ++ [x] ++ l.drop i) ∧ Below base w w' := by
  obtain ⟨hl, cs, cur, hcl, h2, hbg, hg, hnc, hcm, hcs, ht⟩ := own_parts ho
  obtain rfl : cap = n := by omega
  have hcx := lay_Channel.len hr
  rw [size_lay_Channel] at hcx
  have hi7 := Nat.mul_le_mul_right 7 (Nat.le_of_lt hi)
  have hd7 : (cs.drop (i * 7)).length = (cap - i) * 7 := by rw [List.length_drop, hcl, Nat.sub_mul]
  have hglt : g < w.heap.size := (Array.getElem?_eq_some_iff.1 hg).1
  have hvlt : vb < w.heap.size := (Array.getElem?_eq_some_iff.1 hx).1
  have hgc : ∀ (W : World), W.heap[g]? = w.heap[g]? → ∀ j v, cs[j]? = some v → W.cell? ⟨g, j, none⟩ = some v := fun W hW j v hj => by
    have hjl := (List.getElem?_eq_some_iff.1 hj).1
    rw [World.cell?_of_block hW]
    simp only [World.cell?, hg]
    rw [← ht, List.getElem?_take, if_pos (by omega)] at hj
    simpa using hj
  have hv1 : ∀ j v, cx.toList[j]? = some v → w.cell? ⟨vb, j, none⟩ = some v := fun j v hj => by
    simp only [World.cell?, hx]
    simpa using hj
  obtain ⟨i0, hi0, hz0, hzs, hzb⟩ := info_parts Try.infoChI
  rw [size_lay_Channel] at hzs
  have hik : i + (cap + 1 - i) = cap + 1 := by omega
  have hold : (Builtin.firstCells i0.size i (.slice (some ⟨g, 0, none⟩) i cap)).run Try.prog w.drew = .ok (cs.take (i * 7)).toArray w.drew := by
    rw [hzs]
    exact run_firstCells_some w.drew 7 i ⟨g, 0, none⟩ i cap (cs.take (i * 7)) (by rw [List.length_take]; omega) fun j v hj => by
      rw [Addr.add_lit, Nat.zero_add]
      rw [List.getElem?_take] at hj
      split at hj
      · exact hgc w.drew rfl j v hj
      · cases hj
  obtain ⟨G, hG⟩ : ∃ G, G = grownCap w (cap + 1) cap 26 := ⟨_, rfl⟩
  have hGn : cap + 1 ≤ G := by rw [hG]; exact grownCap_ge w _ _ _
  have hGm : G ≤ maxLen := by rw [hG]; exact grownCap_le_maxLen w _ _ _ (by unfold maxLen; omega)
  obtain ⟨ROW, hROW⟩ : ∃ ROW : Array Value, ROW = (cs.take (i * 7)).toArray ++ Builtin.zeroCells (Value.agg #[.int .u64 0, .int .u64 0, .int .u64 0, .int .u64 0, .int .u64 0, .slice none 0 0, .bool false]).cells (cap + 1 - i) ++ Builtin.zeroCells (Value.agg #[.int .u64 0, .int .u64 0, .int .u64 0, .int .u64 0, .int .u64 0, .slice none 0 0, .bool false]).cells (G - (cap + 1)) := ⟨_, rfl⟩
  obtain ⟨W1, hW1⟩ : ∃ W1, W1 = w.drew.alloc (.cells ROW 26) := ⟨_, rfl⟩
  have hrz : ∀ ty, (Builtin.append_ #[22, 3] ty #[.slice (some ⟨g, 0, none⟩) i cap, .int .i64 ((cap : Int) + 1 - (i : Int))]).run Try.prog w = .ok (.slice (some ⟨w.heap.size, 0, none⟩) (cap + 1) G) W1 := fun ty => by
    have h := Lib.run_append_grow_zeros (P := Try.prog) w 22 3 ty 26 i0 _ .i64 .i64 Try.underlying22 Try.underlying3 hi0 hz0 (some ⟨g, 0, none⟩) i cap (cs.take (i * 7)) hold (cap + 1 - i) (by omega) (by rw [hzs]; omega) (by omega) (by omega) (by rw [hzb]; omega) (by rw [hzb, hik]; exact growslice_fits (by omega) (by omega))
    rw [hik, ← hG, ← hROW, ← hW1] at h
    rw [show (cap : Int) + 1 - (i : Int) = ((cap + 1 - i : Nat) : Int) from by omega]
    exact h
  have hRs : ROW.toList.length = G * 7 := by
    rw [Array.length_toList, hROW]
    simp only [Array.size_append, size_zeroCells, List.size_toArray, List.length_take, hcl]
    rw [show (Value.agg #[.int .u64 0, .int .u64 0, .int .u64 0, .int .u64 0, .int .u64 0, .slice none 0 0, .bool false]).cells.size = 7 from rfl, ← Nat.sub_add_cancel hGn]
    simp only [Nat.add_sub_cancel, Nat.sub_mul, Nat.add_mul]
    omega
  have hRt : ROW.toList.take (i * 7) = cs.take (i * 7) := by
    rw [hROW, Array.toList_append, Array.toList_append, List.append_assoc, List.take_append_of_le_length (by simp; omega)]
    simp only [List.take_take, Nat.min_self]
  obtain ⟨hq1, hq2, hq3⟩ := shift_put (size := 7) hcl hcx (Nat.le_of_lt hi) hRs (by omega) hRt
  have hg1 : W1.heap[w.heap.size]? = some (.cells ROW 26 (0, 0)) := by rw [hW1]; exact heap_alloc_new w.drew _
  have hk1 : ∀ b, b < w.heap.size → W1.heap[b]? = w.heap[b]? := fun b hb => by rw [hW1]; exact heap_alloc_old w.drew _ hb
  obtain ⟨W2, hW2⟩ : ∃ W2, W2 = W1.setRow w.heap.size (putS 7 i ROW.toList cx.toList).toArray := ⟨_, rfl⟩
  obtain ⟨W3, hW3⟩ : ∃ W3, W3 = W2.drew.setRow w.heap.size (shiftS 7 i (putS 7 i ROW.toList cx.toList) cs).toArray := ⟨_, rfl⟩
  have hg2 : W2.heap[w.heap.size]? = some (.cells (putS 7 i ROW.toList cx.toList).toArray 26 (0, 0)) := by rw [hW2]; exact setRow_heap _ _ _ _ _ _ hg1
  have hg3 : W3.heap[w.heap.size]? = some (.cells (shiftS 7 i (putS 7 i ROW.toList cx.toList) cs).toArray 26 (0, 0)) := by rw [hW3]; exact setRow_heap _ _ _ _ _ _ (show W2.drew.heap[w.heap.size]? = _ from hg2)
  have hk2 : ∀ b, b < w.heap.size → W2.heap[b]? = w.heap[b]? := fun b hb => by rw [hW2, setRow_other _ _ _ _ (by omega)]; exact hk1 b hb
  have hcp2 : ∀ ty dc, (Builtin.copy_ #[22, 22] ty #[.slice (some ⟨w.heap.size, i * 7, none⟩) (cap + 1 - i) dc, .slice (some ⟨vb, 0, none⟩) 1 1]).run Try.prog W1 = .ok (goInt (1 : Nat)) W2 := fun ty dc => by
    have h := run_copyS (P := Try.prog) W1 22 22 ty 26 7 w.heap.size (i * 7) (cap + 1 - i) dc ⟨vb, 0, none⟩ 1 1 ROW 26 cx.toList Try.underlying22 sizeC7 hg1 (by rw [hcx]; rw [show Nat.min 1 (cap + 1 - i) = 1 from by simp only [Nat.min_def]; split <;> omega])
      (fun j v hj => by
        rw [Addr.add_lit, Nat.zero_add, World.cell?_of_block (hk1 vb hvlt)]
        exact hv1 j v hj) (by rw [← Array.length_toList, hRs, hcx]; omega) (fun v hv => lay_Channel.one hr v hv)
    rw [show Nat.min 1 (cap + 1 - i) = 1 from by simp only [Nat.min_def]; split <;> omega] at h
    rw [hW2]
    exact h
  have hcp1 : ∀ ty dc sc, (Builtin.copy_ #[22, 22] ty #[.slice (some ⟨w.heap.size, (i + 1) * 7, none⟩) (cap - i) dc, .slice (some ⟨g, i * 7, none⟩) (cap - i) sc]).run Try.prog W2.drew = .ok (goInt (cap - i : Nat)) W3 := fun ty dc sc => by
    have h := run_copyS (P := Try.prog) W2.drew 22 22 ty 26 7 w.heap.size ((i + 1) * 7) (cap - i) dc ⟨g, i * 7, none⟩ (cap - i) sc _ 26 (cs.drop (i * 7)) Try.underlying22 sizeC7 (show W2.drew.heap[w.heap.size]? = _ from hg2) (by rw [hd7]; congr 1; simp only [Nat.min_def]; split <;> omega)
      (fun j v hj => by rw [Addr.add_lit]; rw [List.getElem?_drop] at hj; exact hgc W2.drew (hk2 g hglt) _ v hj) (by rw [List.size_toArray, hq1, hd7, ← Nat.add_mul]; exact Nat.mul_le_mul_right 7 (by omega)) (fun v hv => h2.one v (List.mem_of_mem_drop hv))
    rw [show Nat.min (cap - i) (cap - i) = cap - i from Nat.min_self _] at h
    rw [hW3]
    exact h
  have hs3 : W3.heap.size = w.heap.size + 1 := by rw [hW3, hW2, hW1]; simp [World.setRow]
  have HO := hid (own_made (g := w.heap.size) (cap := G) (W := W3) h2 hr hl (Nat.le_of_lt hi) hbase hg3 hGn hGm hq2 hq3 fun b hb => by
    have hlt := hb.2.1
    exact ⟨by rw [hW3, setRow_other _ _ _ _ (by omega)]; exact hk2 b hlt, by omega, by omega⟩)
  have HB := hid (show Below base w W3 from by rw [hW3, hW2, hW1]; exact below_setRow (below_setRow ((Below.refl base w).drew.alloc hbase _) hbase _).drew hbase _)
  have hct0 := fun W => fromC ⟨g, 0, none⟩ cap cap i (Nat.le_of_lt hi) (by omega) W
  have hct1 : ∀ W, (Instr.slice 22 (.slice (some ⟨w.heap.size, 0, none⟩) (cap + 1) G) (some (.int .i64 ((i : Int) + 1))) none none).run Try.prog W = .ok (.slice (some ⟨w.heap.size, (i + 1) * 7, none⟩) (cap - i) (G - (i + 1))) W := fun W => by
    have h := fromC ⟨w.heap.size, 0, none⟩ (cap + 1) G (i + 1) (by omega) (by omega) W
    rw [Addr.add_lit, Nat.zero_add, Nat.add_sub_add_right] at h
    exact h
  have hct2 : ∀ W, (Instr.slice 22 (.slice (some ⟨w.heap.size, 0, none⟩) (cap + 1) G) (some (.int .i64 (i : Int))) none none).run Try.prog W = .ok (.slice (some ⟨w.heap.size, i * 7, none⟩) (cap + 1 - i) (G - i)) W := fun W => by
    have h := fromC ⟨w.heap.size, 0, none⟩ (cap + 1) G i (by omega) (by omega) W
    rw [Addr.add_lit, Nat.zero_add] at h
    exact h
  have hct4 : ∀ W, (Instr.slice 22 (.slice (some ⟨g, 0, none⟩) cap cap) (some (.int .i64 (i : Int))) none none).run Try.prog W = .ok (.slice (some ⟨g, i * 7, none⟩) (cap - i) (cap - i)) W := fun W => by
    have h := fromC ⟨g, 0, none⟩ cap cap i (by omega) (by omega) W
    rw [Addr.add_lit, Nat.zero_add] at h
    exact h
  have hct3 := fun W => run_uptoL (P := Try.prog) 22 26 .i64 Try.underlying22 Try.elemChI Try.infoChI (some ⟨g, 0, none⟩) cap cap i (Nat.le_of_lt hi) W
  have wi : IntKind.i64.wrap ((i : Int) + 1) = (i : Int) + 1 := IntWalk.i64_in _ (by omega)
  have wn : IntKind.i64.wrap ((cap : Int) + 1) = (cap : Int) + 1 := IntWalk.i64_in _ (by omega)
  have wk : IntKind.i64.wrap ((cap : Int) + 1 - (i : Int)) = (cap : Int) + 1 - (i : Int) := IntWalk.i64_in _ (by omega)
  have d0 : ((i : Int) == (cap : Int)) = false := by simp; omega
  have d1 : decide ((cap : Int) < (cap : Int) + 1) = true := by simp; omega
  clear hct0 hgc hv1 hg1 hg2 hg3 hk1 hk2 hq1 hq2 hq3 hRs hRt hd7 hi7 h2 hW3 hW2 hW1 hROW hr hx hg ht hcs ho hold hs3 hik hGm hG
  have hct0 := hct4
  have b1 : (0 : Int) ≤ (i : Int) + 1 := by omega
  have b2 : i ≤ cap := by omega
  have b3 : ¬ (G = i + 1) := by omega
  have b4 : ¬ (G = i) := by omega
  have b5 : ¬ (cap = i) := by omega
  go_enter Try.func38, Try.ntmps38
  go_wp2_with (first
    | (at_builtin; refine Lib.wpList_append_run _ rfl _ _ _ _ rfl _ _ rfl rfl _ _ (hrz _) ?_)
    | (at_builtin; refine wpList_copyS rfl _ _ 22 22 rfl _ _ rfl rfl (fun ty => hcp2 ty _) ?_))
  go_region_law (refine step_copyS rfl _ _ 22 22 rfl _ _ (by simp [Act.eval, Act.put]) (by simp [Act.eval, Act.put]) (fun ty => hcp1 ty _ _) ?_)
  all_goals
    go_wp2
    go_ret
    exact ⟨_, rfl, HO.out, HB.out⟩

set_option maxRecDepth 100000 in
set_option maxHeartbeats 4000000 in
/-- At the end. -/
theorem insEnd_any (v : Value) (vb base : Nat) (l : List Chn) (x : Chn) (cx : Array Value) (w : World) (ho : OwnL lay_Channel w base (some base) 26 v l) (hn : l.length ≤ 32) (hbase : base ≤ w.heap.size)
    (hx : w.heap[vb]? = some (.cells cx 26 (0, 0))) (hr : lay_Channel.rep w (Els w (some base) v) x cx.toList) :
    Calls Try.prog 38 #[v, .int .i64 (l.length : Nat), .slice (some ⟨vb, 0, none⟩) 1 1] w fun e w' => ∃ v', e = .returned v' ∧ OwnL lay_Channel w' base (some base) 26 v' (l ++ [x]) ∧ Below base w w' := by
  have HO := hid ho
  have HR := hid hr
  have HX : ∀ j u, cx.toList[j]? = some u → w.cell? ((⟨vb, 0, none⟩ : Addr).add j) = some u := fun j u hj => by
    rw [Addr.add_lit, Nat.zero_add]
    simp only [World.cell?, hx]
    simpa using hj
  have HX := hid HX
  obtain ⟨A, n, c, rfl, hs⟩ := ho.read
  obtain rfl : l.length = n := hs.len
  have hcap := hs.cap
  unfold maxLen at hcap
  have hct := fun W => run_fromL (P := Try.prog) 22 26 .i64 Try.underlying22 Try.elemChI Try.infoChI A l.length c l.length (Nat.le_refl _) W
  clear hs ho hr hx
  have HL := hid (show l.length ≤ 32 from hn)
  generalize hm : l.length = m at *
  have HM := hid hm
  clear hm
  go_enter Try.func38, Try.ntmps38
  go_wp2_with (at_builtin; go_must (refine wpList_appL rfl _ _ 22 rfl base (some base) 26 _ 72 Try.underlying22 Try.infoChI rfl (by decide) _ l [x] cx.toList ⟨vb, 0, none⟩ 1 1 rfl rfl HO.out (RepRow.single HR.out) rfl HX.out hbase (by rw [HM.out]; omega) (by rw [HM.out]; unfold maxLen; omega) ?_; intro v' w' ho' hx'))
  go_ret
  exact ⟨_, rfl, ho', HO.out.below hx' hbase⟩

theorem insertC_any (v : Value) (i vb base : Nat) (l : List Chn) (x : Chn) (cx : Array Value) (w : World) (ho : OwnL lay_Channel w base (some base) 26 v l) (hi : i ≤ l.length) (hn : l.length ≤ 32) (hbase : base ≤ w.heap.size)
    (hx : w.heap[vb]? = some (.cells cx 26 (0, 0))) (hr : lay_Channel.rep w (Els w (some base) v) x cx.toList) (hne : v.ownBlock ≠ some vb) :
    Calls Try.prog 38 #[v, .int .i64 i, .slice (some ⟨vb, 0, none⟩) 1 1] w fun e w' => ∃ v', e = .returned v' ∧ OwnL lay_Channel w' base (some base) 26 v' (l.take i ++ [x] ++ l.drop i) ∧ Below base w w' := by
  rcases Nat.lt_or_ge i l.length with h | h
  · obtain ⟨g, cap, rfl⟩ := ho.shape (by omega)
    rcases Nat.lt_or_ge cap (l.length + 1) with h1 | h1
    · exact insGrow_any g l.length cap i vb base l x cx w ho h h1 hn hbase hx hr
    · exact insIn_any g l.length cap i vb base l x cx w ho h h1 hn hx hr fun e => hne (by rw [e]; rfl)
  · obtain rfl : i = l.length := by omega
    have h2 := insEnd_any v vb base l x cx w ho hn hbase hx hr
    rw [List.take_of_length_le (Nat.le_refl _), List.drop_of_length_le (Nat.le_refl _), List.append_nil]
    exact h2
end Go.Proofs.Ytanlpcndbfmkiaa
