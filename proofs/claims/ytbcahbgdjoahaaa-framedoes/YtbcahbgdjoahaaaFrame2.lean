/-
  The contract of the program's Put of layer 3.
-/
import Derived.Test.YtbcahbgdjoahaaaFrame1
import Derived.Laws.CopyOwn
import Derived.Deep.OwnRows
namespace Go.Proofs.Ytbcahbgdjoahaaa
open Go.RowKit Go.WalkArith

theorem made_list (n : Nat) (z : Value) : madeCells #[z] n = (List.replicate n z).toArray := by
  apply Array.ext
  · simp [size_madeCells]
  · intro i h1 h2
    simp [madeCells, Nat.mod_one]
theorem made_two (n : Nat) (z a b : Value) : ((madeCells #[z] (2 + n)).setIfInBounds 0 a).setIfInBounds 1 b = ([a, b] ++ List.replicate n z).toArray := by
  rw [made_list, Nat.add_comm, List.replicate_succ, List.replicate_succ]
  rfl

set_option maxRecDepth 100000 in
set_option maxHeartbeats 1000000 in
theorem framePut_any (A : Option Addr) (n c B : Nat) (xs : List Int) (w : World) (hr : Rd w B .u8 A n c xs) (hB : B ≤ w.heap.size) :
    Calls Try.prog 8 #[.slice A n c] w fun e w' => ∃ v', e = .returned (.tuple #[v', .int .i64 (ptE xs)]) ∧ Own w' w.heap.size 5 .u8 v' (ptO xs) ∧ Below w.heap.size w w' := by
  have hcap := hr.cap
  unfold maxLen at hcap
  have hl := hr.len
  by_cases h : 4096 < n
  · have H1 := hid (show ptE xs = 4 from if_pos (by omega))
    have H2 := hid (show ptO xs = [] from if_pos (by omega))
    have h' : (4096 : Int) < (n : Int) := by omega
    clear hl
    go_enter Try.func8, Try.ntmps8
    go_wp2
    go_ret2
    exact ⟨_, by rw [H1.out]; rfl, by rw [H2.out]; exact Own.nil _ _ _ _, Below.refl _ _⟩
  · have H1 := hid (show ptE xs = 0 from if_neg (by omega))
    have H2 := hid (show ptO xs = [(n : Int) / 256, (n : Int) % 256] ++ xs from by unfold ptO frameOf; rw [if_neg (by omega), hl])
    have h' : decide ((4096 : Int) < (n : Int)) = false := by simp; omega
    have HL := hid hl
    have ec : ((2 + n : Nat) : Int) = 2 + (n : Int) := by omega
    have hmk := run_make_row' (P := Try.prog) 22 5 (.int .u8 0) 1 Try.underlying22 Try.infoU8 rfl .i64 .i64 (2 + n) (by omega) (by omega) w
    rw [ec] at hmk
    have hal := heap_alloc_new w (.cells (madeCells #[.int .u8 0] (2 + n)) 5)
    have hb1 := bel_alloc (Below.refl w.heap.size w) (.cells (madeCells #[.int .u8 0] (2 + n)) 5)
    generalize w.alloc (.cells (madeCells #[.int .u8 0] (2 + n)) 5) = W1 at *
    have hfr : ∀ (W : World) (g : Nat), (Instr.slice 22 (.slice (some ⟨g, 0, none⟩) (2 + n) (2 + n)) (some (.int .i64 2)) none none).run Try.prog W = .ok (.slice (cutA (some ⟨g, 0, none⟩) (2 + n) 2) n n) W := fun W g => by
      have h9 := run_fromK (P := Try.prog) 22 5 .i64 Try.underlying22 Try.elemU8 Try.infoU8 (some ⟨g, 0, none⟩) (2 + n) (2 + n) 2 (by omega) W
      rw [show 2 + n - 2 = n by omega] at h9
      exact h9
    have hcc : ∀ i, i < 2 → W1.cell? ⟨w.heap.size, i, none⟩ = some (.int .u8 0) := fun i hi => by
      rw [made_list] at hal
      simp only [World.cell?, hal]
      simp [show i < 2 + n by omega]
    have hf : ∀ i, W1.frozen? ⟨w.heap.size, i, none⟩ = false := fun i => by simp only [World.frozen?, hal]; simp
    have c0 := hcc 0 (by omega)
    have c1 := hcc 1 (by omega)
    have f0 := hf 0
    have f1 := hf 1
    have hn0 : (0 : Int) < 2 + (n : Int) := by omega
    have hn1 : (1 : Int) < 2 + (n : Int) := by omega
    have HG := hid (show ((W1.setCell ⟨w.heap.size, 0, none⟩ (.int .u8 ((n : Int) / 256))).setCell ⟨w.heap.size, 1, none⟩ (.int .u8 ((n : Int) % 256))).heap[w.heap.size]? = some (.cells ([Value.int .u8 ((n : Int) / 256), Value.int .u8 ((n : Int) % 256)] ++ List.replicate n (Value.int .u8 0)).toArray 5 (0, 0)) from by
      rw [← made_two]
      exact heap_setCell_same _ _ 1 _ _ _ (heap_setCell_same _ _ 0 _ _ _ hal))
    have HB1 := hid ((hb1.setCell (p := ⟨w.heap.size, 0, none⟩) (by simp) (.int .u8 ((n : Int) / 256))).setCell (p := ⟨w.heap.size, 1, none⟩) (by simp) (.int .u8 ((n : Int) % 256)))
    have HR := hid ((hr.more hB).below HB1.out)
    clear hl hcc hf hal ec hr
    obtain ⟨cs, hcs⟩ : ∃ cs, cs = xs.map (Value.int .u8) := ⟨_, rfl⟩
    have HCS := hid hcs
    have hcl : cs.length = n := by rw [hcs, List.length_map]; exact HL.out
    clear hcs
    go_enter Try.func8, Try.ntmps8
    go_wp2_with (with_reducible refine wpList_copy_splice rfl (.tmp 24) (.tmp 25) 22 22 rfl 5 Try.underlying22 (by kernel_rfl) (cutA (some ⟨w.heap.size, 0, none⟩) (2 + n) 2) A n n n c rfl rfl w.heap.size 2 ([Value.int .u8 ((n : Int) / 256), Value.int .u8 ((n : Int) % 256)] ++ List.replicate n (Value.int .u8 0)) 5 HG.out cs ?h1 ?h2 ?h3 ?h4 w.heap.size w HB1.out (Nat.le_refl _) ?h5)
    case h1 => rw [hcl]; exact (Nat.min_self n).symm
    case h2 =>
      intro hp
      have hn : 0 < n := by omega
      refine ⟨by unfold cutA; rw [if_neg (by omega)]; simp [Addr.add], ?_⟩
      obtain ⟨b, off, rfl, hb, hc⟩ := HR.out.at_ hn
      refine ⟨_, rfl, fun j v hv => ?_⟩
      rw [HCS.out] at hv
      have hj : j < xs.length := by
        rcases Nat.lt_or_ge j xs.length with h | h
        · exact h
        · rw [List.getElem?_eq_none (by simpa using h)] at hv; cases hv
      rw [Addr.add_lit, hc j (by rw [← HL.out]; exact hj), nth_get hj, ← hv]
      simp [List.getElem?_eq_getElem hj]
    case h3 => rw [hcl]; simp; omega
    case h4 =>
      intro v hv
      rw [HCS.out] at hv
      obtain ⟨x, _, rfl⟩ := List.mem_map.1 hv
      rfl
    intro w2 HG2 hB2
    go_wp2
    go_ret2
    refine ⟨_, by rw [H1.out]; rfl, ?_, hB2⟩
    rw [H2.out]
    have hx : w2.heap[w.heap.size]? = some (.cells (splice ([Value.int .u8 ((n : Int) / 256), Value.int .u8 ((n : Int) % 256)] ++ List.replicate n (Value.int .u8 0)) 2 cs).toArray 5 (0, 0)) := by simpa using HG2.out
    rw [show splice ([Value.int .u8 ((n : Int) / 256), Value.int .u8 ((n : Int) % 256)] ++ List.replicate n (Value.int .u8 0)) 2 cs = ([(n : Int) / 256, (n : Int) % 256] ++ xs).map (Value.int .u8) from by
      rw [splice, List.drop_of_length_le (by simp; omega), HCS.out]; simp] at hx
    have hlen : ([(n : Int) / 256, (n : Int) % 256] ++ xs).length = 2 + n := by simp; have := HL.out; omega
    refine ⟨⟨by simp, .inr ⟨w.heap.size, 2 + n, _, by rw [hlen]; rfl, Nat.le_refl _, hx, by omega, by unfold maxLen; omega, by simp; have := HL.out; omega, ?_⟩⟩, fun x hm => ?_⟩
    · rw [Nat.mul_one, List.toList_toArray, List.take_of_length_le (by simp)]
    · rcases List.mem_append.1 hm with hm | hm
      · simp at hm
        exact wf_u8 (by omega)
      · exact HR.out.wf x hm
end Go.Proofs.Ytbcahbgdjoahaaa
