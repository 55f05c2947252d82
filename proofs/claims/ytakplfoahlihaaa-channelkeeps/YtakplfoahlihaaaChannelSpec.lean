/-
  The words of what package channel answers; boxes that hold a channel; the laws' own 'live' of layer 9.
-/
import Derived.Test.YtakplfoahlihaaaChannelLaws
import Derived.Deep.Cut
import Derived.Deep.CutRange
namespace Go.Proofs.Ytakplfoahlihaaa
open Go.RowKit Go.WalkArith

/-- What package channel answers. -/
structure ChannelSpec : Prop where
  check : ∀ (s : Array Value) (c : Chn) (w : World), lay_Channel.rep w (· < w.heap.size) c s.toList →
    Calls Try.prog 29 #[.agg s] w fun e w' => e = .returned (.int .i64 (chE c)) ∧ Below w.heap.size w w'
  same : ∀ (s t : Array Value) (c o : Chn) (w : World), lay_Channel.rep w (· < w.heap.size) c s.toList → lay_Channel.rep w (· < w.heap.size) o t.toList →
    Calls Try.prog 31 #[.agg s, .agg t] w fun e w' => e = .returned (.bool (decide (c = o))) ∧ Below w.heap.size w w'
  held : ∀ (s : Array Value) (c : Chn) (w : World), lay_Channel.rep w (· < w.heap.size) c s.toList →
    Calls Try.prog 23 #[.agg s] w fun e w' => e = .returned (.tuple #[.int .u64 (heV c), .int .i64 (chE c)]) ∧ Below w.heap.size w w'
  all : ∀ (s : Array Value) (c : Chn) (w : World), lay_Channel.rep w (· < w.heap.size) c s.toList →
    Calls Try.prog 25 #[.agg s] w fun e w' => e = .returned (.tuple #[.int .u64 (aaV c), .int .i64 (chE c)]) ∧ Below w.heap.size w w'
  room : ∀ (s : Array Value) (c : Chn) (w : World), lay_Channel.rep w (· < w.heap.size) c s.toList →
    Calls Try.prog 27 #[.agg s] w fun e w' => e = .returned (.tuple #[.int .u64 (rmV c), .int .i64 (chE c)]) ∧ Below w.heap.size w w'
  hold : ∀ (s : Array Value) (c : Chn) (id n : Int) (w : World), lay_Channel.rep w (· < w.heap.size) c s.toList → (Lit.int .u64 id).wf = true → (Lit.int .u64 n).wf = true →
    Calls Try.prog 12 #[.agg s, .int .u64 id, .int .u64 n] w fun e w' => ∃ v, e = .returned (.tuple #[v, .int .i64 (hoE c id n)]) ∧ OwnC w' w.heap.size v (hoC c id n) ∧ Below w.heap.size w w'
  settle : ∀ (s : Array Value) (c : Chn) (id : Int) (w : World), lay_Channel.rep w (· < w.heap.size) c s.toList → (Lit.int .u64 id).wf = true →
    Calls Try.prog 14 #[.agg s, .int .u64 id] w fun e w' => ∃ v, e = .returned (.tuple #[v, .int .u64 (wtN c id), .int .i64 (wtE c id)]) ∧ OwnC w' w.heap.size v (seC c id) ∧ Below w.heap.size w w'
  fail : ∀ (s : Array Value) (c : Chn) (id : Int) (w : World), lay_Channel.rep w (· < w.heap.size) c s.toList → (Lit.int .u64 id).wf = true →
    Calls Try.prog 16 #[.agg s, .int .u64 id] w fun e w' => ∃ v, e = .returned (.tuple #[v, .int .u64 (wtN c id), .int .i64 (wtE c id)]) ∧ OwnC w' w.heap.size v (faC c id) ∧ Below w.heap.size w w'
  push : ∀ (s : Array Value) (c : Chn) (n : Int) (w : World), lay_Channel.rep w (· < w.heap.size) c s.toList → (Lit.int .u64 n).wf = true →
    Calls Try.prog 18 #[.agg s, .int .u64 n] w fun e w' => ∃ v, e = .returned (.tuple #[v, .int .i64 (puE c n)]) ∧ OwnC w' w.heap.size v (puC c n) ∧ Below w.heap.size w w'
  close : ∀ (s : Array Value) (c : Chn) (w : World), lay_Channel.rep w (· < w.heap.size) c s.toList →
    Calls Try.prog 20 #[.agg s] w fun e w' => ∃ t, e = .returned (.tuple #[.agg t, .int .i64 (clE c)]) ∧ lay_Channel.rep w' (· < w'.heap.size) (clC c) t.toList ∧ Below w.heap.size w w'

/-- A block that holds a channel. -/
def BoxC (w : World) (g : Nat) (t : Chn) (A : Option Addr) (n c : Nat) : Prop := w.heap[g]? = some (.cells #[.int .u64 t.Id, .int .u64 t.Local, .int .u64 t.Remote, .int .u64 t.Reserve, .int .u64 t.Most, .slice A n c, .bool t.Open] 25 (0, 0))
section
variable {w w' : World} {g : Nat} {t : Chn} {A : Option Addr} {n c : Nat}
theorem BoxC.lt (h : BoxC w g t A n c) : g < w.heap.size := (Array.getElem?_eq_some_iff.1 h).1
theorem BoxC.call (h : BoxC w g t A n c) (hb : Below w.heap.size w w') : BoxC w' g t A n c := (hb.block g h.lt).trans h
theorem BoxC.setOther {b : Nat} (h : BoxC w g t A n c) (hne : g ≠ b) (i : Nat) (u : Value) : BoxC (w.setCell ⟨b, i, none⟩ u) g t A n c := (Below.heap_setCell _ _ _ _ hne).trans h
theorem BoxC.f (h : BoxC w g t A n c) (i : Nat) : w.frozen? ⟨g, i, none⟩ = false := by unfold BoxC at h; simp [World.frozen?, h]
theorem BoxC.all (h : BoxC w g t A n c) : w.cell? ⟨g, 0, none⟩ = some (.int .u64 t.Id) ∧ w.cell? ⟨g, 1, none⟩ = some (.int .u64 t.Local) ∧ w.cell? ⟨g, 2, none⟩ = some (.int .u64 t.Remote) ∧ w.cell? ⟨g, 3, none⟩ = some (.int .u64 t.Reserve) ∧ w.cell? ⟨g, 4, none⟩ = some (.int .u64 t.Most) ∧ w.cell? ⟨g, 5, none⟩ = some (.slice A n c) ∧ w.cell? ⟨g, 6, none⟩ = some (.bool t.Open) := by
  unfold BoxC at h
  refine ⟨?_, ?_, ?_, ?_, ?_, ?_, ?_⟩ <;> simp [World.cell?, h]
theorem BoxC.new (w : World) (t : Chn) (A : Option Addr) (n c : Nat) : BoxC (w.alloc (.cells #[.int .u64 t.Id, .int .u64 t.Local, .int .u64 t.Remote, .int .u64 t.Reserve, .int .u64 t.Most, .slice A n c, .bool t.Open] 25)) w.heap.size t A n c := heap_alloc_new w _
theorem BoxC.set (h : BoxC w g t A n c) (t' : Chn) (A' : Option Addr) (n' c' : Nat) : BoxC (((((((w.setCell ⟨g, 0, none⟩ (.int .u64 t'.Id)).setCell ⟨g, 1, none⟩ (.int .u64 t'.Local)).setCell ⟨g, 2, none⟩ (.int .u64 t'.Remote)).setCell ⟨g, 3, none⟩ (.int .u64 t'.Reserve)).setCell ⟨g, 4, none⟩ (.int .u64 t'.Most)).setCell ⟨g, 5, none⟩ (.slice A' n' c')).setCell ⟨g, 6, none⟩ (.bool t'.Open)) g t' A' n' c' := by
  unfold BoxC at *
  have h0 : (w.setCell ⟨g, 0, none⟩ (.int .u64 t'.Id)).heap[g]? = some (.cells #[.int .u64 t'.Id, .int .u64 t.Local, .int .u64 t.Remote, .int .u64 t.Reserve, .int .u64 t.Most, .slice A n c, .bool t.Open] 25 (0, 0)) := heap_setCell_same _ g 0 _ _ (.int .u64 t'.Id) h
  have h1 : ((w.setCell ⟨g, 0, none⟩ (.int .u64 t'.Id)).setCell ⟨g, 1, none⟩ (.int .u64 t'.Local)).heap[g]? = some (.cells #[.int .u64 t'.Id, .int .u64 t'.Local, .int .u64 t.Remote, .int .u64 t.Reserve, .int .u64 t.Most, .slice A n c, .bool t.Open] 25 (0, 0)) := heap_setCell_same _ g 1 _ _ (.int .u64 t'.Local) h0
  have h2 : (((w.setCell ⟨g, 0, none⟩ (.int .u64 t'.Id)).setCell ⟨g, 1, none⟩ (.int .u64 t'.Local)).setCell ⟨g, 2, none⟩ (.int .u64 t'.Remote)).heap[g]? = some (.cells #[.int .u64 t'.Id, .int .u64 t'.Local, .int .u64 t'.Remote, .int .u64 t.Reserve, .int .u64 t.Most, .slice A n c, .bool t.Open] 25 (0, 0)) := heap_setCell_same _ g 2 _ _ (.int .u64 t'.Remote) h1
  have h3 : ((((w.setCell ⟨g, 0, none⟩ (.int .u64 t'.Id)).setCell ⟨g, 1, none⟩ (.int .u64 t'.Local)).setCell ⟨g, 2, none⟩ (.int .u64 t'.Remote)).setCell ⟨g, 3, none⟩ (.int .u64 t'.Reserve)).heap[g]? = some (.cells #[.int .u64 t'.Id, .int .u64 t'.Local, .int .u64 t'.Remote, .int .u64 t'.Reserve, .int .u64 t.Most, .slice A n c, .bool t.Open] 25 (0, 0)) := heap_setCell_same _ g 3 _ _ (.int .u64 t'.Reserve) h2
  have h4 : (((((w.setCell ⟨g, 0, none⟩ (.int .u64 t'.Id)).setCell ⟨g, 1, none⟩ (.int .u64 t'.Local)).setCell ⟨g, 2, none⟩ (.int .u64 t'.Remote)).setCell ⟨g, 3, none⟩ (.int .u64 t'.Reserve)).setCell ⟨g, 4, none⟩ (.int .u64 t'.Most)).heap[g]? = some (.cells #[.int .u64 t'.Id, .int .u64 t'.Local, .int .u64 t'.Remote, .int .u64 t'.Reserve, .int .u64 t'.Most, .slice A n c, .bool t.Open] 25 (0, 0)) := heap_setCell_same _ g 4 _ _ (.int .u64 t'.Most) h3
  have h5 : ((((((w.setCell ⟨g, 0, none⟩ (.int .u64 t'.Id)).setCell ⟨g, 1, none⟩ (.int .u64 t'.Local)).setCell ⟨g, 2, none⟩ (.int .u64 t'.Remote)).setCell ⟨g, 3, none⟩ (.int .u64 t'.Reserve)).setCell ⟨g, 4, none⟩ (.int .u64 t'.Most)).setCell ⟨g, 5, none⟩ (.slice A' n' c')).heap[g]? = some (.cells #[.int .u64 t'.Id, .int .u64 t'.Local, .int .u64 t'.Remote, .int .u64 t'.Reserve, .int .u64 t'.Most, .slice A' n' c', .bool t.Open] 25 (0, 0)) := heap_setCell_same _ g 5 _ _ (.slice A' n' c') h4
  exact heap_setCell_same _ g 6 _ _ (.bool t'.Open) h5
theorem range7 (h : BoxC w g t A n c) : w.rangeAt g 0 [.int .u64 t.Id, .int .u64 t.Local, .int .u64 t.Remote, .int .u64 t.Reserve, .int .u64 t.Most, .slice A n c, .bool t.Open] := fun j v hj => by
  obtain ⟨h0, h1, h2, h3, h4, h5, h6⟩ := h.all
  match j, hj with
  | 0, hj => simp at hj; subst hj; exact h0
  | 1, hj => simp at hj; subst hj; exact h1
  | 2, hj => simp at hj; subst hj; exact h2
  | 3, hj => simp at hj; subst hj; exact h3
  | 4, hj => simp at hj; subst hj; exact h4
  | 5, hj => simp at hj; subst hj; exact h5
  | 6, hj => simp at hj; subst hj; exact h6
end
theorem OwnL.setBox {w : World} {base : Nat} {e : TypeId} {v : Value} {xs : List Hld} (ho : OwnL lay_Hold w base (some base) e v xs) {g : Nat} (hg : g < base) (t' : Chn) (A' : Option Addr) (n' c' : Nat) : OwnL lay_Hold (((((((w.setCell ⟨g, 0, none⟩ (.int .u64 t'.Id)).setCell ⟨g, 1, none⟩ (.int .u64 t'.Local)).setCell ⟨g, 2, none⟩ (.int .u64 t'.Remote)).setCell ⟨g, 3, none⟩ (.int .u64 t'.Reserve)).setCell ⟨g, 4, none⟩ (.int .u64 t'.Most)).setCell ⟨g, 5, none⟩ (.slice A' n' c')).setCell ⟨g, 6, none⟩ (.bool t'.Open)) base (some base) e v xs := (((((((ho.setLow (b := g) hg hg 0 (.int .u64 t'.Id)).setLow (b := g) hg hg 1 (.int .u64 t'.Local)).setLow (b := g) hg hg 2 (.int .u64 t'.Remote)).setLow (b := g) hg hg 3 (.int .u64 t'.Reserve)).setLow (b := g) hg hg 4 (.int .u64 t'.Most)).setLow (b := g) hg hg 5 (.slice A' n' c')).setLow (b := g) hg hg 6 (.bool t'.Open))
theorem Below.setBox {w0 w : World} {B : Nat} (h : Below B w0 w) {g : Nat} (hg : B ≤ g) (t' : Chn) (A' : Option Addr) (n' c' : Nat) : Below B w0 (((((((w.setCell ⟨g, 0, none⟩ (.int .u64 t'.Id)).setCell ⟨g, 1, none⟩ (.int .u64 t'.Local)).setCell ⟨g, 2, none⟩ (.int .u64 t'.Remote)).setCell ⟨g, 3, none⟩ (.int .u64 t'.Reserve)).setCell ⟨g, 4, none⟩ (.int .u64 t'.Most)).setCell ⟨g, 5, none⟩ (.slice A' n' c')).setCell ⟨g, 6, none⟩ (.bool t'.Open)) := (((((((h.setCell (p := ⟨g, 0, none⟩) hg (.int .u64 t'.Id)).setCell (p := ⟨g, 1, none⟩) hg (.int .u64 t'.Local)).setCell (p := ⟨g, 2, none⟩) hg (.int .u64 t'.Remote)).setCell (p := ⟨g, 3, none⟩) hg (.int .u64 t'.Reserve)).setCell (p := ⟨g, 4, none⟩) hg (.int .u64 t'.Most)).setCell (p := ⟨g, 5, none⟩) hg (.slice A' n' c')).setCell (p := ⟨g, 6, none⟩) hg (.bool t'.Open))
theorem OwnC.read {w : World} {base : Nat} {v : Value} {t : Chn} (h : OwnC w base v t) : ∃ A n c, v = .agg #[.int .u64 t.Id, .int .u64 t.Local, .int .u64 t.Remote, .int .u64 t.Reserve, .int .u64 t.Most, .slice A n c, .bool t.Open] ∧ Sl lay_Hold w (· < w.heap.size) A n c t.Holds := by
  obtain ⟨u, rfl, ho⟩ := h
  obtain ⟨A, n, c, rfl, hs⟩ := ho.read
  exact ⟨A, n, c, rfl, hs⟩

set_option maxRecDepth 100000 in
set_option maxHeartbeats 1000000 in
theorem live9_any (HC : ChannelSpec) (w : World) : Calls Try.prog 10 #[] w fun e w' => e = .returned (.bool true) ∧ Below w.heap.size w w' := by
  obtain ⟨e1, e2, e3⟩ := eg9
  have hb0 := bel_alloc (Below.refl w.heap.size w) (Obj.cells #[.int .u64 0, .int .u64 10, .int .u64 0, .int .u64 2, .int .u64 100, .slice none 0 0, .bool true] 25)
  have B0 : BoxC (w.alloc (Obj.cells #[.int .u64 0, .int .u64 10, .int .u64 0, .int .u64 2, .int .u64 100, .slice none 0 0, .bool true] 25)) w.heap.size egC none 0 0 := BoxC.new w egC none 0 0
  have ew : ChnWf egC := ⟨by decide, by decide, by decide, by decide, by decide⟩
  have P0 := hid (fun (W : World) => (show lay_Channel.rep W (· < W.heap.size) egC #[.int .u64 0, .int .u64 10, .int .u64 0, .int .u64 2, .int .u64 100, .slice none 0 0, .bool true].toList from rep_Channel.2 ⟨none, 0, 0, rfl, ew, Sl.nil _ _ _⟩))
  have H1 := hid (fun (W : World) => HC.hold #[.int .u64 0, .int .u64 10, .int .u64 0, .int .u64 2, .int .u64 100, .slice none 0 0, .bool true] egC 1 8 W (P0.out W) (by decide) (by decide))
  have H2 := hid (fun (W : World) => HC.hold #[.int .u64 0, .int .u64 10, .int .u64 0, .int .u64 2, .int .u64 100, .slice none 0 0, .bool true] egC 1 9 W (P0.out W) (by decide) (by decide))
  simp only [e1, e3] at H1
  simp only [e2] at H2
  clear e1 e2 e3
  go_enter Try.func10, Try.ntmps10
  go_wp2_with fail
  generalize w.alloc (Obj.cells #[.int .u64 0, .int .u64 10, .int .u64 0, .int .u64 2, .int .u64 100, .slice none 0 0, .bool true] 25) = W0 at *
  refine (H1.out _).mono ?_
  rintro e w1 ⟨v1, rfl, hv1, hb1⟩
  obtain ⟨A1, n1, c1, rfl, hs1⟩ := hv1.read
  have hn1 : n1 = 1 := hs1.len.symm
  subst hn1
  have hba := bel_alloc (bel_call hb0 hb1) (Obj.cells #[.int .u64 0, .int .u64 2, .int .u64 0, .int .u64 2, .int .u64 100, .slice A1 1 c1, .bool true] 25)
  have B1 : BoxC (w1.alloc (Obj.cells #[.int .u64 0, .int .u64 2, .int .u64 0, .int .u64 2, .int .u64 100, .slice A1 1 c1, .bool true] 25)) w1.heap.size ⟨0, 2, 0, 2, 100, [⟨1, 8⟩], true⟩ A1 1 c1 := BoxC.new w1 ⟨0, 2, 0, 2, 100, [⟨1, 8⟩], true⟩ A1 1 c1
  have B0' := (B0.call hb1).call (bel_alloc (Below.refl _ _) (Obj.cells #[.int .u64 0, .int .u64 2, .int .u64 0, .int .u64 2, .int .u64 100, .slice A1 1 c1, .bool true] 25))
  clear B0 hb0 hb1 hv1 hs1
  go_upto_region 3 with (fail)
  generalize w1.alloc (Obj.cells #[.int .u64 0, .int .u64 2, .int .u64 0, .int .u64 2, .int .u64 100, .slice A1 1 c1, .bool true] 25) = W1 at *
  obtain ⟨k0, k1, k2, k3, k4, k5, k6⟩ := B0'.all
  go_wp2_with fail
  refine (H2.out _).mono ?_
  rintro e w2 ⟨v2, rfl, hv2, hb2⟩
  obtain ⟨A2, n2, c2, rfl, hs2⟩ := hv2.read
  obtain ⟨-, j1, -, -, -, j5, -⟩ := (B1.call (bel_alloc hb2 (Obj.cells #[.int .u64 (hoC egC 1 9).Id, .int .u64 (hoC egC 1 9).Local, .int .u64 (hoC egC 1 9).Remote, .int .u64 (hoC egC 1 9).Reserve, .int .u64 (hoC egC 1 9).Most, .slice A2 n2 c2, .bool (hoC egC 1 9).Open] 25))).all
  have HBE := hid (bel_alloc (bel_call hba hb2) (Obj.cells #[.int .u64 (hoC egC 1 9).Id, .int .u64 (hoC egC 1 9).Local, .int .u64 (hoC egC 1 9).Remote, .int .u64 (hoC egC 1 9).Reserve, .int .u64 (hoC egC 1 9).Most, .slice A2 n2 c2, .bool (hoC egC 1 9).Open] 25))
  clear k0 k1 k2 k3 k4 k5 k6 B0' B1 hv2 hs2 hb2 hba
  go_wp2
  go_ret
  exact ⟨rfl, HBE.out⟩
end Go.Proofs.Ytakplfoahlihaaa
