/-
  What is taken out of an owned row of one's own: 'clear(s[k:])', then 's[:k]'; a func value entered.
-/
import Derived.Test.YtannjlejghmfpaaMix
import Derived.Test.YtannjlejghmfpaaStd
import Derived.Lib.SliceRun
namespace Go.Proofs.Ytannjlejghmfpaa
open Go.RowKit Go.WalkArith

theorem enter_any {f : FuncId} {fn : Func} {c : Code} (hf : Try.prog.funcs[f]? = some fn) (hname : (fn.name == "runtime.NumGoroutine") = false) (hb : fn.body = some c) (args : Array Value) (w : World) : (callFunc f args).run Try.prog w = .ok (.enter f args) w := by
  have h1 : fn.name ≠ "runtime.NumGoroutine" := by simpa using hname
  simp [callFunc, hf, h1, hb]
theorem setCells_from (b : Nat) : ∀ (vs : List Value) (o : Nat) (w : World), w.setCells b o vs = setFrom w b o vs
  | [], _, _ => rfl
  | _ :: vs, o, _ => setCells_from b vs (o + 1) _
theorem putL_take : ∀ (vs : List Value) (i : Nat) (cs : List Value) (k : Nat), k ≤ i → (putL cs i vs).take k = cs.take k
  | [], _, _, _, _ => rfl
  | v :: vs, i, cs, k, h => by
    unfold putL
    rw [putL_take vs (i + 1) _ k (by omega), List.take_set_of_le (by omega)]
theorem putL_length : ∀ (vs : List Value) (i : Nat) (cs : List Value), (putL cs i vs).length = cs.length
  | [], _, _ => rfl
  | v :: vs, i, cs => by
    unfold putL
    rw [putL_length vs (i + 1) _, List.length_set]
section
variable {α : Type} {L : Lay α} {w : World} {base g n cap : Nat} {lo : Option Nat} {e : TypeId} {xs : List α}
theorem OwnL.cutPut (h : OwnL L w base lo e (.slice (some ⟨g, 0, none⟩) n cap) xs) {k : Nat} (hk : k ≤ xs.length) (vs : List Value) :
    OwnL L (setFrom w g (k * L.size) vs) base lo e (.slice (some ⟨g, 0, none⟩) k cap) (xs.take k) := by
  have hn := h.num
  obtain ⟨cs, h1, h2⟩ := h
  rw [hn] at h1
  have h3 := ownsRow_setFrom vs (k * L.size) w _ h1
  have hle : k * L.size ≤ n * L.size := Nat.mul_le_mul_right _ (by omega)
  have hl : (xs.take k).length = k := by rw [List.length_take]; omega
  refine ⟨cs.take (k * L.size), ?_, ?_⟩
  · rw [hl]
    obtain ⟨h4, h5⟩ := h3
    rcases h5 with ⟨h6, -⟩ | ⟨g', cap', cur, h6, hbg, hg, hnc, hcm, hcs, htake⟩
    · simp at h6
    · simp only [Value.slice.injEq] at h6
      obtain ⟨h6, -, rfl⟩ := h6
      injection h6 with h6
      injection h6 with h6
      subst h6
      refine ⟨by rw [List.length_take]; rw [putL_length] at h4; omega, .inr ⟨g, cap, cur, rfl, hbg, hg, by omega, hcm, hcs, ?_⟩⟩
      rw [← putL_take vs (k * L.size) cs _ (Nat.le_refl _), ← htake, List.take_take, Nat.min_eq_left hle]
  · exact ((h2.take k).setFrom (g := g) rfl vs _ : _)
theorem OwnL.cellSome (h : OwnL L w base lo e (.slice (some ⟨g, 0, none⟩) n cap) xs) {j : Nat} (hj : j < n * L.size) : (w.cell? ⟨g, j, none⟩).isSome = true ∧ w.frozen? ⟨g, j, none⟩ = false := by
  have hn := h.num
  obtain ⟨cs, h1, -⟩ := h
  rw [hn] at h1
  refine ⟨?_, h1.frozenAt j⟩
  rw [h1.cellAt j hj]
  have := h1.1
  simp; omega
/-- 'clear' of a slice of elements of whatever size. -/
theorem run_clearL {P : Program} {b sz bytes : Nat} {z : Value} (t ty : TypeId) (ht : P.underlying t = some (.slice e)) (hi : (P.info? e).map (fun i => (i.zero, i.size, i.bytes)) = some (some z, sz, bytes)) (h1 : ∀ v ∈ z.cells.toList, v.oneCell' = true) (hz : z.cells.size = sz) (o n c : Nat) (hn : 0 < n) (w : World)
    (hc : ∀ j, j < n * sz → (w.cell? ⟨b, o + j, none⟩).isSome = true) (hf : ∀ j, j < n * sz → w.frozen? ⟨b, o + j, none⟩ = false) :
    (Builtin.clear_ #[t] ty #[.slice (some ⟨b, o, none⟩) n c]).run P w = .ok (.tuple #[]) (setFrom w b o (Builtin.zeroCells z.cells n).toList) := by
  obtain ⟨i, hi, hz0, hz1, hz2⟩ := info_parts hi
  have hv : (zeroValue e).run P w = .ok z w := by simp [zeroValue, typeInfo, hi, hz0]
  have hlen : (Builtin.zeroCells z.cells n).toList.length = n * sz := by rw [Array.length_toList, size_zeroCells, hz]
  have hst := run_storeCells_cells (P := P) b o (Builtin.zeroCells z.cells n).toList 0 w (by rw [hlen]; simpa using hc) (by rw [hlen]; simpa using hf) (by
    intro v hv'
    simp only [Builtin.zeroCells, Array.toList_map, List.mem_map] at hv'
    obtain ⟨q, hq, rfl⟩ := hv'
    have hs : 0 < z.cells.size := by
      rcases Nat.eq_zero_or_pos z.cells.size with h0 | h0
      · rw [h0] at hq; simp at hq
      · exact h0
    have hlt := Nat.mod_lt q hs
    rw [getElem!_pos z.cells (q % z.cells.size) hlt]
    exact h1 _ (by simp))
  rw [setCells_from, Nat.add_zero] at hst
  obtain ⟨m, rfl⟩ : ∃ m, n = m + 1 := ⟨n - 1, by omega⟩
  simp [Builtin.clear_, run_underlying ht, hv, hst]
theorem clear_own {P : Program} {bytes : Nat} {z : Value} (h : OwnL L w base lo e (.slice (some ⟨g, 0, none⟩) n cap) xs) (t : TypeId) (ht : P.underlying t = some (.slice e)) (hi : (P.info? e).map (fun i => (i.zero, i.size, i.bytes)) = some (some z, L.size, bytes)) (h1 : ∀ v ∈ z.cells.toList, v.oneCell' = true) (hz : z.cells.size = L.size) {k c : Nat} (hk : k < n) :
    ∃ vs, ∀ ty, (Builtin.clear_ #[t] ty #[.slice (some ⟨g, k * L.size, none⟩) (n - k) c]).run P w = .ok (.tuple #[]) (setFrom w g (k * L.size) vs) := by
  have hle : k * L.size + (n - k) * L.size = n * L.size := by rw [← Nat.add_mul]; congr 1; omega
  exact ⟨_, fun ty => run_clearL t ty ht hi h1 hz (k * L.size) (n - k) c (by omega) w (fun j hj => (h.cellSome (by omega)).1) (fun j hj => (h.cellSome (by omega)).2)⟩
/-- What a row of one's own holds while what p tells is taken out of it: so far up to j, so many are left as i. -/
def DelAt (p : α → Bool) (l ys : List α) (i j : Nat) : Prop := ys.length = l.length ∧ i < j ∧ j ≤ l.length ∧ ys.take i = (l.take j).filter (fun x => !p x) ∧ ys.drop j = l.drop j
section
variable {p : α → Bool} {l ys : List α} {i j : Nat}
theorem DelAt.start (hk : j < l.length) (hp : p l[j] = true) (hb : ∀ x ∈ l.take j, p x = false) : DelAt p l l j (j + 1) := by
  refine ⟨rfl, Nat.lt_succ_self _, hk, ?_, rfl⟩
  rw [List.take_succ_eq_append_getElem hk, List.filter_append, List.filter_eq_self.2 fun x hx => by rw [hb x hx]; rfl]
  simp [hp]
theorem DelAt.elem (h : DelAt p l ys i j) (hj : j < l.length) : ∃ hy : j < ys.length, ys[j] = l[j] := by
  have hy : j < ys.length := by rw [h.1]; exact hj
  refine ⟨hy, ?_⟩
  have h5 := h.2.2.2.2
  rw [List.drop_eq_getElem_cons hy, List.drop_eq_getElem_cons hj] at h5
  exact (List.cons.inj h5).1
theorem DelAt.rest (h : DelAt p l ys i j) (hj : j < l.length) : ys.drop (j + 1) = l.drop (j + 1) := by
  have hy : j < ys.length := by rw [h.1]; exact hj
  have h5 := h.2.2.2.2
  rw [List.drop_eq_getElem_cons hy, List.drop_eq_getElem_cons hj] at h5
  exact (List.cons.inj h5).2
theorem DelAt.skip (h : DelAt p l ys i j) (hj : j < l.length) (hp : p l[j] = true) : DelAt p l ys i (j + 1) := by
  refine ⟨h.1, by have := h.2.1; omega, hj, ?_, h.rest hj⟩
  rw [List.take_succ_eq_append_getElem hj, List.filter_append, h.2.2.2.1]
  simp [hp]
theorem DelAt.put (h : DelAt p l ys i j) (hj : j < l.length) (hp : p l[j] = false) : DelAt p l (ys.set i l[j]) (i + 1) (j + 1) := by
  have hi := h.2.1
  have hl := h.1
  refine ⟨by rw [List.length_set]; exact h.1, by omega, hj, ?_, ?_⟩
  · rw [List.take_succ_eq_append_getElem hj, List.filter_append, ← h.2.2.2.1, List.take_succ_eq_append_getElem (by rw [List.length_set]; omega), List.take_set_of_le (Nat.le_refl _), List.getElem_set_self]
    simp [hp]
  · rw [List.drop_set_of_lt (by omega)]
    exact h.rest hj
theorem DelAt.done (h : DelAt p l ys i j) (hj : j = l.length) : ys.take i = l.filter (fun x => !p x) := by
  have h4 := h.2.2.2.1
  rw [hj, List.take_length] at h4
  exact h4
end
/-- Where the first one lies of which p tells; none: -1. -/
def IdxF (p : α → Bool) (l : List α) (r : Int) : Prop := (r = -1 ∧ ∀ x ∈ l, p x = false) ∨ ∃ k : Nat, r = (k : Int) ∧ ∃ hk : k < l.length, p l[k] = true ∧ ∀ x ∈ l.take k, p x = false
end
end Go.Proofs.Ytannjlejghmfpaa
