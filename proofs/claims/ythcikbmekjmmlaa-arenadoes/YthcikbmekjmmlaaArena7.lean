/-
  The contract of package arena's Path, and of slices.Reverse at texts.
-/
import Derived.Test.YthcikbmekjmmlaaArena6
import Derived.Test.YthcikbmekjmmlaaArenaRef7
namespace Go.Proofs.Ythcikbmekjmmlaa
open Go.RowKit Go.WalkArith

theorem RepRow.rev {α : Type} {L : Lay α} {w : World} {S : Nat → Prop} (h1 : L.size = 1) {xs : List α} {cs : List Value} (h : RepRow L w S xs cs) : RepRow L w S xs.reverse cs.reverse := by
  induction xs generalizing cs with
  | nil => simp [RepRow] at h; subst h; simp [RepRow]
  | cons x xs ih =>
    obtain ⟨c1, c2, rfl, h2, h3⟩ := h
    have hl := L.len h2
    rw [h1] at hl
    obtain ⟨u, rfl⟩ := List.length_eq_one_iff.1 hl
    rw [List.reverse_cons, List.reverse_append]
    exact (ih h3).append (RepRow.single h2)
/-- Half turned: up to i from both ends. -/
def Half (cs ds : List Value) (i : Nat) : Prop := ds.length = cs.length ∧ ∀ p, p < cs.length → ds[p]? = if p < i ∨ cs.length - i ≤ p then cs[cs.length - 1 - p]? else cs[p]?
theorem half_start (cs : List Value) : Half cs cs 0 := ⟨rfl, fun p hp => by rw [if_neg (by omega)]⟩
theorem half_end {cs ds : List Value} {i : Nat} (h : Half cs ds i) (hi : cs.length ≤ 2 * i + 1) : ds = cs.reverse := by
  apply List.ext_getElem?
  intro p
  by_cases hp : p < cs.length
  · rw [h.2 p hp, List.getElem?_reverse hp]
    by_cases c : p < i ∨ cs.length - i ≤ p
    · rw [if_pos c]
    · rw [if_neg c]
      have : cs.length - 1 - p = p := by omega
      rw [this]
  · rw [List.getElem?_eq_none (by rw [h.1]; omega), List.getElem?_eq_none (by simp; omega)]
theorem half_step {cs ds : List Value} {i : Nat} (h : Half cs ds i) (hi : 2 * i + 1 < cs.length) {u v : Value} (hu : cs[i]? = some u) (hv : cs[cs.length - 1 - i]? = some v) : Half cs ((ds.set i v).set (cs.length - 1 - i) u) (i + 1) := by
  have hl := h.1
  refine ⟨by simp [hl], fun p hp => ?_⟩
  rw [List.getElem?_set, List.getElem?_set]
  by_cases p1 : cs.length - 1 - i = p
  · rw [if_pos p1, if_pos (by simp; omega), if_pos (by omega), ← hu]
    congr 1
    omega
  · rw [if_neg p1]
    by_cases p2 : i = p
    · rw [if_pos p2, if_pos (by omega), if_pos (by omega), ← hv]
      congr 1
      omega
    · rw [if_neg p2, h.2 p hp]
      by_cases c : p < i ∨ cs.length - i ≤ p
      · rw [if_pos c, if_pos (by omega)]
      · rw [if_neg c, if_neg (by omega)]
theorem half_at {cs ds : List Value} {i : Nat} (h : Half cs ds i) {p : Nat} (h1 : i ≤ p) (h2 : p < cs.length - i) : ds[p]? = cs[p]? := by rw [h.2 p (by omega), if_neg (by omega)]

set_option maxRecDepth 100000 in
set_option maxHeartbeats 2000000 in
theorem reverse_any (g n cap base : Nat) (cs : List Value) (w : World) (h : w.ownsRow base 26 1 (.slice (some ⟨g, 0, none⟩) n cap) n cs) (hn : n ≤ 2097152) (hsl : ∀ x ∈ cs, ∃ A n c, x = .slice A n c) :
    Calls Try.prog 38 #[.slice (some ⟨g, 0, none⟩) n cap] w fun e w' => e = .returned (.tuple #[]) ∧ w'.ownsRow base 26 1 (.slice (some ⟨g, 0, none⟩) n cap) n cs.reverse ∧ w.grownBy w' (some g) := by
  have hcl : cs.length = n := by have := h.1; omega
  have HC := hid hcl
  have HSL := hid hsl
  clear hsl
  have wn : IntKind.i64.wrap ((n : Int) - 1) = (n : Int) - 1 := IntWalk.i64_in _ (by omega)
  go_enter Try.func38, Try.ntmps38
  go_wp2
  go_loopw [2, 3] (fun a b wr => ∃ (i : Nat) (ds : List Value), i ≤ n ∧ 2 * i ≤ n + 1 ∧ a = .int .i64 i ∧ b = .int .i64 ((n : Int) - 1 - i) ∧ Half cs ds i ∧ wr.ownsRow base 26 1 (.slice (some ⟨g, 0, none⟩) n cap) n ds ∧ w.grownBy wr (some g)) (fun a b _ => (intOf b - intOf a + 1).toNat)
  case atStart => exact ⟨0, cs, Nat.zero_le _, by omega, rfl, by simp, half_start cs, h, ⟨rfl, rfl, rfl, Nat.le_refl _, fun _ _ _ => rfl⟩⟩
  case round =>
    obtain ⟨i, ds, hi, hi2, rfl, rfl, hhalf, hown, hgr⟩ := hrel
    have HH := hid hhalf
    have HG := hid hgr
    have HO := hid hown
    clear hhalf hgr hown h hcl
    by_cases hlt : (i : Int) < (n : Int) - 1 - i
    · obtain ⟨jn, hjn⟩ : ∃ jn : Nat, (n : Int) - 1 - i = jn := ⟨n - 1 - i, by omega⟩
      rw [hjn] at hlt ⊢
      have hjn' : n - 1 - i = jn := by omega
      have hlt' : i < jn := by omega
      have hil : i < cs.length := by rw [HC.out]; omega
      have hjl : jn < cs.length := by rw [HC.out]; omega
      obtain ⟨u, hu⟩ : ∃ u, cs[i]? = some u := ⟨_, List.getElem?_eq_getElem hil⟩
      obtain ⟨v, hv⟩ : ∃ v, cs[jn]? = some v := ⟨_, List.getElem?_eq_getElem hjl⟩
      have c1 : wr.cell? ⟨g, i, none⟩ = some u := by rw [HO.out.cellAt i (by omega), half_at HH.out (Nat.le_refl _) (by rw [HC.out]; omega), hu]
      have c2 : wr.cell? ⟨g, jn, none⟩ = some v := by rw [HO.out.cellAt jn (by omega), half_at HH.out (by omega) (by rw [HC.out]; omega), hv]
      have f1 := HO.out.frozenAt i
      have f2 := HO.out.frozenAt jn
      obtain ⟨Au, nu, cu, rfl⟩ := HSL.out u (List.mem_of_getElem? hu)
      obtain ⟨Av, nv, cv, rfl⟩ := HSL.out v (List.mem_of_getElem? hv)
      have HN := hid (half_step HH.out (by rw [HC.out]; omega) hu (by rw [HC.out, hjn']; exact hv))
      rw [HC.out, hjn'] at HN
      have HG1 := hid (fun (W : World) (h : W.heap = wr.heap) (h2 : W.os = wr.os) (h3 : W.tape = wr.tape) (h4 : W.output = wr.output) => (show ((W.setCell ⟨g, i, none⟩ (.slice Av nv cv)).setCell ⟨g, jn, none⟩ (.slice Au nu cu)).ownsRow base 26 1 (.slice (some ⟨g, 0, none⟩) n cap) n ((ds.set i (.slice Av nv cv)).set jn (.slice Au nu cu)) ∧ w.grownBy ((W.setCell ⟨g, i, none⟩ (.slice Av nv cv)).setCell ⟨g, jn, none⟩ (.slice Au nu cu)) (some g) from by
        have e : W.ownsRow base 26 1 (.slice (some ⟨g, 0, none⟩) n cap) n ds := by
          have := HO.out
          unfold World.ownsRow at this ⊢
          rw [h]
          exact this
        refine ⟨((e.stored i _).1.stored jn _).1, ?_⟩
        have k1 := (e.stored i (.slice Av nv cv)).2
        have k2 := ((e.stored i (.slice Av nv cv)).1.stored jn (.slice Au nu cu)).2
        have k0 := HG.out
        refine ⟨k2.os.trans (k1.os.trans (h2.trans k0.os)), k2.tape.trans (k1.tape.trans (h3.trans k0.tape)), k2.output.trans (k1.output.trans (h4.trans k0.output)), Nat.le_trans k0.size (by rw [← h]; exact Nat.le_trans k1.size k2.size), fun b hb hne => ?_⟩
        have hb1 : b < W.heap.size := by rw [h]; exact Nat.lt_of_lt_of_le hb k0.size
        rw [k2.block b (Nat.lt_of_lt_of_le hb1 k1.size) hne, k1.block b hb1 hne, h, k0.block b hb hne]))
      clear hu hv
      go_wp2_with fail
      go_region
      go_wp2
      go_roundw
      case rel => exact ⟨i + 1, _, by omega, by omega, by go_num, congrArg (Value.int .i64) (by omega), HN.out, (HG1.out wr.drew rfl rfl rfl rfl).1, (HG1.out wr.drew rfl rfl rfl rfl).2⟩
      case measure => simp [intOf]; omega
    · have hd : decide ((i : Int) < (n : Int) - 1 - i) = false := by simp; omega
      have HE := hid (half_end HH.out (by rw [HC.out]; omega))
      go_wp2
      go_end0
      exact ⟨rfl, by rw [← HE.out]; exact HO.out, HG.out⟩
end Go.Proofs.Ythcikbmekjmmlaa
