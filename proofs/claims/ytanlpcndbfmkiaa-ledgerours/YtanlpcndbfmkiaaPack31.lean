/-
  Elements of any size copied into a row that is known whole; a row into which one has been put.
-/
import Derived.Laws.CopyRow
import Derived.Test.YtanlpcndbfmkiaaPack1
import Derived.Test.YtanlpcndbfmkiaaPack2
import Derived.Test.YtanlpcndbfmkiaaPack3
import Derived.Test.YtanlpcndbfmkiaaPack4
import Derived.Test.YtanlpcndbfmkiaaPack5
import Derived.Test.YtanlpcndbfmkiaaPack6
import Derived.Test.YtanlpcndbfmkiaaPack7
import Derived.Test.YtanlpcndbfmkiaaPack8
import Derived.Test.YtanlpcndbfmkiaaPack9
import Derived.Test.YtanlpcndbfmkiaaPack10
import Derived.Test.YtanlpcndbfmkiaaPack11
import Derived.Test.YtanlpcndbfmkiaaPack12
import Derived.Test.YtanlpcndbfmkiaaPack13
import Derived.Test.YtanlpcndbfmkiaaPack14
import Derived.Test.YtanlpcndbfmkiaaPack15
import Derived.Test.YtanlpcndbfmkiaaPack16
import Derived.Test.YtanlpcndbfmkiaaPack17
import Derived.Test.YtanlpcndbfmkiaaPack18
import Derived.Test.YtanlpcndbfmkiaaPack19
import Derived.Test.YtanlpcndbfmkiaaPack20
import Derived.Test.YtanlpcndbfmkiaaPack21
import Derived.Test.YtanlpcndbfmkiaaPack22
import Derived.Test.YtanlpcndbfmkiaaPack23
import Derived.Test.YtanlpcndbfmkiaaPack24
import Derived.Test.YtanlpcndbfmkiaaPack25
import Derived.Test.YtanlpcndbfmkiaaPack26
import Derived.Test.YtanlpcndbfmkiaaPack27
import Derived.Test.YtanlpcndbfmkiaaPack28
import Derived.Test.YtanlpcndbfmkiaaPack29
import Derived.Test.YtanlpcndbfmkiaaPack30
namespace Go.Proofs.Ytanlpcndbfmkiaa
open Go.RowKit Go.WalkArith

theorem run_copyS {P : Program} (w : World) (dT sT ty elem : TypeId) (size g o dLen dCap : Nat) (a : Addr) (sLen sCap : Nat) (cur : Array Value) (t : TypeId) (cs : List Value)
    (hu : P.underlying dT = some (.slice elem)) (hs : (P.info? elem).map (·.size) = some size)
    (hg : w.heap[g]? = some (.cells cur t (0, 0))) (hn : cs.length = Nat.min sLen dLen * size)
    (hsrc : ∀ j v, cs[j]? = some v → w.cell? (a.add j) = some v) (hfit : o + cs.length ≤ cur.size) (h1 : ∀ v ∈ cs, v.oneCell' = true) :
    (Builtin.copy_ #[dT, sT] ty #[.slice (some ⟨g, o, none⟩) dLen dCap, .slice (some a) sLen sCap]).run P w =
      .ok (goInt (Nat.min sLen dLen)) (w.setRow g (cur.toList.take o ++ cs ++ cur.toList.drop (o + cs.length)).toArray) := by
  have hl := run_loadCells_list (P := P) w a cs hsrc
  rw [hn] at hl
  have hst := run_storeCells_at P g o t cs 0 cur w hg (by simpa using hfit) h1
  cases hq : P.info? elem with
  | none => simp [hq] at hs
  | some i =>
    have hi : i.size = size := by simpa [hq] using hs
    simp [Builtin.copy_, run_underlying hu, Builtin.lenOf, Builtin.firstCells, sizeOf, typeInfo, hq, hi, hl, hst]

/-- 'copy(d, s)' for the walk, where its run is known by an equation. -/
theorem wpList_copyS {P : Program} {w : World} {ops : Array Oper} {rest : List Oper} {o : Oper} {a : Act} {Q : Exit → Act → World → Prop} (hgd : o.guard = none) (d s : Operand) (t t' : TypeId)
    (ho : o.op = .call { callee := .builtin .copy, args := #[d, s], argTypes := #[t, t'] }) (v u : Value) (hd : a.eval d = v) (hs : a.eval s = u) {v' : Value} {w' : World}
    (hr : ∀ ty, (Builtin.copy_ #[t, t'] ty #[v, u]).run P w = .ok v' w') (h : wpList P ops Q rest (a.put o.dst v') w') : wpList P ops Q (o :: rest) a w := by
  refine wpList_plain hgd fun K hK => ?_
  unfold Oper.wp execOp
  simp only [ho, resolve, invoke, builtin, Sem.run_bind, Sem.run_pure, Result.andThen_ok, List.map_toArray, List.map_cons, List.map_nil, hd, hs, hr]
  exact hK _ _ h
theorem step_copyS {P : Program} {ops : Array Oper} {o : Oper} {a : Act} {w : World} {K : Act → World → Prop} {Q : Exit → Act → World → Prop} {E : Prop}
    (hg : o.guard = none) (d x : Operand) (dT sT : TypeId) (hop : o.op = Op.call { callee := Callee.builtin Builtin.copy, args := #[d, x], argTypes := #[dT, sT] })
    (v u : Value) (hd : a.eval d = v) (hx : a.eval x = u) {v' : Value} {w' : World} (hr : ∀ ty, (Builtin.copy_ #[dT, sT] ty #[v, u]).run P w = .ok v' w') (hK : K (a.put o.dst v') w') :
    if Region.wanted o (yielded ops a.tmps) = true then Oper.wp P o a w K Q else E := by
  have hw : Region.wanted o (yielded ops a.tmps) = true := by simp [Region.wanted, hg]
  rw [if_pos hw]
  unfold Oper.wp
  simp [execOp, hop, resolve, invoke, builtin, hd, hx, hr, Result.andThen]
  exact hK

/-- What lies in a row of one's own behind two copies: all from place i on, one further; then x, at place i. -/
def shiftS (size i : Nat) (cur cs : List Value) : List Value := cur.take ((i + 1) * size) ++ cs.drop (i * size) ++ cur.drop ((i + 1) * size + (cs.drop (i * size)).length)
def putS (size i : Nat) (cur cx : List Value) : List Value := cur.take (i * size) ++ cx ++ cur.drop (i * size + cx.length)
theorem shift_len {size i n m : Nat} {cur cs : List Value} (hc : cs.length = n * size) (hi : i ≤ n) (hm : cur.length = m * size) (hn : n < m) : (shiftS size i cur cs).length = m * size := by
  have h1 : (n + 1) * size ≤ m * size := Nat.mul_le_mul_right _ hn
  have h2 : i * size ≤ n * size := Nat.mul_le_mul_right _ hi
  rw [Nat.add_mul] at h1
  unfold shiftS
  simp only [List.length_append, List.length_take, List.length_drop, hc, hm, Nat.add_mul]
  omega
/-- The cells behind both. -/
theorem put_shift {size i n m : Nat} {cur cs cx : List Value} (hc : cs.length = n * size) (hx : cx.length = size) (hi : i ≤ n) (hm : cur.length = m * size) (hn : n < m) (ht : cur.take (i * size) = cs.take (i * size)) :
    (putS size i (shiftS size i cur cs) cx).length = m * size ∧ (putS size i (shiftS size i cur cs) cx).take ((n + 1) * size) = cs.take (i * size) ++ cx ++ cs.drop (i * size) := by
  have h1 : (n + 1) * size ≤ m * size := Nat.mul_le_mul_right _ hn
  have h2 : i * size ≤ n * size := Nat.mul_le_mul_right _ hi
  have hl := shift_len hc hi hm hn
  rw [Nat.add_mul] at h1
  have e1 : (shiftS size i cur cs).take (i * size) = cs.take (i * size) := by
    rw [← ht]
    unfold shiftS
    rw [List.append_assoc, List.take_append_of_le_length (by rw [List.length_take, hm, Nat.add_mul]; omega), List.take_take, Nat.min_eq_left (by rw [Nat.add_mul]; omega)]
  have e2 : (shiftS size i cur cs).drop (i * size + cx.length) = cs.drop (i * size) ++ cur.drop ((i + 1) * size + (cs.drop (i * size)).length) := by
    unfold shiftS
    rw [List.append_assoc, List.drop_append, List.drop_of_length_le (by rw [List.length_take, hx, hm, Nat.add_mul]; omega), List.nil_append]
    rw [List.length_take, hm, hx, show i * size + size - min ((i + 1) * size) (m * size) = 0 from by rw [Nat.add_mul]; omega, List.drop_zero]
  unfold putS
  rw [e1, e2]
  constructor
  · simp only [List.length_append, List.length_take, List.length_drop, hc, hm, hx, Nat.add_mul]
    omega
  · rw [← List.append_assoc, List.take_append_of_le_length (by simp only [List.length_append, List.length_take, List.length_drop, hc, hx, Nat.add_mul]; omega), List.take_of_length_le (by simp only [List.length_append, List.length_take, List.length_drop, hc, hx, Nat.add_mul]; omega)]

section
variable {α : Type} {L : Lay α} {base : Nat} {lo : Option Nat} {e : TypeId} {g n cap : Nat} {xs : List α} {x : α}
/-- A row into which x has been put at place i. -/
theorem rows_put {w : World} {S : Nat → Prop} {cs cx : List Value} (h : RepRow L w S xs cs) (hx : L.rep w S x cx) (i : Nat) : RepRow L w S (xs.take i ++ [x] ++ xs.drop i) (cs.take (i * L.size) ++ cx ++ cs.drop (i * L.size)) :=
  ((h.take i).append (RepRow.single hx)).append (h.drop i)
end
end Go.Proofs.Ytanlpcndbfmkiaa
