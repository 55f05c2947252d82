/-
  The contract of the document's Same of layer 9.
-/
import Derived.Test.YtanlpcndbfmkiaaChannelRef2
import Derived.DeepKeys4
import Derived.Deep.QuietTactic
namespace Go.Proofs.Ytanlpcndbfmkiaa
open Go.RowKit Go.WalkArith

theorem hlCells : Try.prog.cellsOf 41 = 2 := by kernel_rfl
theorem hlCellsU : Try.prog.cellsOf 23 = 1 := by kernel_rfl
theorem hlKey : Try.prog.keyTypeAt 2 41 = true := by kernel_rfl
abbrev hldV (c : Hld) : Value := .agg #[.int .u64 c.Id, .int .u64 c.N]
theorem hlLits {c : Hld} (h : HldWf c) : Try.prog.keyLits 2 41 [.int .u64 c.Id, .int .u64 c.N] = some [.int .u64 c.Id, .int .u64 c.N] := by
  simp [Program.keyLits, Try.underlying41, hlCells, hlCellsU, Try.underlying23, h.id, h.num]
theorem hlFormed (c : Hld) : (hldV c).formed Try.prog 41 = true := by simp [Value.formed, Try.underlying41, hlCells]
/-- Two holds compared. -/
theorem run_neHld {c d : Hld} (hc : HldWf c) (hd : HldWf d) (w : World) : (binOp .neq 41 (.agg #[.int .u64 c.Id, .int .u64 c.N]) (.agg #[.int .u64 d.Id, .int .u64 d.N])).run Try.prog w = .ok (.bool (!decide (c = d))) w := by
  obtain ⟨r, hr, hi⟩ := run_equalIn_deep 9998 2 _ hlKey w 2 2 (hldV c) (hldV d) _ _ (hlFormed c) (hlFormed d) (hlLits hc) (hlLits hd)
  have h9 : (Op.equal 41 (hldV c) (hldV d)).run Try.prog w = .ok r w := hr
  have : r = decide (c = d) := by
    rw [Bool.eq_iff_iff, hi, decide_eq_true_iff]
    constructor
    · intro e
      simp only [List.cons.injEq, Lit.int.injEq, true_and, and_true] at e
      cases c; cases d; simp_all
    · rintro rfl
      rfl
  rw [← this]
  simp [binOp, h9]
theorem take_sameH {l o : List Hld} {j : Nat} (hx : j < l.length) (hy : j < o.length) (h : l.take j = o.take j) (e : l[j] = o[j]) : l.take (j + 1) = o.take (j + 1) := by
  rw [List.take_succ_eq_append_getElem hx, List.take_succ_eq_append_getElem hy, h, e]
theorem Chn.ext' {a b : Chn} (h1 : a.Id = b.Id) (h2 : a.Local = b.Local) (h3 : a.Remote = b.Remote) (h4 : a.Reserve = b.Reserve) (h5 : a.Most = b.Most) (h6 : a.Holds = b.Holds) (h7 : a.Open = b.Open) : a = b := by cases a; cases b; simp_all

set_option maxRecDepth 100000 in
set_option maxHeartbeats 4000000 in
theorem refSame9_any (s t : Array Value) (x y : Chn) (w : World) (r1 : lay_Channel.rep w (· < w.heap.size) x s.toList) (r2 : lay_Channel.rep w (· < w.heap.size) y t.toList) :
    Calls Try.prog 29 #[.agg s, .agg t] w fun e w' => e = .returned (.bool (decide (x = y))) ∧ Below w.heap.size w w' := by
  obtain ⟨A1, n1, c1, rfl, -, hs1⟩ := agg_Channel r1
  obtain ⟨A2, n2, c2, rfl, -, hs2⟩ := agg_Channel r2
  clear r1 r2
  have K1 := hid hs1.len
  have K2 := hid hs2.len
  have k1 := hs1.cap
  have k2 := hs2.cap
  unfold maxLen at k1 k2
  have hb0 : Below w.heap.size w ((w.alloc (Obj.cells #[.int .u64 x.Id, .int .u64 x.Local, .int .u64 x.Remote, .int .u64 x.Reserve, .int .u64 x.Most, .slice A1 n1 c1, .bool x.Open] 26)).alloc (Obj.cells #[.int .u64 y.Id, .int .u64 y.Local, .int .u64 y.Remote, .int .u64 y.Reserve, .int .u64 y.Most, .slice A2 n2 c2, .bool y.Open] 26)) := bel_alloc (bel_alloc (Below.refl _ _) _) _
  have BX : BoxC ((w.alloc (Obj.cells #[.int .u64 x.Id, .int .u64 x.Local, .int .u64 x.Remote, .int .u64 x.Reserve, .int .u64 x.Most, .slice A1 n1 c1, .bool x.Open] 26)).alloc (Obj.cells #[.int .u64 y.Id, .int .u64 y.Local, .int .u64 y.Remote, .int .u64 y.Reserve, .int .u64 y.Most, .slice A2 n2 c2, .bool y.Open] 26)) w.heap.size x A1 n1 c1 := heap_alloc2_old _ _ _
  have BY : BoxC ((w.alloc (Obj.cells #[.int .u64 x.Id, .int .u64 x.Local, .int .u64 x.Remote, .int .u64 x.Reserve, .int .u64 x.Most, .slice A1 n1 c1, .bool x.Open] 26)).alloc (Obj.cells #[.int .u64 y.Id, .int .u64 y.Local, .int .u64 y.Remote, .int .u64 y.Reserve, .int .u64 y.Most, .slice A2 n2 c2, .bool y.Open] 26)) (w.heap.size + 1) y A2 n2 c2 := alloc2_new _ _ _
  go_enter Try.func29, Try.ntmps29
  go_upto_region 1 with (fail)
  generalize ((w.alloc (Obj.cells #[.int .u64 x.Id, .int .u64 x.Local, .int .u64 x.Remote, .int .u64 x.Reserve, .int .u64 x.Most, .slice A1 n1 c1, .bool x.Open] 26)).alloc (Obj.cells #[.int .u64 y.Id, .int .u64 y.Local, .int .u64 y.Remote, .int .u64 y.Reserve, .int .u64 y.Most, .slice A2 n2 c2, .bool y.Open] 26)) = W0 at *
  obtain ⟨p0, p1, p2, p3, p4, p5, p6⟩ := BX.all
  obtain ⟨q0, q1, q2, q3, q4, q5, q6⟩ := BY.all
  by_cases eId : x.Id = y.Id
  rotate_left
  · have dId : (x.Id != y.Id) = true := by simpa using eId
    have HD := hid (show decide (x = y) = false from decide_eq_false fun e => eId (by rw [e]))
    clear eId
    go_wp2
    go_ret
    exact ⟨ret_bool HD.out.symm, hb0⟩
  have dId : (x.Id != y.Id) = false := by simpa using eId
  have EId := hid eId
  clear eId
  by_cases eLocal : x.Local = y.Local
  rotate_left
  · have dLocal : (x.Local != y.Local) = true := by simpa using eLocal
    have HD := hid (show decide (x = y) = false from decide_eq_false fun e => eLocal (by rw [e]))
    clear eLocal
    go_wp2
    go_ret
    exact ⟨ret_bool HD.out.symm, hb0⟩
  have dLocal : (x.Local != y.Local) = false := by simpa using eLocal
  have ELocal := hid eLocal
  clear eLocal
  by_cases eRemote : x.Remote = y.Remote
  rotate_left
  · have dRemote : (x.Remote != y.Remote) = true := by simpa using eRemote
    have HD := hid (show decide (x = y) = false from decide_eq_false fun e => eRemote (by rw [e]))
    clear eRemote
    go_wp2
    go_ret
    exact ⟨ret_bool HD.out.symm, hb0⟩
  have dRemote : (x.Remote != y.Remote) = false := by simpa using eRemote
  have ERemote := hid eRemote
  clear eRemote
  by_cases eReserve : x.Reserve = y.Reserve
  rotate_left
  · have dReserve : (x.Reserve != y.Reserve) = true := by simpa using eReserve
    have HD := hid (show decide (x = y) = false from decide_eq_false fun e => eReserve (by rw [e]))
    clear eReserve
    go_wp2
    go_ret
    exact ⟨ret_bool HD.out.symm, hb0⟩
  have dReserve : (x.Reserve != y.Reserve) = false := by simpa using eReserve
  have EReserve := hid eReserve
  clear eReserve
  by_cases eMost : x.Most = y.Most
  rotate_left
  · have dMost : (x.Most != y.Most) = true := by simpa using eMost
    have HD := hid (show decide (x = y) = false from decide_eq_false fun e => eMost (by rw [e]))
    clear eMost
    go_wp2
    go_ret
    exact ⟨ret_bool HD.out.symm, hb0⟩
  have dMost : (x.Most != y.Most) = false := by simpa using eMost
  have EMost := hid eMost
  clear eMost
  by_cases eO : x.Open = y.Open
  rotate_left
  · have eN : y.Open = !x.Open := by cases h1 : x.Open <;> cases h2 : y.Open <;> simp_all
    have HD := hid (show decide (x = y) = false from decide_eq_false fun e => eO (by rw [e]))
    rw [eN] at q6
    clear eO eN
    obtain ⟨ox, hox⟩ : ∃ z, x.Open = z := ⟨_, rfl⟩
    rw [hox] at p6 q6
    have HOX := hid hox
    clear hox
    cases ox
    · go_wp2
      go_ret
      exact ⟨ret_bool HD.out.symm, hb0⟩
    · go_wp2
      go_ret
      exact ⟨ret_bool HD.out.symm, hb0⟩
  rw [← eO] at q6
  have dO : (x.Open != x.Open) = false := by simp
  have EO := hid eO
  clear eO
  by_cases hn : n1 = n2
  rotate_left
  · have dn : ((n1 : Int) != (n2 : Int)) = true := by simp; omega
    have HD := hid (show decide (x = y) = false from decide_eq_false fun e => hn (by rw [← K1.out, ← K2.out, e]))
    go_wp2
    go_ret
    exact ⟨ret_bool HD.out.symm, hb0⟩
  subst hn
  have dn : ((n1 : Int) != (n1 : Int)) = false := by simp
  have KX := hid (fun (W : World) (h : Below W0.heap.size W0 W) => And.intro (BX.call h).all.2.2.2.2.2.1 (BY.call h).all.2.2.2.2.2.1)
  go_wp2
  clear p0 p1 p2 p3 p4 p5 p6 q0 q1 q2 q3 q4 q5 q6
  go_loopw [58] (fun i wr => ∃ j : Nat, j ≤ n1 ∧ i = .int .i64 j ∧ Hid (x.Holds.take j = y.Holds.take j) ∧ Below W0.heap.size W0 wr) (fun i _ => n1 - (intOf i).toNat)
  case atStart => exact ⟨0, Nat.zero_le _, rfl, hid rfl, Below.refl _ _⟩
  case round =>
  obtain ⟨j, hj, rfl, HP, hbel⟩ := hrel
  have hbw := bel_call hb0 hbel
  by_cases hlt : j < n1
  · obtain ⟨b1, o1, hx1, rfl, -, t1, t2, w1⟩ := hld_at (Sl.call hs1 hbw) hlt
    obtain ⟨b2, o2, hx2, rfl, -, u1, u2, w2⟩ := hld_at (Sl.call hs2 hbw) hlt
    have hne2 := run_neHld w1 w2
    clear w1 w2
    obtain ⟨p5, q5⟩ := KX.out _ hbel
    by_cases he : x.Holds[j] = y.Holds[j]
    · have HN := hid (take_sameH hx1 hx2 HP.out he)
      rw [decide_eq_true he] at hne2
      clear he
      go_wp2_with fail
      go_quiet (fail)
      go_wp2
      go_roundw
      case rel => exact ⟨j + 1, by omega, by go_num, HN, bel_drewN hbel _⟩
      case measure => simp [intOf]; omega
    · have HD := hid (show decide (x = y) = false from decide_eq_false fun e => he (by simp only [e]))
      rw [decide_eq_false he] at hne2
      clear he
      go_wp2_with fail
      go_quiet (fail)
      go_wp2
      go_ret
      exact ⟨ret_bool HD.out.symm, bel_drewN hbw _⟩
  · have HD := hid (show decide (x = y) = true from by
      have := HP.out
      rw [List.take_of_length_le (by rw [K1.out]; omega), List.take_of_length_le (by rw [K2.out]; omega)] at this
      exact decide_eq_true (Chn.ext' EId.out ELocal.out ERemote.out EReserve.out EMost.out this EO.out))
    go_wp2
    go_ret
    exact ⟨ret_bool HD.out.symm, hbw⟩
end Go.Proofs.Ytanlpcndbfmkiaa
