/-
  Package channel: Held, Check, All, Room, Same.
-/
import Derived.Test.YtanlpcndbfmkiaaPack1
import Derived.Test.YtanlpcndbfmkiaaPack2
import Derived.Test.YtanlpcndbfmkiaaPack3
import Derived.Test.YtanlpcndbfmkiaaPack4
import Derived.Test.YtanlpcndbfmkiaaPack5
import Derived.Test.YtanlpcndbfmkiaaPack6
import Derived.Test.YtanlpcndbfmkiaaPack7
import Derived.Test.YtanlpcndbfmkiaaPack8
import Derived.Test.YtanlpcndbfmkiaaPack9
import Derived.Test.YtanlpcndbfmkiaaPack10
import Derived.Test.YtanlpcndbfmkiaaPack11
import Derived.Test.YtanlpcndbfmkiaaPack12
import Derived.Test.YtanlpcndbfmkiaaPack13
import Derived.Test.YtanlpcndbfmkiaaPack14
import Derived.Test.YtanlpcndbfmkiaaPack15
import Derived.Test.YtanlpcndbfmkiaaPack16
import Derived.Test.YtanlpcndbfmkiaaPack17
namespace Go.Proofs.Ytanlpcndbfmkiaa
open Go.RowKit Go.WalkArith

theorem tgh_of {c : Chn} (h : ChOk c) : TghOk c.Holds := ⟨h.2.2.1, h.2.2.2.2.1, h.2.2.2.2.2.1, h.2.2.2.2.2.2.1, Int.le_trans h.2.2.2.2.2.2.2.1 h.2.1⟩

set_option maxRecDepth 100000 in
set_option maxHeartbeats 4000000 in
theorem cHeld_any (s : Array Value) (c : Chn) (w : World) (r : lay_Channel.rep w (· < w.heap.size) c s.toList) :
    Calls Try.prog 65 #[.agg s] w fun e w' => e = .returned (.tuple #[.int .u64 (heV c), .int .i64 (chE c)]) ∧ Below w.heap.size w w' := by
  obtain ⟨A, n, k, rfl, hw, hs⟩ := agg_Channel r
  clear r
  have HL := hid hs.len
  have hcap := hs.cap
  unfold maxLen at hcap
  have hb0 : Below w.heap.size w (w.alloc (Obj.cells #[.int .u64 c.Id, .int .u64 c.Local, .int .u64 c.Remote, .int .u64 c.Reserve, .int .u64 c.Most, .slice A n k, .bool c.Open] 26)) := bel_alloc (Below.refl _ _) _
  have B0 := BoxC.new w c A n k
  go_enter Try.func65, Try.ntmps65
  go_wp2_with fail
  generalize w.alloc (Obj.cells #[.int .u64 c.Id, .int .u64 c.Local, .int .u64 c.Remote, .int .u64 c.Reserve, .int .u64 c.Most, .slice A n k, .bool c.Open] 26) = W0 at *
  refine (together_any _ _ _ c.Holds _ (Sl.call hs hb0)).mono ?_
  rintro e w1 ⟨rfl, hb1⟩
  have HB := bel_call hb0 hb1
  have B1 := B0.call hb1
  clear B0 hb0 hb1
  have HN := hid (fun (q : ¬ ChOk c) => (And.intro (if_neg q) (if_neg q) : chE c = 1 ∧ heV c = 0))
  by_cases ht : TghOk c.Holds
  rotate_left
  · have HE := hid (HN.out fun q => ht (tgh_of q))
    rw [show tghE c.Holds = 1 from if_neg ht, show tghV c.Holds = 0 from if_neg ht]
    clear ht
    go_wp2
    go_ret2
    exact ⟨by rw [HE.out.1, HE.out.2]; rfl, HB⟩
  rw [show tghE c.Holds = 0 from if_pos ht, show tghV c.Holds = heldN c from if_pos ht]
  have HT := hid ht
  have h0 : 0 ≤ heldN c := held_nonneg (sl_hlds hs)
  have h1 : heldN c ≤ 4611686018427387904 := ht.2.2.2.2
  have hn64 : n ≤ 64 := by rw [← HL.out]; exact ht.1
  have wfh : (Lit.int .u64 (heldN c)).wf = true := wf_u64 (by omega)
  clear ht
  obtain ⟨hn, hhn⟩ : ∃ z, heldN c = z := ⟨_, rfl⟩
  have HH := hid hhn
  rw [hhn] at h0 h1 wfh ⊢
  clear hhn
  go_upto_region 2 with (fail)
  go_cut [33] from 15 to 33 (fun q wc => q = .bool (decide (c.Most < hn ∨ (c.Open = false ∧ 0 < n))) ∧ BoxC wc w.heap.size c A n k ∧ Below w.heap.size w wc)
  case first =>
    obtain ⟨p0, p1, p2, p3, p4, p5, p6⟩ := B1.all
    by_cases g1 : c.Most < hn
    · have HD := hid (show decide (c.Most < hn ∨ (c.Open = false ∧ 0 < n)) = true from decide_eq_true (.inl g1))
      have d1 : decide (c.Most < hn) = true := decide_eq_true g1
      clear g1
      go_wp2_with fail
      go_meet
      case rel => exact ⟨by rw [HD.out], B1, HB⟩
    have d1 : decide (c.Most < hn) = false := decide_eq_false g1
    obtain ⟨o, ho⟩ : ∃ z, c.Open = z := ⟨_, rfl⟩
    rw [ho] at p6
    have HO := hid ho
    clear ho
    cases o
    · by_cases g3 : 0 < n
      · have HD := hid (show decide (c.Most < hn ∨ (c.Open = false ∧ 0 < n)) = true from decide_eq_true (.inr ⟨HO.out, g3⟩))
        have d3 : decide ((0 : Int) < (n : Int)) = true := by simp; omega
        have d3' : decide (0 < n) = true := decide_eq_true g3
        clear g1
        go_wp2_with fail
        go_meet
        case rel => exact ⟨by rw [HD.out], B1, HB⟩
      · have HD := hid (show decide (c.Most < hn ∨ (c.Open = false ∧ 0 < n)) = false from decide_eq_false fun h => h.elim g1 fun q => g3 q.2)
        have d3 : decide ((0 : Int) < (n : Int)) = false := by simp; omega
        have d3' : decide (0 < n) = false := decide_eq_false g3
        clear g1
        go_wp2_with fail
        go_meet
        case rel => exact ⟨by rw [HD.out], B1, HB⟩
    · have HD := hid (show decide (c.Most < hn ∨ (c.Open = false ∧ 0 < n)) = false from decide_eq_false fun h => h.elim g1 fun q => by have := HO.out; rw [q.1] at this; cases this)
      clear g1
      go_wp2_with fail
      go_meet
      case rel => exact ⟨by rw [HD.out], B1, HB⟩
  case rest =>
  clear HB B1
  obtain ⟨rfl, BC, HB⟩ := hcut
  by_cases g0 : c.Most < hn ∨ (c.Open = false ∧ 0 < n)
  · rw [decide_eq_true g0]
    have HE := hid (HN.out fun h => by
      rcases g0 with q | q
      · have := h.2.2.2.2.2.2.2.1; rw [HH.out] at this; omega
      · have h1 := h.2.2.2.1 q.1; have h2 := HL.out; rw [h1] at h2; simp at h2; omega)
    clear g0
    go_wp2
    go_ret2
    exact ⟨by rw [HE.out.1, HE.out.2]; rfl, HB⟩
  rw [decide_eq_false g0]
  have a1 : hn ≤ c.Most := Int.not_lt.1 fun q => g0 (.inl q)
  have a3 : c.Open = false → c.Holds = [] := fun q => List.eq_nil_of_length_eq_zero (by rw [HL.out]; exact Nat.eq_zero_of_not_pos fun r => g0 (.inr ⟨q, r⟩))
  have QA := hid (And.intro a1 a3)
  clear g0 a1 a3
  obtain ⟨p0, p1, p2, p3, p4, p5, p6⟩ := BC.all
  have HC2 := hid (fun W => mCheck2_any c.Reserve c.Most W hw.res hw.most)
  rw [chkM_two] at HC2
  go_wp2_with fail
  with_reducible refine (HC2.out _).mono ?_
  rintro e w3 ⟨rfl, hb3⟩
  replace BC := BC.call hb3
  replace HB := bel_call HB hb3
  clear p0 p1 p2 p3 p4 p5 p6 hb3
  by_cases g1 : c.Reserve ≤ mMax ∧ c.Most ≤ mMax
  rotate_left
  · rw [if_neg g1]
    have HE := hid (HN.out fun h => g1 ⟨h.1, h.2.1⟩)
    clear g1
    go_wp2
    go_ret2
    exact ⟨by rw [HE.out.1, HE.out.2]; rfl, HB⟩
  rw [if_pos g1]
  obtain ⟨p0, p1, p2, p3, p4, p5, p6⟩ := BC.all
  have HR := hid (mAdd_any _ _ _ _ _ _ (rd_three w3 c.Local c.Remote hn hw.loc hw.rem wfh) (Nat.le_refl _))
  obtain ⟨be, hbe⟩ : ∃ z, addE [c.Local, c.Remote, hn] = z := ⟨_, rfl⟩
  obtain ⟨bn, hbn⟩ : ∃ z, addN [c.Local, c.Remote, hn] = z := ⟨_, rfl⟩
  rw [hbe, hbn] at HR
  have HOK := hid (show ChOk c ↔ be = 0 from by
    rw [← hbe]
    constructor
    · intro h
      rw [← HH.out]
      exact (ch_add h).2.2.1
    · intro h
      obtain ⟨t1, t2, -⟩ := add_nums h
      rw [allLe_iff] at t1
      have u1 := t1 c.Local (by simp)
      have u2 := t1 c.Remote (by simp)
      have u3 : c.Local + c.Remote + hn ≤ mMax := by simp [sumM] at t2; omega
      have ht := HT.out
      exact ⟨g1.1, g1.2, ht.1, QA.out.2, ht.2.1, ht.2.2.1, ht.2.2.2.1, by rw [HH.out]; exact QA.out.1, u1, u2, by rw [HH.out]; exact u3⟩)
  have HBY := hid (bel_alloc HB (Obj.cells #[.int .u64 c.Local, .int .u64 c.Remote, .int .u64 hn] 23))
  clear hbe hbn g1
  go_wp2_with fail
  refine HR.out.mono ?_
  rintro e w5 ⟨rfl, hb5⟩
  have HBZ := bel_call HBY.out hb5
  by_cases hz : be = 0
  · have hok := HOK.out.2 hz
    have HE := hid (show chE c = 0 ∧ heV c = hn from ⟨if_pos hok, by rw [← HH.out]; exact if_pos hok⟩)
    subst hz
    clear hok
    go_wp2
    go_ret2
    exact ⟨by rw [HE.out.1, HE.out.2]; rfl, HBZ⟩
  · have HE := hid (HN.out fun h => hz (HOK.out.1 h))
    have dz : (be != 0) = true := by simpa using hz
    clear hz
    go_wp2
    go_ret2
    exact ⟨by rw [HE.out.1, HE.out.2]; rfl, HBZ⟩

set_option maxRecDepth 100000 in
set_option maxHeartbeats 4000000 in
theorem cCheck_any (s : Array Value) (c : Chn) (w : World) (r : lay_Channel.rep w (· < w.heap.size) c s.toList) :
    Calls Try.prog 36 #[.agg s] w fun e w' => e = .returned (.int .i64 (chE c)) ∧ Below w.heap.size w w' := by
  obtain ⟨A, n, k, rfl, hw, hs⟩ := agg_Channel r
  clear r
  have HL := hid hs.len
  have hcap := hs.cap
  unfold maxLen at hcap
  have hb0 : Below w.heap.size w (w.alloc (Obj.cells #[.int .u64 c.Id, .int .u64 c.Local, .int .u64 c.Remote, .int .u64 c.Reserve, .int .u64 c.Most, .slice A n k, .bool c.Open] 26)) := bel_alloc (Below.refl _ _) _
  have B0 := BoxC.new w c A n k
  go_enter Try.func36, Try.ntmps36
  go_wp2_with fail
  generalize w.alloc (Obj.cells #[.int .u64 c.Id, .int .u64 c.Local, .int .u64 c.Remote, .int .u64 c.Reserve, .int .u64 c.Most, .slice A n k, .bool c.Open] 26) = W0 at *
  refine (cHeld_any _ c _ (chan_in hw hs hb0)).mono ?_
  rintro e w1 ⟨rfl, hb1⟩
  have HB := bel_call hb0 hb1
  have B1 := B0.call hb1
  clear B0 hb0 hb1
  go_wp2
  go_ret
  exact ⟨rfl, HB⟩

set_option maxRecDepth 100000 in
set_option maxHeartbeats 2000000 in
theorem cAll_any (s : Array Value) (c : Chn) (w : World) (r : lay_Channel.rep w (· < w.heap.size) c s.toList) :
    Calls Try.prog 42 #[.agg s] w fun e w' => e = .returned (.tuple #[.int .u64 (aaV c), .int .i64 (chE c)]) ∧ Below w.heap.size w w' := by
  obtain ⟨A, n, k, rfl, hw, hs⟩ := agg_Channel r
  clear r
  have HL := hid hs.len
  have hcap := hs.cap
  unfold maxLen at hcap
  have hb0 : Below w.heap.size w (w.alloc (Obj.cells #[.int .u64 c.Id, .int .u64 c.Local, .int .u64 c.Remote, .int .u64 c.Reserve, .int .u64 c.Most, .slice A n k, .bool c.Open] 26)) := bel_alloc (Below.refl _ _) _
  have B0 := BoxC.new w c A n k
  go_enter Try.func42, Try.ntmps42
  go_wp2_with fail
  generalize w.alloc (Obj.cells #[.int .u64 c.Id, .int .u64 c.Local, .int .u64 c.Remote, .int .u64 c.Reserve, .int .u64 c.Most, .slice A n k, .bool c.Open] 26) = W0 at *
  refine (cHeld_any _ c _ (chan_in hw hs hb0)).mono ?_
  rintro e w1 ⟨rfl, hb1⟩
  have HB := bel_call hb0 hb1
  have B1 := B0.call hb1
  clear B0 hb0 hb1
  rcases ch_is (c := c) with ⟨ok, hE⟩ | ⟨ok, hE⟩
  rotate_left
  · have HE := hid hE
    have HV := hid (show aaV c = 0 from if_neg ok)
    rw [hE]
    clear hE ok
    go_wp2
    go_ret2
    exact ⟨by rw [HV.out, HE.out]; rfl, HB⟩
  rw [hE, show heV c = heldN c from if_pos ok]
  have HE := hid hE
  have HV := hid (show aaV c = c.Local + c.Remote + heldN c from if_pos ok)
  obtain ⟨-, -, a1, a2⟩ := ch_add ok
  have h0 := held_nonneg (c := c) (sl_hlds hs)
  have h1 : heldN c ≤ mMax := Int.le_trans ok.2.2.2.2.2.2.2.1 ok.2.1
  have hm : mMax = 4611686018427387904 := rfl
  have wan : (Lit.int .u64 (heldN c)).wf = true := wf_u64 (by omega)
  have HR := hid (mAdd_any _ _ _ _ _ _ (rd_three w1 c.Local c.Remote (heldN c) hw.loc hw.rem wan) (Nat.le_refl _))
  rw [a1, a2] at HR
  have HBY := hid (bel_alloc HB (Obj.cells #[.int .u64 c.Local, .int .u64 c.Remote, .int .u64 (heldN c)] 23))
  clear hE ok a1 a2 h0 h1 hm
  obtain ⟨p0, p1, p2, p3, p4, p5, p6⟩ := B1.all
  go_wp2_with fail
  refine HR.out.mono ?_
  rintro e w4 ⟨rfl, hb4⟩
  have HBZ := bel_call HBY.out hb4
  clear p0 p1 p2 p3 p4 p5 p6
  go_wp2
  go_ret2
  exact ⟨by rw [HV.out, HE.out]; rfl, HBZ⟩

set_option maxRecDepth 100000 in
set_option maxHeartbeats 4000000 in
theorem cSame_any (s t : Array Value) (x y : Chn) (w : World) (r1 : lay_Channel.rep w (· < w.heap.size) x s.toList) (r2 : lay_Channel.rep w (· < w.heap.size) y t.toList) :
    Calls Try.prog 34 #[.agg s, .agg t] w fun e w' => e = .returned (.bool (decide (x = y))) ∧ Below w.heap.size w w' := by
  obtain ⟨A1, n1, c1, rfl, -, hs1⟩ := agg_Channel r1
  obtain ⟨A2, n2, c2, rfl, -, hs2⟩ := agg_Channel r2
  clear r1 r2
  have k1 := hs1.cap
  have k2 := hs2.cap
  unfold maxLen at k1 k2
  have hb0 : Below w.heap.size w ((w.alloc (Obj.cells #[.int .u64 x.Id, .int .u64 x.Local, .int .u64 x.Remote, .int .u64 x.Reserve, .int .u64 x.Most, .slice A1 n1 c1, .bool x.Open] 26)).alloc (Obj.cells #[.int .u64 y.Id, .int .u64 y.Local, .int .u64 y.Remote, .int .u64 y.Reserve, .int .u64 y.Most, .slice A2 n2 c2, .bool y.Open] 26)) := bel_alloc (bel_alloc (Below.refl _ _) _) _
  have BX : BoxC ((w.alloc (Obj.cells #[.int .u64 x.Id, .int .u64 x.Local, .int .u64 x.Remote, .int .u64 x.Reserve, .int .u64 x.Most, .slice A1 n1 c1, .bool x.Open] 26)).alloc (Obj.cells #[.int .u64 y.Id, .int .u64 y.Local, .int .u64 y.Remote, .int .u64 y.Reserve, .int .u64 y.Most, .slice A2 n2 c2, .bool y.Open] 26)) w.heap.size x A1 n1 c1 := heap_alloc2_old _ _ _
  have BY : BoxC ((w.alloc (Obj.cells #[.int .u64 x.Id, .int .u64 x.Local, .int .u64 x.Remote, .int .u64 x.Reserve, .int .u64 x.Most, .slice A1 n1 c1, .bool x.Open] 26)).alloc (Obj.cells #[.int .u64 y.Id, .int .u64 y.Local, .int .u64 y.Remote, .int .u64 y.Reserve, .int .u64 y.Most, .slice A2 n2 c2, .bool y.Open] 26)) (w.heap.size + 1) y A2 n2 c2 := alloc2_new _ _ _
  have HEQ := hid (equalH_any A1 A2 n1 c1 n2 c2 _ x.Holds y.Holds _ (Sl.call hs1 hb0) (Sl.call hs2 hb0))
  go_enter Try.func34, Try.ntmps34
  go_upto_region 1 with (fail)
  generalize ((w.alloc (Obj.cells #[.int .u64 x.Id, .int .u64 x.Local, .int .u64 x.Remote, .int .u64 x.Reserve, .int .u64 x.Most, .slice A1 n1 c1, .bool x.Open] 26)).alloc (Obj.cells #[.int .u64 y.Id, .int .u64 y.Local, .int .u64 y.Remote, .int .u64 y.Reserve, .int .u64 y.Most, .slice A2 n2 c2, .bool y.Open] 26)) = W0 at *
  obtain ⟨p0, p1, p2, p3, p4, p5, p6⟩ := BX.all
  obtain ⟨q0, q1, q2, q3, q4, q5, q6⟩ := BY.all
  clear BX BY
  by_cases eId : x.Id = y.Id
  rotate_left
  · have dId : (x.Id == y.Id) = false := by simpa using eId
    have HD := hid (show decide (x = y) = false from decide_eq_false fun e => eId (by rw [e]))
    clear eId
    go_wp2
    go_ret
    exact ⟨ret_bool HD.out.symm, hb0⟩
  have dId : (x.Id == y.Id) = true := by simpa using eId
  have EId := hid eId
  clear eId
  by_cases eLocal : x.Local = y.Local
  rotate_left
  · have dLocal : (x.Local == y.Local) = false := by simpa using eLocal
    have HD := hid (show decide (x = y) = false from decide_eq_false fun e => eLocal (by rw [e]))
    clear eLocal
    go_wp2
    go_ret
    exact ⟨ret_bool HD.out.symm, hb0⟩
  have dLocal : (x.Local == y.Local) = true := by simpa using eLocal
  have ELocal := hid eLocal
  clear eLocal
  by_cases eRemote : x.Remote = y.Remote
  rotate_left
  · have dRemote : (x.Remote == y.Remote) = false := by simpa using eRemote
    have HD := hid (show decide (x = y) = false from decide_eq_false fun e => eRemote (by rw [e]))
    clear eRemote
    go_wp2
    go_ret
    exact ⟨ret_bool HD.out.symm, hb0⟩
  have dRemote : (x.Remote == y.Remote) = true := by simpa using eRemote
  have ERemote := hid eRemote
  clear eRemote
  by_cases eReserve : x.Reserve = y.Reserve
  rotate_left
  · have dReserve : (x.Reserve == y.Reserve) = false := by simpa using eReserve
    have HD := hid (show decide (x = y) = false from decide_eq_false fun e => eReserve (by rw [e]))
    clear eReserve
    go_wp2
    go_ret
    exact ⟨ret_bool HD.out.symm, hb0⟩
  have dReserve : (x.Reserve == y.Reserve) = true := by simpa using eReserve
  have EReserve := hid eReserve
  clear eReserve
  by_cases eMost : x.Most = y.Most
  rotate_left
  · have dMost : (x.Most == y.Most) = false := by simpa using eMost
    have HD := hid (show decide (x = y) = false from decide_eq_false fun e => eMost (by rw [e]))
    clear eMost
    go_wp2
    go_ret
    exact ⟨ret_bool HD.out.symm, hb0⟩
  have dMost : (x.Most == y.Most) = true := by simpa using eMost
  have EMost := hid eMost
  clear eMost
  by_cases eO : x.Open = y.Open
  rotate_left
  · have HD := hid (show decide (x = y) = false from decide_eq_false fun e => eO (by rw [e]))
    have dO : (x.Open == y.Open) = false := by simpa using eO
    clear eO
    generalize x.Open = ox at *
    generalize y.Open = oy at *
    go_wp2
    go_ret
    exact ⟨ret_bool HD.out.symm, hb0⟩
  have dO : (x.Open == y.Open) = true := by simpa using eO
  have HD := hid (show decide (x = y) = decide (x.Holds = y.Holds) from decide_eq_decide.2 ⟨fun e => by rw [e], fun e => Chn.ext' EId.out ELocal.out ERemote.out EReserve.out EMost.out e eO⟩)
  clear eO
  generalize x.Open = ox at *
  generalize y.Open = oy at *
  go_wp2_with fail
  with_reducible refine HEQ.out.mono ?_
  rintro e w2 ⟨rfl, m, rfl⟩
  rw [← HD.out]
  go_wp2
  go_ret
  exact ⟨rfl, bel_drewN hb0 _⟩
end Go.Proofs.Ytanlpcndbfmkiaa
