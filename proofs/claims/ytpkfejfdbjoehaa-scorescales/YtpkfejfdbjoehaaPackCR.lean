/-
  The contracts of the document's amounts, and Check, of layer 9.
  The contracts of the document's Held, All, Room, and find, of layer 9.
  The contract of the document's Same of layer 9.
  The contracts of the document's Copy, Push, and Close, of layer 9.
  The contracts of the document's without, Settle, and Fail, of layer 9.
  The contract of the document's Hold of layer 9.
-/
import Derived.Test.YtpkfejfdbjoehaaChannelSpec
import Derived.Test.YtpkfejfdbjoehaaMoneyRef
import Derived.BigQuiet
import Derived.DeepKeys4
import Derived.Deep.QuietTactic
namespace Go.Proofs.Ytpkfejfdbjoehaa
open Go.RowKit Go.WalkArith

theorem Try.infoU64c : (Try.prog.info? 24).map (fun i => (i.zero, i.size, i.bytes)) = some (some (.int .u64 0), 1, 8) := by kernel_rfl
theorem nums_take {l : List Hld} {j : Nat} (h : j < l.length) : numsH (l.take (j + 1)) = numsH (l.take j) ++ [l[j].N] := by
  unfold numsH
  rw [List.take_succ_eq_append_getElem h, List.map_append]
  rfl

set_option maxRecDepth 100000 in
set_option maxHeartbeats 2000000 in
theorem refAmounts_any (A : Option Addr) (n k : Nat) (l : List Hld) (w : World) (h : Sl lay_Hold w (· < w.heap.size) A n k l) (hn : n ≤ 1000) :
    Calls Try.prog 63 #[.slice A n k] w fun e w' => ∃ v', e = .returned v' ∧ Own w' w.heap.size 24 .u64 v' (numsH l) ∧ Below w.heap.size w w' := by
  have HL := hid h.len
  go_enter Try.func63, Try.ntmps63
  go_wp2
  go_loopw [3, 8] (fun u i wr => ∃ (j : Nat) (tv : Value), j ≤ n ∧ i = .int .i64 j ∧ u = tv ∧ Own wr w.heap.size 24 .u64 tv (numsH (l.take j)) ∧ Below w.heap.size w wr) (fun _ i _ => n - (intOf i).toNat)
  case atStart => exact ⟨0, _, Nat.zero_le _, rfl, rfl, Own.nil _ _ _ _, Below.refl _ _⟩
  case round =>
  obtain ⟨j, tx, hj, rfl, htx, hown, hbel⟩ := hrel
  replace htx := htx.symm
  subst htx
  by_cases hlt : j < n
  · obtain ⟨b1, o1, hx1, rfl, hb1, t1, t2, hw⟩ := hld_at h hlt
    have q1 := (hbel.cell (p := ⟨b1, o1 + j * 2, none⟩) hb1).trans t1
    have q2 := (hbel.cell (p := ⟨b1, o1 + j * 2 + 1, none⟩) hb1).trans t2
    have hba := bel_alloc (Below.refl wr.heap.size wr) (Obj.cells #[.int .u64 l[j].Id, .int .u64 l[j].N] 83)
    have ho2 := hown.below_all hba
    have HT := hid (nums_take hx1)
    have hal : (numsH (l.take j)).length ≤ 1000 := by unfold numsH; simp; omega
    have HSZ := hid (show wr.heap.size + 1 = (wr.alloc (Obj.cells #[.int .u64 l[j].Id, .int .u64 l[j].N] 83)).heap.size from by simp)
    have hz2 : w.heap.size ≤ (wr.alloc (Obj.cells #[.int .u64 l[j].Id, .int .u64 l[j].N] 83)).heap.size := by rw [← HSZ.out]; exact Nat.le_trans hbel.size (Nat.le_succ _)
    clear t1 t2 hown
    go_wp2_with (at_builtin; go_must (refine wpList_push (w := wr.alloc (Obj.cells #[.int .u64 l[j].Id, .int .u64 l[j].N] 83)) rfl (.tmp 12) (.tmp 15) 34 rfl w.heap.size 24 .u64 8 Try.underlying34 Try.infoU64c tx (numsH (l.take j)) l[j].N rfl (congrArg (fun z => Value.slice (some ⟨z, 0, none⟩) 1 1) HSZ.out) ho2 hw.num hz2 (by omega) (by omega) ?_; intro v3 w3 hown3 hext3))
    have HB3 := (bel_call hbel hba).trans (ho2.below hext3 hz2)
    go_roundw
    case rel => exact ⟨j + 1, _, by omega, by go_num, rfl, by rw [HT.out]; exact hown3, HB3⟩
    case measure => simp [intOf]; omega
  · have HTK := hid (show l.take j = l from List.take_of_length_le (by rw [HL.out]; omega))
    rw [HTK.out] at hown
    go_wp2
    go_ret
    exact ⟨_, rfl, hown, hbel⟩

theorem up_of {l : List Hld} (h : ∀ i (hi : i < l.length) (h0 : 0 < i), (l[i - 1]'(by omega)).Id < l[i].Id) : HUp l := by
  unfold HUp
  rw [List.pairwise_iff_getElem]
  intro i j hi hj hij
  obtain ⟨d, rfl⟩ : ∃ d, j = i + 1 + d := ⟨j - i - 1, by omega⟩
  induction d with
  | zero => exact h (i + 1) hj (by omega)
  | succ d ih =>
    have h1 := ih (by omega) (by omega)
    have h2 := h (i + 1 + (d + 1)) hj (by omega)
    have e : i + 1 + (d + 1) - 1 = i + 1 + d := by omega
    simp only [e] at h2
    omega
theorem add_nums {l : List Int} (h : addE l = 0) : allLe mMax l = true ∧ sumM l ≤ mMax ∧ addN l = sumM l := by
  have e := h
  unfold addE at h
  by_cases q : allLe mMax l = true
  · rw [if_pos q] at h
    by_cases r : sumM l ≤ mMax
    · exact ⟨q, r, if_pos e⟩
    · rw [if_neg r] at h; cases h
  · rw [if_neg q] at h; cases h
theorem add_ok {l : List Int} (h1 : allLe mMax l = true) (h2 : sumM l ≤ mMax) : addE l = 0 ∧ addN l = sumM l := by
  have e : addE l = 0 := by unfold addE; rw [if_pos h1, if_pos h2]
  exact ⟨e, if_pos e⟩
theorem ch_add {c : Chn} (h : ChOk c) : addE (numsH c.Holds) = 0 ∧ addN (numsH c.Holds) = heldN c ∧ addE [c.Local, c.Remote, heldN c] = 0 ∧ addN [c.Local, c.Remote, heldN c] = c.Local + c.Remote + heldN c := by
  obtain ⟨a1, a2, a3, a4, a5, a6, a7, a8, a9, a10, a11⟩ := h
  have hm : heldN c ≤ mMax := Int.le_trans a8 a2
  obtain ⟨e1, e2⟩ := add_ok a7 hm
  have h3 : sumM [c.Local, c.Remote, heldN c] = c.Local + c.Remote + heldN c := by simp [sumM]; omega
  obtain ⟨e3, e4⟩ := add_ok (l := [c.Local, c.Remote, heldN c]) (by rw [allLe_iff]; intro x hx; simp at hx; rcases hx with rfl | rfl | rfl <;> assumption) (by rw [h3]; exact a11)
  exact ⟨e1, e2, e3, by rw [e4, h3]⟩

set_option maxRecDepth 100000 in
set_option maxHeartbeats 4000000 in
theorem refCheck9_any (s : Array Value) (c : Chn) (w : World) (r : lay_Channel.rep w (· < w.heap.size) c s.toList) :
    Calls Try.prog 52 #[.agg s] w fun e w' => e = .returned (.int .i64 (chE c)) ∧ Below w.heap.size w w' := by
  obtain ⟨A, n, k, rfl, hw, hs⟩ := agg_Channel r
  clear r
  have HL := hid hs.len
  have hcap := hs.cap
  unfold maxLen at hcap
  have hb0 : Below w.heap.size w (w.alloc (Obj.cells #[.int .u64 c.Id, .int .u64 c.Local, .int .u64 c.Remote, .int .u64 c.Reserve, .int .u64 c.Most, .slice A n k, .bool c.Open] 28)) := bel_alloc (Below.refl _ _) _
  have B0 := BoxC.new w c A n k
  go_enter Try.func52, Try.ntmps52
  go_upto_region 1 with (fail)
  have B0' := B0.all
  have hbw := bel_alloc (Below.refl (w.alloc (Obj.cells #[.int .u64 c.Id, .int .u64 c.Local, .int .u64 c.Remote, .int .u64 c.Reserve, .int .u64 c.Most, .slice A n k, .bool c.Open] 28)).heap.size (w.alloc (Obj.cells #[.int .u64 c.Id, .int .u64 c.Local, .int .u64 c.Remote, .int .u64 c.Reserve, .int .u64 c.Most, .slice A n k, .bool c.Open] 28))) (Obj.cells #[.int .u64 c.Reserve, .int .u64 c.Most] 24)
  have R2 := rd_twoB (w.alloc (Obj.cells #[.int .u64 c.Id, .int .u64 c.Local, .int .u64 c.Remote, .int .u64 c.Reserve, .int .u64 c.Most, .slice A n k, .bool c.Open] 28)) c.Reserve c.Most (w.alloc (Obj.cells #[.int .u64 c.Id, .int .u64 c.Local, .int .u64 c.Remote, .int .u64 c.Reserve, .int .u64 c.Most, .slice A n k, .bool c.Open] 28)).heap.size rfl hw.res hw.most
  have B1 := B0.call hbw
  have HBX := bel_call hb0 hbw
  clear B0 hb0 hbw
  generalize w.alloc (Obj.cells #[.int .u64 c.Id, .int .u64 c.Local, .int .u64 c.Remote, .int .u64 c.Reserve, .int .u64 c.Most, .slice A n k, .bool c.Open] 28) = W0 at *
  obtain ⟨p0, p1, p2, p3, p4, p5, p6⟩ := B0'
  go_cut [32] from 9 to 32 (fun q wc => q = .bool (decide (¬ (c.Reserve ≤ mMax ∧ c.Most ≤ mMax) ∨ 64 < n ∨ (c.Open = false ∧ 0 < n))) ∧ BoxC wc w.heap.size c A n k ∧ Below w.heap.size w wc)
  case first =>
    go_wp2_with fail
    generalize W0.alloc (Obj.cells #[.int .u64 c.Reserve, .int .u64 c.Most] 24) = W1 at *
    refine (rmCheck_any _ _ _ _ _ _ R2).mono ?_
    rw [chkM_two]
    rintro e w1 ⟨rfl, rfl⟩
    clear R2 p0 p1 p2 p3 p4 p5 p6
    obtain ⟨p0, p1, p2, p3, p4, p5, p6⟩ := B1.all
    by_cases g1 : c.Reserve ≤ mMax ∧ c.Most ≤ mMax
    rotate_left
    · rw [if_neg g1]
      have HD := hid (show decide (¬ (c.Reserve ≤ mMax ∧ c.Most ≤ mMax) ∨ 64 < n ∨ (c.Open = false ∧ 0 < n)) = true from decide_eq_true (.inl g1))
      clear g1
      go_wp2_with fail
      go_meet
      case rel => exact ⟨by rw [HD.out], B1, HBX⟩
    rw [if_pos g1]
    by_cases g2 : 64 < n
    · have HD := hid (show decide (¬ (c.Reserve ≤ mMax ∧ c.Most ≤ mMax) ∨ 64 < n ∨ (c.Open = false ∧ 0 < n)) = true from decide_eq_true (.inr (.inl g2)))
      have d2 : decide ((64 : Int) < (n : Int)) = true := by simp; omega
      clear g1
      go_wp2_with fail
      go_meet
      case rel => exact ⟨by rw [HD.out], B1, HBX⟩
    have d2 : decide ((64 : Int) < (n : Int)) = false := by simp; omega
    obtain ⟨o, ho⟩ : ∃ z, c.Open = z := ⟨_, rfl⟩
    rw [ho] at p6
    have HO := hid ho
    clear ho
    cases o
    · by_cases g3 : 0 < n
      · have HD := hid (show decide (¬ (c.Reserve ≤ mMax ∧ c.Most ≤ mMax) ∨ 64 < n ∨ (c.Open = false ∧ 0 < n)) = true from decide_eq_true (.inr (.inr ⟨HO.out, g3⟩)))
        have d3 : decide ((0 : Int) < (n : Int)) = true := by simp; omega
        have d3' : decide (0 < n) = true := decide_eq_true g3
        clear g1
        go_wp2_with fail
        go_meet
        case rel => exact ⟨by rw [HD.out], B1, HBX⟩
      · have HD := hid (show decide (¬ (c.Reserve ≤ mMax ∧ c.Most ≤ mMax) ∨ 64 < n ∨ (c.Open = false ∧ 0 < n)) = false from decide_eq_false fun h => h.elim (fun q => q g1) fun h => h.elim g2 fun q => g3 q.2)
        have d3 : decide ((0 : Int) < (n : Int)) = false := by simp; omega
        have d3' : decide (0 < n) = false := decide_eq_false g3
        clear g1
        go_wp2_with fail
        go_meet
        case rel => exact ⟨by rw [HD.out], B1, HBX⟩
    · have HD := hid (show decide (¬ (c.Reserve ≤ mMax ∧ c.Most ≤ mMax) ∨ 64 < n ∨ (c.Open = false ∧ 0 < n)) = false from decide_eq_false fun h => h.elim (fun q => q g1) fun h => h.elim g2 fun q => by have := HO.out; rw [q.1] at this; cases this)
      clear g1
      go_wp2_with fail
      go_meet
      case rel => exact ⟨by rw [HD.out], B1, HBX⟩
  case rest =>
  obtain ⟨rfl, BC, HB⟩ := hcut
  clear p0 p1 p2 p3 p4 p5 p6 B1 HBX R2
  by_cases g0 : ¬ (c.Reserve ≤ mMax ∧ c.Most ≤ mMax) ∨ 64 < n ∨ (c.Open = false ∧ 0 < n)
  · rw [decide_eq_true g0]
    have HE := hid (show chE c = 1 from if_neg fun h => by
      rcases g0 with q | q | q
      · exact q ⟨h.1, h.2.1⟩
      · have := h.2.2.1; rw [HL.out] at this; omega
      · have h1 := h.2.2.2.1 q.1; have h2 := HL.out; rw [h1] at h2; simp at h2; omega)
    clear g0
    go_wp2
    go_ret
    exact ⟨ret_num HE.out.symm, HB⟩
  rw [decide_eq_false g0]
  have a1 : c.Reserve ≤ mMax ∧ c.Most ≤ mMax := Decidable.by_contra fun q => g0 (.inl q)
  have a2 : n ≤ 64 := Nat.not_lt.1 fun q => g0 (.inr (.inl q))
  have a3 : c.Open = false → c.Holds = [] := fun q => List.eq_nil_of_length_eq_zero (by rw [HL.out]; exact Nat.eq_zero_of_not_pos fun r => g0 (.inr (.inr ⟨q, r⟩)))
  have QA := hid (And.intro a1 a3)
  clear g0 a1 a3
  have KC := hid (fun (W : World) (h : Below wc.heap.size wc W) => (BC.call h).all)
  have HS := hid (fun (W : World) (h : Below wc.heap.size wc W) => Sl.call hs (bel_call HB h))
  have HCC := Below.refl wc.heap.size wc
  obtain ⟨p0, p1, p2, p3, p4, p5, p6⟩ := KC.out _ HCC
  go_wp2
  clear p0 p1 p2 p3 p4 p5 p6
  go_loopw [36] (fun i wr => ∃ j : Nat, j ≤ n ∧ i = .int .i64 j ∧ Hid (∀ i (hi : i < c.Holds.length), i < j → c.Holds[i].N ≠ 0 ∧ (∀ h0 : 0 < i, (c.Holds[i - 1]'(by omega)).Id < c.Holds[i].Id)) ∧ Below wc.heap.size wc wr) (fun i _ => n - (intOf i).toNat)
  case atStart => exact ⟨0, Nat.zero_le _, rfl, hid fun i hi h => absurd h (by omega), HCC⟩
  case round =>
  clear HCC
  obtain ⟨j, hj, rfl, HP, hbel⟩ := hrel
  by_cases hlt : j < n
  · obtain ⟨b1, o1, hx1, rfl, hb1, t1, t2, hwh⟩ := hld_at (HS.out _ hbel) hlt
    have hba := bel_alloc hbel (Obj.cells #[.int .u64 c.Holds[j].Id, .int .u64 c.Holds[j].N] 83)
    have HBX := bel_call HB hba
    obtain ⟨-, -, -, -, -, p5, -⟩ := KC.out _ hba
    have y0 : (wr.alloc (Obj.cells #[.int .u64 c.Holds[j].Id, .int .u64 c.Holds[j].N] 83)).cell? ⟨wr.heap.size, 0, none⟩ = some (.int .u64 c.Holds[j].Id) := by rw [World.cell?_alloc_at _ _ _ _ rfl]; rfl
    have y1 : (wr.alloc (Obj.cells #[.int .u64 c.Holds[j].Id, .int .u64 c.Holds[j].N] 83)).cell? ⟨wr.heap.size, 1, none⟩ = some (.int .u64 c.Holds[j].N) := by rw [World.cell?_alloc_at _ _ _ _ rfl]; rfl
    have HSA := HS.out _ hba
    go_upto_region 6 with (fail)
    generalize wr.alloc (Obj.cells #[.int .u64 c.Holds[j].Id, .int .u64 c.Holds[j].N] 83) = W5 at *
    clear t1 t2
    by_cases g1 : c.Holds[j].N = 0
    · have d1 : (c.Holds[j].N == 0) = true := by simpa using g1
      have HE := hid (show chE c = 1 from if_neg fun h => h.2.2.2.2.1 _ (List.getElem_mem hx1) g1)
      clear g1
      go_quiet (fail)
      go_wp2
      go_ret
      exact ⟨ret_num HE.out.symm, bel_drewN HBX _⟩
    have d1 : (c.Holds[j].N == 0) = false := by simpa using g1
    by_cases g2 : j = 0
    · have d2 : decide ((0 : Int) < (j : Int)) = false := by simp; omega
      have d2' : decide (0 < j) = false := decide_eq_false (by omega)
      have HN := hid (show ∀ i (hi : i < c.Holds.length), i < j + 1 → c.Holds[i].N ≠ 0 ∧ (∀ h0 : 0 < i, (c.Holds[i - 1]'(by omega)).Id < c.Holds[i].Id) from fun i hi h => by
        have e : i = j := by omega
        subst e
        exact ⟨g1, fun h0 => absurd h0 (by omega)⟩)
      have HG2 := hid g2
      clear g1 g2
      go_quiet (fail)
      go_wp2
      go_roundw
      case rel => exact ⟨j + 1, by omega, by go_num, HN, bel_drewN hba _⟩
      case measure => simp [intOf]; omega
    have d2 : decide ((0 : Int) < (j : Int)) = true := by simp; omega
    have d2' : decide (0 < j) = true := decide_eq_true (by omega)
    obtain ⟨q, hq⟩ : ∃ q : Nat, q + 1 = j := ⟨j - 1, by omega⟩
    have hkn : (j : Int) - 1 = (q : Int) := by omega
    have hwk : IntKind.i64.wrap (q : Int) = (q : Int) := IntWalk.i64_in _ (by omega)
    obtain ⟨b2, o2, hx2, hA2, -, u1, -, -⟩ := hld_at HSA (show q < n by omega)
    injection hA2 with hA2
    injection hA2 with e1 e2
    subst e1 e2
    have ik : (0 : Int) ≤ (q : Int) ∧ (q : Int) < (n : Int) := by omega
    have ik2 : q < n := by omega
    by_cases g3 : c.Holds[q].Id < c.Holds[j].Id
    · have d3 : decide (c.Holds[j].Id ≤ c.Holds[q].Id) = false := by simp; omega
      have HN := hid (show ∀ i (hi : i < c.Holds.length), i < j + 1 → c.Holds[i].N ≠ 0 ∧ (∀ h0 : 0 < i, (c.Holds[i - 1]'(by omega)).Id < c.Holds[i].Id) from fun i hi h => by
        by_cases hij : i < j
        · exact HP.out i hi hij
        · have e : i = j := by omega
          subst e
          refine ⟨g1, fun _ => ?_⟩
          have e : i - 1 = q := by omega
          simp only [e]
          exact g3)
      have HQ := hid hq
      clear g1 g2 g3 hq
      generalize c.Holds[q].Id = qi at *
      go_quiet (fail)
      go_wp2
      go_roundw
      case rel => exact ⟨j + 1, by omega, by go_num, HN, bel_drewN hba _⟩
      case measure => simp [intOf]; omega
    · have d3 : decide (c.Holds[j].Id ≤ c.Holds[q].Id) = true := by simp; omega
      have HE := hid (show chE c = 1 from if_neg fun h => g3 (List.pairwise_iff_getElem.1 h.2.2.2.2.2.1 q j hx2 hx1 (by omega)))
      have HQ := hid hq
      clear g1 g2 g3 hq
      generalize c.Holds[q].Id = qi at *
      go_quiet (fail)
      go_wp2
      go_ret
      exact ⟨ret_num HE.out.symm, bel_drewN HBX _⟩
  · have hjn : j = n := by omega
    have a5 : ∀ h ∈ c.Holds, h.N ≠ 0 := fun x hx => by
      obtain ⟨i, hi, rfl⟩ := List.getElem_of_mem hx
      exact (HP.out i hi (by rw [HL.out] at hi; omega)).1
    have a6 : HUp c.Holds := up_of fun i hi h0 => (HP.out i hi (by rw [HL.out] at hi; omega)).2 h0
    have QB := hid (And.intro a5 a6)
    clear a5 a6 HP hjn
    have hh := sl_hlds hs
    obtain ⟨p0, p1, p2, p3, p4, p5, p6⟩ := KC.out _ hbel
    go_wp2_with fail
    refine (refAmounts_any A n k c.Holds wr (HS.out _ hbel) (by omega)).mono ?_
    rintro e w3 ⟨v3, rfl, ho3, hb3⟩
    obtain ⟨A3, n3, c3, rfl, hr3⟩ := ho3.formN
    have hbx := bel_call hbel hb3
    have HBX := bel_call HB hbx
    clear p0 p1 p2 p3 p4 p5 p6 hb3 ho3
    obtain ⟨p0, p1, p2, p3, p4, p5, p6⟩ := KC.out _ hbx
    obtain ⟨ae, hae⟩ : ∃ z, addE (numsH c.Holds) = z := ⟨_, rfl⟩
    obtain ⟨an, han⟩ : ∃ z, addN (numsH c.Holds) = z := ⟨_, rfl⟩
    have AE := hid hae
    have AN := hid han
    clear hae han
    go_wp2_with fail
    refine (rmAdd_any A3 n3 c3 _ (numsH c.Holds) w3 hr3).mono ?_
    rw [AE.out, AN.out]
    rintro e w4 ⟨rfl, rfl⟩
    clear hr3
    by_cases hz : ae = 0
    rotate_left
    · have HE := hid (show chE c = 1 from if_neg fun h => hz (by rw [← AE.out]; exact (ch_add h).1))
      have dz : (ae != 0) = true := by simpa using hz
      clear hz
      go_wp2
      go_ret
      exact ⟨ret_num HE.out.symm, HBX⟩
    subst hz
    obtain ⟨s1, s2, s3⟩ := add_nums AE.out
    rw [AN.out] at s3
    have hhe : an = heldN c := s3
    have hm : mMax = 4611686018427387904 := rfl
    have h0 : 0 ≤ an := by rw [hhe]; exact held_nonneg hh
    have h1 : an ≤ mMax := by rw [s3]; exact s2
    by_cases g : c.Most < an
    · have HE := hid (show chE c = 1 from if_neg fun h => by have := h.2.2.2.2.2.2.2.1; omega)
      have dg : decide (c.Most < an) = true := decide_eq_true g
      clear g s1 s2 s3 hhe h0 h1 hm
      go_wp2
      go_ret
      exact ⟨ret_num HE.out.symm, HBX⟩
    have dg : decide (c.Most < an) = false := decide_eq_false g
    have wan : (Lit.int .u64 an).wf = true := wf_u64 (by omega)
    have HR := hid (rmAdd_any _ _ _ _ _ _ (rd_three w3 c.Local c.Remote an hw.loc hw.rem wan))
    obtain ⟨be, hbe⟩ : ∃ z, addE [c.Local, c.Remote, an] = z := ⟨_, rfl⟩
    obtain ⟨bn, hbn⟩ : ∃ z, addN [c.Local, c.Remote, an] = z := ⟨_, rfl⟩
    rw [hbe, hbn] at HR
    have BE := hid hbe
    have HH := hid (show ChOk c ↔ be = 0 from by
      rw [← BE.out]
      constructor
      · intro h
        rw [hhe]
        exact (ch_add h).2.2.1
      · intro h
        obtain ⟨t1, t2, -⟩ := add_nums h
        rw [allLe_iff] at t1
        have u1 := t1 c.Local (by simp)
        have u2 := t1 c.Remote (by simp)
        have u3 : c.Local + c.Remote + an ≤ mMax := by simp [sumM] at t2; omega
        exact ⟨QA.out.1.1, QA.out.1.2, by rw [HL.out]; exact a2, QA.out.2, QB.out.1, QB.out.2, s1, by rw [← hhe]; omega, u1, u2, by rw [← hhe]; exact u3⟩)
    have HBY := hid (bel_alloc HBX (Obj.cells #[.int .u64 c.Local, .int .u64 c.Remote, .int .u64 an] 24))
    clear hbe hbn g s1 s2 s3 hhe h0 h1 hm
    go_wp2_with fail
    refine HR.out.mono ?_
    rintro e w5 ⟨rfl, rfl⟩
    by_cases hz : be = 0
    · have HE := hid (show chE c = 0 from if_pos (HH.out.2 hz))
      subst hz
      go_wp2
      go_ret
      exact ⟨ret_num HE.out.symm, HBY.out⟩
    · have HE := hid (show chE c = 1 from if_neg fun h => hz (HH.out.1 h))
      have dz : (be != 0) = true := by simpa using hz
      clear hz
      go_wp2
      go_ret
      exact ⟨ret_num HE.out.symm, HBY.out⟩
end Go.Proofs.Ytpkfejfdbjoehaa
namespace Go.Proofs.Ytpkfejfdbjoehaa
open Go.RowKit Go.WalkArith

set_option maxRecDepth 100000 in
set_option maxHeartbeats 2000000 in
theorem refHeld9_any (s : Array Value) (c : Chn) (w : World) (r : lay_Channel.rep w (· < w.heap.size) c s.toList) :
    Calls Try.prog 47 #[.agg s] w fun e w' => e = .returned (.tuple #[.int .u64 (heV c), .int .i64 (chE c)]) ∧ Below w.heap.size w w' := by
  obtain ⟨A, n, k, rfl, hw, hs⟩ := agg_Channel r
  clear r
  have HL := hid hs.len
  have hcap := hs.cap
  unfold maxLen at hcap
  have hb0 : Below w.heap.size w (w.alloc (Obj.cells #[.int .u64 c.Id, .int .u64 c.Local, .int .u64 c.Remote, .int .u64 c.Reserve, .int .u64 c.Most, .slice A n k, .bool c.Open] 28)) := bel_alloc (Below.refl _ _) _
  have B0 := BoxC.new w c A n k
  go_enter Try.func47, Try.ntmps47
  go_wp2_with fail
  generalize w.alloc (Obj.cells #[.int .u64 c.Id, .int .u64 c.Local, .int .u64 c.Remote, .int .u64 c.Reserve, .int .u64 c.Most, .slice A n k, .bool c.Open] 28) = W0 at *
  refine (refCheck9_any _ c _ (chan_in hw hs hb0)).mono ?_
  rintro e w1 ⟨rfl, hb1⟩
  have HB := bel_call hb0 hb1
  have B1 := B0.call hb1
  clear B0 hb0 hb1
  rcases ch_is (c := c) with ⟨ok, hE⟩ | ⟨ok, hE⟩
  rotate_left
  · have HE := hid hE
    have HV := hid (show heV c = 0 from if_neg ok)
    rw [hE]
    clear hE ok
    go_wp2
    go_ret2
    exact ⟨by rw [HV.out, HE.out]; rfl, HB⟩
  have HE := hid hE
  have HV := hid (show heV c = heldN c from if_pos ok)
  have hn64 : n ≤ 64 := by rw [← HL.out]; exact ok.2.2.1
  obtain ⟨a1, a2, -, -⟩ := ch_add ok
  have AE := hid a1
  have AN := hid a2
  rw [hE]
  clear hE ok a1 a2
  obtain ⟨p0, p1, p2, p3, p4, p5, p6⟩ := B1.all
  go_wp2_with fail
  refine (refAmounts_any A n k c.Holds _ (Sl.call hs HB) (by omega)).mono ?_
  rintro e w3 ⟨v3, rfl, ho3, hb3⟩
  obtain ⟨A3, n3, c3, rfl, hr3⟩ := ho3.formN
  replace HB := bel_call HB hb3
  clear p0 p1 p2 p3 p4 p5 p6 hb3 ho3
  go_wp2_with fail
  refine (rmAdd_any A3 n3 c3 _ (numsH c.Holds) w3 hr3).mono ?_
  rw [AE.out, AN.out]
  rintro e w4 ⟨rfl, rfl⟩
  clear hr3
  go_wp2
  go_ret2
  exact ⟨by rw [HV.out, HE.out]; rfl, HB⟩

set_option maxRecDepth 100000 in
set_option maxHeartbeats 2000000 in
theorem refAll9_any (s : Array Value) (c : Chn) (w : World) (r : lay_Channel.rep w (· < w.heap.size) c s.toList) :
    Calls Try.prog 31 #[.agg s] w fun e w' => e = .returned (.tuple #[.int .u64 (aaV c), .int .i64 (chE c)]) ∧ Below w.heap.size w w' := by
  obtain ⟨A, n, k, rfl, hw, hs⟩ := agg_Channel r
  clear r
  have HL := hid hs.len
  have hcap := hs.cap
  unfold maxLen at hcap
  have hb0 : Below w.heap.size w (w.alloc (Obj.cells #[.int .u64 c.Id, .int .u64 c.Local, .int .u64 c.Remote, .int .u64 c.Reserve, .int .u64 c.Most, .slice A n k, .bool c.Open] 28)) := bel_alloc (Below.refl _ _) _
  have B0 := BoxC.new w c A n k
  go_enter Try.func31, Try.ntmps31
  go_wp2_with fail
  generalize w.alloc (Obj.cells #[.int .u64 c.Id, .int .u64 c.Local, .int .u64 c.Remote, .int .u64 c.Reserve, .int .u64 c.Most, .slice A n k, .bool c.Open] 28) = W0 at *
  refine (refHeld9_any _ c _ (chan_in hw hs hb0)).mono ?_
  rintro e w1 ⟨rfl, hb1⟩
  have HB := bel_call hb0 hb1
  have B1 := B0.call hb1
  clear B0 hb0 hb1
  rcases ch_is (c := c) with ⟨ok, hE⟩ | ⟨ok, hE⟩
  rotate_left
  · have HE := hid hE
    have HV := hid (show aaV c = 0 from if_neg ok)
    rw [hE]
    clear hE ok
    go_wp2
    go_ret2
    exact ⟨by rw [HV.out, HE.out]; rfl, HB⟩
  rw [hE, show heV c = heldN c from if_pos ok]
  have HE := hid hE
  have HV := hid (show aaV c = c.Local + c.Remote + heldN c from if_pos ok)
  obtain ⟨-, -, a1, a2⟩ := ch_add ok
  have h0 := held_nonneg (c := c) (sl_hlds hs)
  have h1 : heldN c ≤ mMax := Int.le_trans ok.2.2.2.2.2.2.2.1 ok.2.1
  have hm : mMax = 4611686018427387904 := rfl
  have wan : (Lit.int .u64 (heldN c)).wf = true := wf_u64 (by omega)
  have HR := hid (rmAdd_any _ _ _ _ _ _ (rd_three w1 c.Local c.Remote (heldN c) hw.loc hw.rem wan))
  rw [a1, a2] at HR
  have HBY := hid (bel_alloc HB (Obj.cells #[.int .u64 c.Local, .int .u64 c.Remote, .int .u64 (heldN c)] 24))
  clear hE ok a1 a2 h0 h1 hm
  obtain ⟨p0, p1, p2, p3, p4, p5, p6⟩ := B1.all
  go_wp2_with fail
  refine HR.out.mono ?_
  rintro e w4 ⟨rfl, rfl⟩
  clear p0 p1 p2 p3 p4 p5 p6
  go_wp2
  go_ret2
  exact ⟨by rw [HV.out, HE.out]; rfl, HBY.out⟩

set_option maxRecDepth 100000 in
set_option maxHeartbeats 2000000 in
theorem refRoom9_any (s : Array Value) (c : Chn) (w : World) (r : lay_Channel.rep w (· < w.heap.size) c s.toList) :
    Calls Try.prog 30 #[.agg s] w fun e w' => e = .returned (.tuple #[.int .u64 (rmV c), .int .i64 (chE c)]) ∧ Below w.heap.size w w' := by
  obtain ⟨A, n, k, rfl, hw, hs⟩ := agg_Channel r
  clear r
  have HL := hid hs.len
  have hcap := hs.cap
  unfold maxLen at hcap
  have hb0 : Below w.heap.size w (w.alloc (Obj.cells #[.int .u64 c.Id, .int .u64 c.Local, .int .u64 c.Remote, .int .u64 c.Reserve, .int .u64 c.Most, .slice A n k, .bool c.Open] 28)) := bel_alloc (Below.refl _ _) _
  have B0 := BoxC.new w c A n k
  go_enter Try.func30, Try.ntmps30
  go_wp2_with fail
  generalize w.alloc (Obj.cells #[.int .u64 c.Id, .int .u64 c.Local, .int .u64 c.Remote, .int .u64 c.Reserve, .int .u64 c.Most, .slice A n k, .bool c.Open] 28) = W0 at *
  refine (refHeld9_any _ c _ (chan_in hw hs hb0)).mono ?_
  rintro e w1 ⟨rfl, hb1⟩
  have HB := bel_call hb0 hb1
  have B1 := B0.call hb1
  clear B0 hb0 hb1
  rcases ch_is (c := c) with ⟨ok, hE⟩ | ⟨ok, hE⟩
  rotate_left
  · have HE := hid hE
    have HV := hid (show rmV c = 0 from if_neg ok)
    rw [hE]
    clear hE ok
    go_wp2
    go_ret2
    exact ⟨by rw [HV.out, HE.out]; rfl, HB⟩
  rw [hE, show heV c = heldN c from if_pos ok]
  have HE := hid hE
  have HV := hid (show rmV c = roomN c from if_pos ok)
  have h0 := held_nonneg (c := c) (sl_hlds hs)
  have h1 : heldN c ≤ c.Most := ok.2.2.2.2.2.2.2.1
  have h2 := bounds_u64 hw.loc
  have h3 := bounds_u64 hw.res
  have h4 := bounds_u64 hw.most
  obtain ⟨p0, p1, p2, p3, p4, p5, p6⟩ := B1.all
  obtain ⟨o, ho⟩ : ∃ z, c.Open = z := ⟨_, rfl⟩
  rw [ho] at p6
  have HO := hid ho
  clear ho hE ok
  cases o
  · have HZ := hid (show roomN c = 0 from if_pos (.inl HO.out))
    go_wp2
    go_ret2
    exact ⟨by rw [HV.out, HE.out, HZ.out]; rfl, HB⟩
  by_cases g1 : n = 64
  · have HZ := hid (show roomN c = 0 from if_pos (.inr (.inl (by rw [HL.out]; exact g1))))
    have d1 : ((n : Int) == 64) = true := by simp; omega
    have G1 := hid g1
    clear g1
    go_wp2
    go_ret2
    exact ⟨by rw [HV.out, HE.out, HZ.out]; rfl, HB⟩
  have d1 : ((n : Int) == 64) = false := by simp; omega
  by_cases g2 : c.Local < c.Reserve
  · have HZ := hid (show roomN c = 0 from if_pos (.inr (.inr g2)))
    have d2 : decide (c.Local < c.Reserve) = true := decide_eq_true g2
    clear g2
    go_wp2
    go_ret2
    exact ⟨by rw [HV.out, HE.out, HZ.out]; rfl, HB⟩
  have d2 : decide (c.Local < c.Reserve) = false := decide_eq_false g2
  have HZ := hid (show roomN c = min (c.Local - c.Reserve) (c.Most - heldN c) from if_neg fun q => by
    rcases q with q | q | q
    · rw [HO.out] at q; cases q
    · exact g1 (by rw [← HL.out]; exact q)
    · exact g2 q)
  have w1e : IntKind.u64.wrap (c.Local - c.Reserve) = c.Local - c.Reserve := IntWalk.u64_in _ (by omega)
  have w2e : IntKind.u64.wrap (c.Most - heldN c) = c.Most - heldN c := IntWalk.u64_in _ (by omega)
  clear g1 g2 h0 h1 h2 h3 h4
  by_cases gm : c.Most - heldN c < c.Local - c.Reserve
  · have dm : decide (c.Most - heldN c < c.Local - c.Reserve) = true := decide_eq_true gm
    have HM := hid (show min (c.Local - c.Reserve) (c.Most - heldN c) = c.Most - heldN c from by omega)
    have HW := hid w2e
    go_wp2
    go_ret2
    exact ⟨by rw [HV.out, HE.out, HZ.out, HM.out]; first | rfl | (rw [← HW.out]; rfl), HB⟩
  · have dm : decide (c.Most - heldN c < c.Local - c.Reserve) = false := decide_eq_false gm
    have HM := hid (show min (c.Local - c.Reserve) (c.Most - heldN c) = c.Local - c.Reserve from by omega)
    have HW := hid w1e
    go_wp2
    go_ret2
    exact ⟨by rw [HV.out, HE.out, HZ.out, HM.out]; first | rfl | (rw [← HW.out]; rfl), HB⟩

/-- A block that holds a hold. -/
def BoxH (w : World) (g : Nat) (h : Hld) : Prop := w.heap[g]? = some (.cells #[.int .u64 h.Id, .int .u64 h.N] 83 (0, 0))
section
variable {w w' : World} {g : Nat} {h : Hld}
theorem BoxH.c0 (b : BoxH w g h) : w.cell? ⟨g, 0, none⟩ = some (.int .u64 h.Id) := by unfold BoxH at b; simp [World.cell?, b]
theorem BoxH.c1 (b : BoxH w g h) : w.cell? ⟨g, 1, none⟩ = some (.int .u64 h.N) := by unfold BoxH at b; simp [World.cell?, b]
theorem BoxH.f (b : BoxH w g h) (i : Nat) : w.frozen? ⟨g, i, none⟩ = false := by unfold BoxH at b; simp [World.frozen?, b]
theorem BoxH.lt (b : BoxH w g h) : g < w.heap.size := (Array.getElem?_eq_some_iff.1 b).1
theorem BoxH.call (b : BoxH w g h) (hb : Below w.heap.size w w') : BoxH w' g h := (hb.block g b.lt).trans b
theorem BoxH.new (w : World) (h : Hld) : BoxH (w.alloc (.cells #[.int .u64 h.Id, .int .u64 h.N] 83)) w.heap.size h := heap_alloc_new w _
theorem BoxH.set (b : BoxH w g h) (u : Hld) : BoxH ((w.setCell ⟨g, 0, none⟩ (.int .u64 u.Id)).setCell ⟨g, 1, none⟩ (.int .u64 u.N)) g u := by
  unfold BoxH at *
  have h0 : (w.setCell ⟨g, 0, none⟩ (.int .u64 u.Id)).heap[g]? = some (.cells #[.int .u64 u.Id, .int .u64 h.N] 83 (0, 0)) := heap_setCell_same w g 0 _ _ _ b
  exact heap_setCell_same _ g 1 _ _ _ h0
end
theorem holdF_first {l : List Hld} {id : Int} {j : Nat} (hj : j < l.length) (h : ∀ i (hi : i < l.length), i < j → l[i].Id ≠ id) (e : l[j].Id = id) : holdF l id = some l[j] := by
  unfold holdF
  rw [List.find?_eq_some_iff_getElem]
  refine ⟨by simpa using e, j, hj, rfl, fun i hi => ?_⟩
  have := h i (by omega) hi
  simpa using this
theorem holdF_never {l : List Hld} {id : Int} (h : ∀ i (hi : i < l.length), l[i].Id ≠ id) : holdF l id = none := by
  refine List.find?_eq_none.2 fun x hx => ?_
  obtain ⟨i, hi, rfl⟩ := List.getElem_of_mem hx
  simpa using h i hi
def zeroH : Hld := ⟨0, 0⟩
def FindR (l : List Hld) (id : Int) (h : Hld) (b : Bool) : Prop := (b = true ∧ holdF l id = some h) ∨ (b = false ∧ holdF l id = none)

end Go.Proofs.Ytpkfejfdbjoehaa
namespace Go.Proofs.Ytpkfejfdbjoehaa
open Go.RowKit Go.WalkArith

theorem hlCells : Try.prog.cellsOf 83 = 2 := by kernel_rfl
theorem hlCellsU : Try.prog.cellsOf 24 = 1 := by kernel_rfl
theorem hlKey : Try.prog.keyTypeAt 2 83 = true := by kernel_rfl
abbrev hldV (c : Hld) : Value := .agg #[.int .u64 c.Id, .int .u64 c.N]
theorem hlLits {c : Hld} (h : HldWf c) : Try.prog.keyLits 2 83 [.int .u64 c.Id, .int .u64 c.N] = some [.int .u64 c.Id, .int .u64 c.N] := by
  simp [Program.keyLits, Try.underlying83, hlCells, hlCellsU, Try.underlying24, h.id, h.num]
theorem hlFormed (c : Hld) : (hldV c).formed Try.prog 83 = true := by simp [Value.formed, Try.underlying83, hlCells]
/-- Two holds compared. -/
theorem run_neHld {c d : Hld} (hc : HldWf c) (hd : HldWf d) (w : World) : (binOp .neq 83 (.agg #[.int .u64 c.Id, .int .u64 c.N]) (.agg #[.int .u64 d.Id, .int .u64 d.N])).run Try.prog w = .ok (.bool (!decide (c = d))) w := by
  obtain ⟨r, hr, hi⟩ := run_equalIn_deep 9998 2 _ hlKey w 2 2 (hldV c) (hldV d) _ _ (hlFormed c) (hlFormed d) (hlLits hc) (hlLits hd)
  have h9 : (Op.equal 83 (hldV c) (hldV d)).run Try.prog w = .ok r w := hr
  have : r = decide (c = d) := by
    rw [Bool.eq_iff_iff, hi, decide_eq_true_iff]
    constructor
    · intro e
      simp only [List.cons.injEq, Lit.int.injEq, true_and, and_true] at e
      cases c; cases d; simp_all
    · rintro rfl
      rfl
  rw [← this]
  simp [binOp, h9]
theorem take_sameH {l o : List Hld} {j : Nat} (hx : j < l.length) (hy : j < o.length) (h : l.take j = o.take j) (e : l[j] = o[j]) : l.take (j + 1) = o.take (j + 1) := by
  rw [List.take_succ_eq_append_getElem hx, List.take_succ_eq_append_getElem hy, h, e]
theorem Chn.ext' {a b : Chn} (h1 : a.Id = b.Id) (h2 : a.Local = b.Local) (h3 : a.Remote = b.Remote) (h4 : a.Reserve = b.Reserve) (h5 : a.Most = b.Most) (h6 : a.Holds = b.Holds) (h7 : a.Open = b.Open) : a = b := by cases a; cases b; simp_all

end Go.Proofs.Ytpkfejfdbjoehaa
namespace Go.Proofs.Ytpkfejfdbjoehaa
open Go.RowKit Go.WalkArith

theorem Try.infoHld : (Try.prog.info? 83).map (fun i => (i.zero, i.size, i.bytes)) = some (some (.agg #[.int .u64 0, .int .u64 0]), lay_Hold.size, 16) := by kernel_rfl
theorem BoxC.other {w : World} {g b : Nat} {t : Chn} {A : Option Addr} {n c : Nat} (h : BoxC w g t A n c) (hne : g ≠ b) (t' : Chn) (A' : Option Addr) (n' c' : Nat) : BoxC (((((((w.setCell ⟨b, 0, none⟩ (.int .u64 t'.Id)).setCell ⟨b, 1, none⟩ (.int .u64 t'.Local)).setCell ⟨b, 2, none⟩ (.int .u64 t'.Remote)).setCell ⟨b, 3, none⟩ (.int .u64 t'.Reserve)).setCell ⟨b, 4, none⟩ (.int .u64 t'.Most)).setCell ⟨b, 5, none⟩ (.slice A' n' c')).setCell ⟨b, 6, none⟩ (.bool t'.Open)) g t A n c := (((((((h.setOther hne 0 (.int .u64 t'.Id)).setOther hne 1 (.int .u64 t'.Local)).setOther hne 2 (.int .u64 t'.Remote)).setOther hne 3 (.int .u64 t'.Reserve)).setOther hne 4 (.int .u64 t'.Most)).setOther hne 5 (.slice A' n' c')).setOther hne 6 (.bool t'.Open))
theorem BoxC.setLoc {w : World} {g : Nat} {t : Chn} {A : Option Addr} {n c : Nat} (h : BoxC w g t A n c) (x : Int) : BoxC (w.setCell ⟨g, 1, none⟩ (.int .u64 x)) g ⟨t.Id, x, t.Remote, t.Reserve, t.Most, t.Holds, t.Open⟩ A n c := heap_setCell_same w g 1 _ _ (.int .u64 x) h
theorem BoxC.setRem {w : World} {g : Nat} {t : Chn} {A : Option Addr} {n c : Nat} (h : BoxC w g t A n c) (x : Int) : BoxC (w.setCell ⟨g, 2, none⟩ (.int .u64 x)) g ⟨t.Id, t.Local, x, t.Reserve, t.Most, t.Holds, t.Open⟩ A n c := heap_setCell_same w g 2 _ _ (.int .u64 x) h
theorem BoxC.setHol {w : World} {g : Nat} {t : Chn} {A : Option Addr} {n c : Nat} (h : BoxC w g t A n c) (A' : Option Addr) (n' c' : Nat) : BoxC (w.setCell ⟨g, 5, none⟩ (.slice A' n' c')) g t A' n' c' := heap_setCell_same w g 5 _ _ (.slice A' n' c') h
theorem BoxC.setOpen {w : World} {g : Nat} {t : Chn} {A : Option Addr} {n c : Nat} (h : BoxC w g t A n c) (x : Bool) : BoxC (w.setCell ⟨g, 6, none⟩ (.bool x)) g ⟨t.Id, t.Local, t.Remote, t.Reserve, t.Most, t.Holds, x⟩ A n c := heap_setCell_same w g 6 _ _ (.bool x) h

end Go.Proofs.Ytpkfejfdbjoehaa
namespace Go.Proofs.Ytpkfejfdbjoehaa
open Go.RowKit Go.WalkArith

theorem BoxC.keep {w w' : World} {B g : Nat} {t : Chn} {A : Option Addr} {n c : Nat} (h : BoxC w g t A n c) (hb : Below B w w') (hg : g < B) : BoxC w' g t A n c := (hb.block g hg).trans h
theorem BoxH.keep {w w' : World} {B g : Nat} {t : Hld} (h : BoxH w g t) (hb : Below B w w') (hg : g < B) : BoxH w' g t := (hb.block g hg).trans h
theorem BoxH.setOther {w : World} {g b : Nat} {t : Hld} (h : BoxH w g t) (hne : g ≠ b) (i : Nat) (u : Value) : BoxH (w.setCell ⟨b, i, none⟩ u) g t := (Below.heap_setCell _ _ _ _ hne).trans h
theorem filter_takeH {p : Hld → Bool} {l : List Hld} {j : Nat} (hj : j < l.length) : (l.take (j + 1)).filter p = (l.take j).filter p ++ (if p l[j] = true then [l[j]] else []) := by
  rw [List.take_succ_eq_append_getElem hj, List.filter_append]
  congr 1
  by_cases h : p l[j] = true
  · rw [if_pos h]; simp [h]
  · rw [if_neg h]; simp [h]
theorem filter_lenH {p : Hld → Bool} (l : List Hld) (j : Nat) : ((l.take j).filter p).length ≤ l.length := by
  have h1 := List.length_filter_le p (l.take j)
  rw [List.length_take] at h1
  omega
noncomputable def lwC (c : Chn) (id : Int) : Chn := if wtE c id = 0 then ⟨c.Id, c.Local, c.Remote, c.Reserve, c.Most, lessH c.Holds id, c.Open⟩ else zeroCh
theorem find_wt {c : Chn} {id : Int} {x : Hld} {b : Bool} (ok : ChOk c) (h : FindR c.Holds id x b) : (b = true ∧ wtE c id = 0 ∧ wtN c id = x.N) ∨ (b = false ∧ wtE c id = 5 ∧ wtN c id = 0) := by
  rcases h with ⟨h1, h2⟩ | ⟨h1, h2⟩
  · exact .inl ⟨h1, wt_of ok h2⟩
  · exact .inr ⟨h1, wt_none ok h2⟩

end Go.Proofs.Ytpkfejfdbjoehaa
namespace Go.Proofs.Ytpkfejfdbjoehaa
open Go.RowKit Go.WalkArith

end Go.Proofs.Ytpkfejfdbjoehaa
