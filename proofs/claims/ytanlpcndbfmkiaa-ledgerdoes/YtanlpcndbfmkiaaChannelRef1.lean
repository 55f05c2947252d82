/-
  The contracts of the document's amounts, and Check, of layer 9.
-/
import Derived.Test.YtanlpcndbfmkiaaChannelSpec
import Derived.Test.YtanlpcndbfmkiaaMoneyRef
import Derived.BigQuiet
namespace Go.Proofs.Ytanlpcndbfmkiaa
open Go.RowKit Go.WalkArith

theorem Try.infoU64c : (Try.prog.info? 23).map (fun i => (i.zero, i.size, i.bytes)) = some (some (.int .u64 0), 1, 8) := by kernel_rfl
theorem nums_take {l : List Hld} {j : Nat} (h : j < l.length) : numsH (l.take (j + 1)) = numsH (l.take j) ++ [l[j].N] := by
  unfold numsH
  rw [List.take_succ_eq_append_getElem h, List.map_append]
  rfl

set_option maxRecDepth 100000 in
set_option maxHeartbeats 2000000 in
theorem refAmounts_any (A : Option Addr) (n k : Nat) (l : List Hld) (w : World) (h : Sl lay_Hold w (· < w.heap.size) A n k l) (hn : n ≤ 1000) :
    Calls Try.prog 79 #[.slice A n k] w fun e w' => ∃ v', e = .returned v' ∧ Own w' w.heap.size 23 .u64 v' (numsH l) ∧ Below w.heap.size w w' := by
  have HL := hid h.len
  go_enter Try.func79, Try.ntmps79
  go_wp2
  go_loopw [3, 8] (fun u i wr => ∃ (j : Nat) (tv : Value), j ≤ n ∧ i = .int .i64 j ∧ u = tv ∧ Own wr w.heap.size 23 .u64 tv (numsH (l.take j)) ∧ Below w.heap.size w wr) (fun _ i _ => n - (intOf i).toNat)
  case atStart => exact ⟨0, _, Nat.zero_le _, rfl, rfl, Own.nil _ _ _ _, Below.refl _ _⟩
  case round =>
  obtain ⟨j, tx, hj, rfl, htx, hown, hbel⟩ := hrel
  replace htx := htx.symm
  subst htx
  by_cases hlt : j < n
  · obtain ⟨b1, o1, hx1, rfl, hb1, t1, t2, hw⟩ := hld_at h hlt
    have q1 := (hbel.cell (p := ⟨b1, o1 + j * 2, none⟩) hb1).trans t1
    have q2 := (hbel.cell (p := ⟨b1, o1 + j * 2 + 1, none⟩) hb1).trans t2
    have hba := bel_alloc (Below.refl wr.heap.size wr) (Obj.cells #[.int .u64 l[j].Id, .int .u64 l[j].N] 41)
    have ho2 := hown.below_all hba
    have HT := hid (nums_take hx1)
    have hal : (numsH (l.take j)).length ≤ 1000 := by unfold numsH; simp; omega
    have HSZ := hid (show wr.heap.size + 1 = (wr.alloc (Obj.cells #[.int .u64 l[j].Id, .int .u64 l[j].N] 41)).heap.size from by simp)
    have hz2 : w.heap.size ≤ (wr.alloc (Obj.cells #[.int .u64 l[j].Id, .int .u64 l[j].N] 41)).heap.size := by rw [← HSZ.out]; exact Nat.le_trans hbel.size (Nat.le_succ _)
    clear t1 t2 hown
    go_wp2_with (at_builtin; go_must (refine wpList_push (w := wr.alloc (Obj.cells #[.int .u64 l[j].Id, .int .u64 l[j].N] 41)) rfl (.tmp 12) (.tmp 15) 53 rfl w.heap.size 23 .u64 8 Try.underlying53 Try.infoU64c tx (numsH (l.take j)) l[j].N rfl (congrArg (fun z => Value.slice (some ⟨z, 0, none⟩) 1 1) HSZ.out) ho2 hw.num hz2 (by omega) (by omega) ?_; intro v3 w3 hown3 hext3))
    have HB3 := (bel_call hbel hba).trans (ho2.below hext3 hz2)
    go_roundw
    case rel => exact ⟨j + 1, _, by omega, by go_num, rfl, by rw [HT.out]; exact hown3, HB3⟩
    case measure => simp [intOf]; omega
  · have HTK := hid (show l.take j = l from List.take_of_length_le (by rw [HL.out]; omega))
    rw [HTK.out] at hown
    go_wp2
    go_ret
    exact ⟨_, rfl, hown, hbel⟩

theorem up_of {l : List Hld} (h : ∀ i (hi : i < l.length) (h0 : 0 < i), (l[i - 1]'(by omega)).Id < l[i].Id) : HUp l := by
  unfold HUp
  rw [List.pairwise_iff_getElem]
  intro i j hi hj hij
  obtain ⟨d, rfl⟩ : ∃ d, j = i + 1 + d := ⟨j - i - 1, by omega⟩
  induction d with
  | zero => exact h (i + 1) hj (by omega)
  | succ d ih =>
    have h1 := ih (by omega) (by omega)
    have h2 := h (i + 1 + (d + 1)) hj (by omega)
    have e : i + 1 + (d + 1) - 1 = i + 1 + d := by omega
    simp only [e] at h2
    omega
theorem add_nums {l : List Int} (h : addE l = 0) : allLe mMax l = true ∧ sumM l ≤ mMax ∧ addN l = sumM l := by
  have e := h
  unfold addE at h
  by_cases q : allLe mMax l = true
  · rw [if_pos q] at h
    by_cases r : sumM l ≤ mMax
    · exact ⟨q, r, if_pos e⟩
    · rw [if_neg r] at h; cases h
  · rw [if_neg q] at h; cases h
theorem add_ok {l : List Int} (h1 : allLe mMax l = true) (h2 : sumM l ≤ mMax) : addE l = 0 ∧ addN l = sumM l := by
  have e : addE l = 0 := by unfold addE; rw [if_pos h1, if_pos h2]
  exact ⟨e, if_pos e⟩
theorem ch_add {c : Chn} (h : ChOk c) : addE (numsH c.Holds) = 0 ∧ addN (numsH c.Holds) = heldN c ∧ addE [c.Local, c.Remote, heldN c] = 0 ∧ addN [c.Local, c.Remote, heldN c] = c.Local + c.Remote + heldN c := by
  obtain ⟨a1, a2, a3, a4, a5, a6, a7, a8, a9, a10, a11⟩ := h
  have hm : heldN c ≤ mMax := Int.le_trans a8 a2
  obtain ⟨e1, e2⟩ := add_ok a7 hm
  have h3 : sumM [c.Local, c.Remote, heldN c] = c.Local + c.Remote + heldN c := by simp [sumM]; omega
  obtain ⟨e3, e4⟩ := add_ok (l := [c.Local, c.Remote, heldN c]) (by rw [allLe_iff]; intro x hx; simp at hx; rcases hx with rfl | rfl | rfl <;> assumption) (by rw [h3]; exact a11)
  exact ⟨e1, e2, e3, by rw [e4, h3]⟩

set_option maxRecDepth 100000 in
set_option maxHeartbeats 4000000 in
theorem refCheck9_any (s : Array Value) (c : Chn) (w : World) (r : lay_Channel.rep w (· < w.heap.size) c s.toList) :
    Calls Try.prog 43 #[.agg s] w fun e w' => e = .returned (.int .i64 (chE c)) ∧ Below w.heap.size w w' := by
  obtain ⟨A, n, k, rfl, hw, hs⟩ := agg_Channel r
  clear r
  have HL := hid hs.len
  have hcap := hs.cap
  unfold maxLen at hcap
  have hb0 : Below w.heap.size w (w.alloc (Obj.cells #[.int .u64 c.Id, .int .u64 c.Local, .int .u64 c.Remote, .int .u64 c.Reserve, .int .u64 c.Most, .slice A n k, .bool c.Open] 26)) := bel_alloc (Below.refl _ _) _
  have B0 := BoxC.new w c A n k
  go_enter Try.func43, Try.ntmps43
  go_upto_region 1 with (fail)
  have B0' := B0.all
  have hbw := bel_alloc (Below.refl (w.alloc (Obj.cells #[.int .u64 c.Id, .int .u64 c.Local, .int .u64 c.Remote, .int .u64 c.Reserve, .int .u64 c.Most, .slice A n k, .bool c.Open] 26)).heap.size (w.alloc (Obj.cells #[.int .u64 c.Id, .int .u64 c.Local, .int .u64 c.Remote, .int .u64 c.Reserve, .int .u64 c.Most, .slice A n k, .bool c.Open] 26))) (Obj.cells #[.int .u64 c.Reserve, .int .u64 c.Most] 23)
  have R2 := rd_twoB (w.alloc (Obj.cells #[.int .u64 c.Id, .int .u64 c.Local, .int .u64 c.Remote, .int .u64 c.Reserve, .int .u64 c.Most, .slice A n k, .bool c.Open] 26)) c.Reserve c.Most (w.alloc (Obj.cells #[.int .u64 c.Id, .int .u64 c.Local, .int .u64 c.Remote, .int .u64 c.Reserve, .int .u64 c.Most, .slice A n k, .bool c.Open] 26)).heap.size rfl hw.res hw.most
  have B1 := B0.call hbw
  have HBX := bel_call hb0 hbw
  clear B0 hb0 hbw
  generalize w.alloc (Obj.cells #[.int .u64 c.Id, .int .u64 c.Local, .int .u64 c.Remote, .int .u64 c.Reserve, .int .u64 c.Most, .slice A n k, .bool c.Open] 26) = W0 at *
  obtain ⟨p0, p1, p2, p3, p4, p5, p6⟩ := B0'
  go_cut [32] from 9 to 32 (fun q wc => q = .bool (decide (¬ (c.Reserve ≤ mMax ∧ c.Most ≤ mMax) ∨ 64 < n ∨ (c.Open = false ∧ 0 < n))) ∧ BoxC wc w.heap.size c A n k ∧ Below w.heap.size w wc)
  case first =>
    go_wp2_with fail
    generalize W0.alloc (Obj.cells #[.int .u64 c.Reserve, .int .u64 c.Most] 23) = W1 at *
    refine (rmCheck_any _ _ _ _ _ _ R2).mono ?_
    rw [chkM_two]
    rintro e w1 ⟨rfl, rfl⟩
    clear R2 p0 p1 p2 p3 p4 p5 p6
    obtain ⟨p0, p1, p2, p3, p4, p5, p6⟩ := B1.all
    by_cases g1 : c.Reserve ≤ mMax ∧ c.Most ≤ mMax
    rotate_left
    · rw [if_neg g1]
      have HD := hid (show decide (¬ (c.Reserve ≤ mMax ∧ c.Most ≤ mMax) ∨ 64 < n ∨ (c.Open = false ∧ 0 < n)) = true from decide_eq_true (.inl g1))
      clear g1
      go_wp2_with fail
      go_meet
      case rel => exact ⟨by rw [HD.out], B1, HBX⟩
    rw [if_pos g1]
    by_cases g2 : 64 < n
    · have HD := hid (show decide (¬ (c.Reserve ≤ mMax ∧ c.Most ≤ mMax) ∨ 64 < n ∨ (c.Open = false ∧ 0 < n)) = true from decide_eq_true (.inr (.inl g2)))
      have d2 : decide ((64 : Int) < (n : Int)) = true := by simp; omega
      clear g1
      go_wp2_with fail
      go_meet
      case rel => exact ⟨by rw [HD.out], B1, HBX⟩
    have d2 : decide ((64 : Int) < (n : Int)) = false := by simp; omega
    obtain ⟨o, ho⟩ : ∃ z, c.Open = z := ⟨_, rfl⟩
    rw [ho] at p6
    have HO := hid ho
    clear ho
    cases o
    · by_cases g3 : 0 < n
      · have HD := hid (show decide (¬ (c.Reserve ≤ mMax ∧ c.Most ≤ mMax) ∨ 64 < n ∨ (c.Open = false ∧ 0 < n)) = true from decide_eq_true (.inr (.inr ⟨HO.out, g3⟩)))
        have d3 : decide ((0 : Int) < (n : Int)) = true := by simp; omega
        have d3' : decide (0 < n) = true := decide_eq_true g3
        clear g1
        go_wp2_with fail
        go_meet
        case rel => exact ⟨by rw [HD.out], B1, HBX⟩
      · have HD := hid (show decide (¬ (c.Reserve ≤ mMax ∧ c.Most ≤ mMax) ∨ 64 < n ∨ (c.Open = false ∧ 0 < n)) = false from decide_eq_false fun h => h.elim (fun q => q g1) fun h => h.elim g2 fun q => g3 q.2)
        have d3 : decide ((0 : Int) < (n : Int)) = false := by simp; omega
        have d3' : decide (0 < n) = false := decide_eq_false g3
        clear g1
        go_wp2_with fail
        go_meet
        case rel => exact ⟨by rw [HD.out], B1, HBX⟩
    · have HD := hid (show decide (¬ (c.Reserve ≤ mMax ∧ c.Most ≤ mMax) ∨ 64 < n ∨ (c.Open = false ∧ 0 < n)) = false from decide_eq_false fun h => h.elim (fun q => q g1) fun h => h.elim g2 fun q => by have := HO.out; rw [q.1] at this; cases this)
      clear g1
      go_wp2_with fail
      go_meet
      case rel => exact ⟨by rw [HD.out], B1, HBX⟩
  case rest =>
  obtain ⟨rfl, BC, HB⟩ := hcut
  clear p0 p1 p2 p3 p4 p5 p6 B1 HBX R2
  by_cases g0 : ¬ (c.Reserve ≤ mMax ∧ c.Most ≤ mMax) ∨ 64 < n ∨ (c.Open = false ∧ 0 < n)
  · rw [decide_eq_true g0]
    have HE := hid (show chE c = 1 from if_neg fun h => by
      rcases g0 with q | q | q
      · exact q ⟨h.1, h.2.1⟩
      · have := h.2.2.1; rw [HL.out] at this; omega
      · have h1 := h.2.2.2.1 q.1; have h2 := HL.out; rw [h1] at h2; simp at h2; omega)
    clear g0
    go_wp2
    go_ret
    exact ⟨ret_num HE.out.symm, HB⟩
  rw [decide_eq_false g0]
  have a1 : c.Reserve ≤ mMax ∧ c.Most ≤ mMax := Decidable.by_contra fun q => g0 (.inl q)
  have a2 : n ≤ 64 := Nat.not_lt.1 fun q => g0 (.inr (.inl q))
  have a3 : c.Open = false → c.Holds = [] := fun q => List.eq_nil_of_length_eq_zero (by rw [HL.out]; exact Nat.eq_zero_of_not_pos fun r => g0 (.inr (.inr ⟨q, r⟩)))
  have QA := hid (And.intro a1 a3)
  clear g0 a1 a3
  have KC := hid (fun (W : World) (h : Below wc.heap.size wc W) => (BC.call h).all)
  have HS := hid (fun (W : World) (h : Below wc.heap.size wc W) => Sl.call hs (bel_call HB h))
  have HCC := Below.refl wc.heap.size wc
  obtain ⟨p0, p1, p2, p3, p4, p5, p6⟩ := KC.out _ HCC
  go_wp2
  clear p0 p1 p2 p3 p4 p5 p6
  go_loopw [36] (fun i wr => ∃ j : Nat, j ≤ n ∧ i = .int .i64 j ∧ Hid (∀ i (hi : i < c.Holds.length), i < j → c.Holds[i].N ≠ 0 ∧ (∀ h0 : 0 < i, (c.Holds[i - 1]'(by omega)).Id < c.Holds[i].Id)) ∧ Below wc.heap.size wc wr) (fun i _ => n - (intOf i).toNat)
  case atStart => exact ⟨0, Nat.zero_le _, rfl, hid fun i hi h => absurd h (by omega), HCC⟩
  case round =>
  clear HCC
  obtain ⟨j, hj, rfl, HP, hbel⟩ := hrel
  by_cases hlt : j < n
  · obtain ⟨b1, o1, hx1, rfl, hb1, t1, t2, hwh⟩ := hld_at (HS.out _ hbel) hlt
    have hba := bel_alloc hbel (Obj.cells #[.int .u64 c.Holds[j].Id, .int .u64 c.Holds[j].N] 41)
    have HBX := bel_call HB hba
    obtain ⟨-, -, -, -, -, p5, -⟩ := KC.out _ hba
    have y0 : (wr.alloc (Obj.cells #[.int .u64 c.Holds[j].Id, .int .u64 c.Holds[j].N] 41)).cell? ⟨wr.heap.size, 0, none⟩ = some (.int .u64 c.Holds[j].Id) := by rw [World.cell?_alloc_at _ _ _ _ rfl]; rfl
    have y1 : (wr.alloc (Obj.cells #[.int .u64 c.Holds[j].Id, .int .u64 c.Holds[j].N] 41)).cell? ⟨wr.heap.size, 1, none⟩ = some (.int .u64 c.Holds[j].N) := by rw [World.cell?_alloc_at _ _ _ _ rfl]; rfl
    have HSA := HS.out _ hba
    go_upto_region 6 with (fail)
    generalize wr.alloc (Obj.cells #[.int .u64 c.Holds[j].Id, .int .u64 c.Holds[j].N] 41) = W5 at *
    clear t1 t2
    by_cases g1 : c.Holds[j].N = 0
    · have d1 : (c.Holds[j].N == 0) = true := by simpa using g1
      have HE := hid (show chE c = 1 from if_neg fun h => h.2.2.2.2.1 _ (List.getElem_mem hx1) g1)
      clear g1
      go_quiet (fail)
      go_wp2
      go_ret
      exact ⟨ret_num HE.out.symm, bel_drewN HBX _⟩
    have d1 : (c.Holds[j].N == 0) = false := by simpa using g1
    by_cases g2 : j = 0
    · have d2 : decide ((0 : Int) < (j : Int)) = false := by simp; omega
      have d2' : decide (0 < j) = false := decide_eq_false (by omega)
      have HN := hid (show ∀ i (hi : i < c.Holds.length), i < j + 1 → c.Holds[i].N ≠ 0 ∧ (∀ h0 : 0 < i, (c.Holds[i - 1]'(by omega)).Id < c.Holds[i].Id) from fun i hi h => by
        have e : i = j := by omega
        subst e
        exact ⟨g1, fun h0 => absurd h0 (by omega)⟩)
      have HG2 := hid g2
      clear g1 g2
      go_quiet (fail)
      go_wp2
      go_roundw
      case rel => exact ⟨j + 1, by omega, by go_num, HN, bel_drewN hba _⟩
      case measure => simp [intOf]; omega
    have d2 : decide ((0 : Int) < (j : Int)) = true := by simp; omega
    have d2' : decide (0 < j) = true := decide_eq_true (by omega)
    obtain ⟨q, hq⟩ : ∃ q : Nat, q + 1 = j := ⟨j - 1, by omega⟩
    have hkn : (j : Int) - 1 = (q : Int) := by omega
    have hwk : IntKind.i64.wrap (q : Int) = (q : Int) := IntWalk.i64_in _ (by omega)
    obtain ⟨b2, o2, hx2, hA2, -, u1, -, -⟩ := hld_at HSA (show q < n by omega)
    injection hA2 with hA2
    injection hA2 with e1 e2
    subst e1 e2
    have ik : (0 : Int) ≤ (q : Int) ∧ (q : Int) < (n : Int) := by omega
    have ik2 : q < n := by omega
    by_cases g3 : c.Holds[q].Id < c.Holds[j].Id
    · have d3 : decide (c.Holds[j].Id ≤ c.Holds[q].Id) = false := by simp; omega
      have HN := hid (show ∀ i (hi : i < c.Holds.length), i < j + 1 → c.Holds[i].N ≠ 0 ∧ (∀ h0 : 0 < i, (c.Holds[i - 1]'(by omega)).Id < c.Holds[i].Id) from fun i hi h => by
        by_cases hij : i < j
        · exact HP.out i hi hij
        · have e : i = j := by omega
          subst e
          refine ⟨g1, fun _ => ?_⟩
          have e : i - 1 = q := by omega
          simp only [e]
          exact g3)
      have HQ := hid hq
      clear g1 g2 g3 hq
      generalize c.Holds[q].Id = qi at *
      go_quiet (fail)
      go_wp2
      go_roundw
      case rel => exact ⟨j + 1, by omega, by go_num, HN, bel_drewN hba _⟩
      case measure => simp [intOf]; omega
    · have d3 : decide (c.Holds[j].Id ≤ c.Holds[q].Id) = true := by simp; omega
      have HE := hid (show chE c = 1 from if_neg fun h => g3 (List.pairwise_iff_getElem.1 h.2.2.2.2.2.1 q j hx2 hx1 (by omega)))
      have HQ := hid hq
      clear g1 g2 g3 hq
      generalize c.Holds[q].Id = qi at *
      go_quiet (fail)
      go_wp2
      go_ret
      exact ⟨ret_num HE.out.symm, bel_drewN HBX _⟩
  · have hjn : j = n := by omega
    have a5 : ∀ h ∈ c.Holds, h.N ≠ 0 := fun x hx => by
      obtain ⟨i, hi, rfl⟩ := List.getElem_of_mem hx
      exact (HP.out i hi (by rw [HL.out] at hi; omega)).1
    have a6 : HUp c.Holds := up_of fun i hi h0 => (HP.out i hi (by rw [HL.out] at hi; omega)).2 h0
    have QB := hid (And.intro a5 a6)
    clear a5 a6 HP hjn
    have hh := sl_hlds hs
    obtain ⟨p0, p1, p2, p3, p4, p5, p6⟩ := KC.out _ hbel
    go_wp2_with fail
    refine (refAmounts_any A n k c.Holds wr (HS.out _ hbel) (by omega)).mono ?_
    rintro e w3 ⟨v3, rfl, ho3, hb3⟩
    obtain ⟨A3, n3, c3, rfl, hr3⟩ := ho3.formN
    have hbx := bel_call hbel hb3
    have HBX := bel_call HB hbx
    clear p0 p1 p2 p3 p4 p5 p6 hb3 ho3
    obtain ⟨p0, p1, p2, p3, p4, p5, p6⟩ := KC.out _ hbx
    obtain ⟨ae, hae⟩ : ∃ z, addE (numsH c.Holds) = z := ⟨_, rfl⟩
    obtain ⟨an, han⟩ : ∃ z, addN (numsH c.Holds) = z := ⟨_, rfl⟩
    have AE := hid hae
    have AN := hid han
    clear hae han
    go_wp2_with fail
    refine (rmAdd_any A3 n3 c3 _ (numsH c.Holds) w3 hr3).mono ?_
    rw [AE.out, AN.out]
    rintro e w4 ⟨rfl, rfl⟩
    clear hr3
    by_cases hz : ae = 0
    rotate_left
    · have HE := hid (show chE c = 1 from if_neg fun h => hz (by rw [← AE.out]; exact (ch_add h).1))
      have dz : (ae != 0) = true := by simpa using hz
      clear hz
      go_wp2
      go_ret
      exact ⟨ret_num HE.out.symm, HBX⟩
    subst hz
    obtain ⟨s1, s2, s3⟩ := add_nums AE.out
    rw [AN.out] at s3
    have hhe : an = heldN c := s3
    have hm : mMax = 4611686018427387904 := rfl
    have h0 : 0 ≤ an := by rw [hhe]; exact held_nonneg hh
    have h1 : an ≤ mMax := by rw [s3]; exact s2
    by_cases g : c.Most < an
    · have HE := hid (show chE c = 1 from if_neg fun h => by have := h.2.2.2.2.2.2.2.1; omega)
      have dg : decide (c.Most < an) = true := decide_eq_true g
      clear g s1 s2 s3 hhe h0 h1 hm
      go_wp2
      go_ret
      exact ⟨ret_num HE.out.symm, HBX⟩
    have dg : decide (c.Most < an) = false := decide_eq_false g
    have wan : (Lit.int .u64 an).wf = true := wf_u64 (by omega)
    have HR := hid (rmAdd_any _ _ _ _ _ _ (rd_three w3 c.Local c.Remote an hw.loc hw.rem wan))
    obtain ⟨be, hbe⟩ : ∃ z, addE [c.Local, c.Remote, an] = z := ⟨_, rfl⟩
    obtain ⟨bn, hbn⟩ : ∃ z, addN [c.Local, c.Remote, an] = z := ⟨_, rfl⟩
    rw [hbe, hbn] at HR
    have BE := hid hbe
    have HH := hid (show ChOk c ↔ be = 0 from by
      rw [← BE.out]
      constructor
      · intro h
        rw [hhe]
        exact (ch_add h).2.2.1
      · intro h
        obtain ⟨t1, t2, -⟩ := add_nums h
        rw [allLe_iff] at t1
        have u1 := t1 c.Local (by simp)
        have u2 := t1 c.Remote (by simp)
        have u3 : c.Local + c.Remote + an ≤ mMax := by simp [sumM] at t2; omega
        exact ⟨QA.out.1.1, QA.out.1.2, by rw [HL.out]; exact a2, QA.out.2, QB.out.1, QB.out.2, s1, by rw [← hhe]; omega, u1, u2, by rw [← hhe]; exact u3⟩)
    have HBY := hid (bel_alloc HBX (Obj.cells #[.int .u64 c.Local, .int .u64 c.Remote, .int .u64 an] 23))
    clear hbe hbn g s1 s2 s3 hhe h0 h1 hm
    go_wp2_with fail
    refine HR.out.mono ?_
    rintro e w5 ⟨rfl, rfl⟩
    by_cases hz : be = 0
    · have HE := hid (show chE c = 0 from if_pos (HH.out.2 hz))
      subst hz
      go_wp2
      go_ret
      exact ⟨ret_num HE.out.symm, HBY.out⟩
    · have HE := hid (show chE c = 1 from if_neg fun h => hz (HH.out.1 h))
      have dz : (be != 0) = true := by simpa using hz
      clear hz
      go_wp2
      go_ret
      exact ⟨ret_num HE.out.symm, HBY.out⟩
end Go.Proofs.Ytanlpcndbfmkiaa
