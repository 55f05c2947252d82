/-
  The contracts of the document's small answers of layer 8: whether two rows of roots are the same, whether one has a key, which roots may be, which one has a number.
-/
import Derived.Test.YtlenoiaepanejaaRootsMath
import Derived.Test.YtlenoiaepanejaaStep
import Derived.Test.YtlenoiaepanejaaStd
import Derived.Test.YtlenoiaepanejaaRet
import Derived.Test.YtlenoiaepanejaaVars
import Derived.DeepKeys4
import Derived.Deep.Cut
import Derived.BigQuiet
import Derived.Deep.QuietTactic
import Derived.StillTailTactics
namespace Go.Proofs.Ytlenoiaepanejaa
open Go.RowKit Go.WalkArith

theorem rtCells : Try.prog.cellsOf 34 = 3 := by kernel_rfl
theorem rtCellsU : Try.prog.cellsOf 23 = 1 := by kernel_rfl
theorem rtCellsB : Try.prog.cellsOf 4 = 1 := by kernel_rfl
theorem rtKey : Try.prog.keyTypeAt 2 34 = true := by kernel_rfl
abbrev rtkV (c : Rtk) : Value := .agg #[.int .u64 c.Id, .int .u64 c.Key, .bool c.Gone]
theorem rtLits {c : Rtk} (h : RtkWf c) : Try.prog.keyLits 2 34 [.int .u64 c.Id, .int .u64 c.Key, .bool c.Gone] = some [.int .u64 c.Id, .int .u64 c.Key, .bool c.Gone] := by
  simp [Program.keyLits, Try.underlying34, rtCells, rtCellsU, rtCellsB, Try.underlying23, Try.underlying4, h.id, h.key]
theorem rtFormed (c : Rtk) : (rtkV c).formed Try.prog 34 = true := by simp [Value.formed, Try.underlying34, rtCells]
/-- Two roots compared. -/
theorem run_neRtk {c d : Rtk} (hc : RtkWf c) (hd : RtkWf d) (w : World) : (binOp .neq 34 (.agg #[.int .u64 c.Id, .int .u64 c.Key, .bool c.Gone]) (.agg #[.int .u64 d.Id, .int .u64 d.Key, .bool d.Gone])).run Try.prog w = .ok (.bool (!decide (c = d))) w := by
  obtain ⟨r, hr, hi⟩ := run_equalIn_deep 9998 2 _ rtKey w 2 2 (rtkV c) (rtkV d) _ _ (rtFormed c) (rtFormed d) (rtLits hc) (rtLits hd)
  have h9 : (Op.equal 34 (rtkV c) (rtkV d)).run Try.prog w = .ok r w := hr
  have : r = decide (c = d) := by
    rw [Bool.eq_iff_iff, hi, decide_eq_true_iff]
    constructor
    · intro e
      simp only [List.cons.injEq, Lit.int.injEq, Lit.bool.injEq, true_and, and_true] at e
      cases c; cases d; simp_all
    · rintro rfl
      rfl
  rw [← this]
  simp [binOp, h9]
theorem drew_add8 (w : World) (m n : Nat) : (w.drewN m).drewN n = w.drewN (m + n) := by
  simp [World.drewN, Nat.add_assoc]
theorem take_same8 {l o : List Rtk} {j : Nat} (hx : j < l.length) (hy : j < o.length) (h : l.take j = o.take j) (e : l[j] = o[j]) : l.take (j + 1) = o.take (j + 1) := by
  rw [List.take_succ_eq_append_getElem hx, List.take_succ_eq_append_getElem hy, h, e]

set_option maxRecDepth 100000 in
set_option maxHeartbeats 1000000 in
theorem refSame8_any (A1 A2 : Option Addr) (n1 c1 n2 c2 : Nat) (S : Nat → Prop) (l o : List Rtk) (w : World) (h1 : Sl lay_RootKey w S A1 n1 c1 l) (h2 : Sl lay_RootKey w S A2 n2 c2 o) :
    Calls Try.prog 17 #[.slice A1 n1 c1, .slice A2 n2 c2] w fun e w' => e = .returned (.bool (decide (l = o))) ∧ ∃ m, w' = w.drewN m := by
  have K1 := hid h1.len
  have K2 := hid h2.len
  have k1 := h1.cap
  have k2 := h2.cap
  unfold maxLen at k1 k2
  by_cases hl : n1 = n2
  · subst hl
    have hne : ((n1 : Int) != (n1 : Int)) = false := by simp
    go_enter Try.func17, Try.ntmps17
    go_wp2
    go_loopw [13] (fun i wr => ∃ j : Nat, j ≤ n1 ∧ i = .int .i64 j ∧ l.take j = o.take j ∧ ∃ m, wr = w.drewN m) (fun i _ => n1 - (intOf i).toNat)
    case atStart => exact ⟨0, Nat.zero_le _, rfl, rfl, 0, rfl⟩
    case round =>
      obtain ⟨j, hj, rfl, hpre, m, hwr⟩ := hrel
      have HP := hid hpre
      have HW := hid hwr
      clear hpre hwr
      by_cases hlt : j < n1
      · obtain ⟨b1, o1, hx1, rfl, -, t1, t2, t3, w1⟩ := rtk_at h1 hlt
        obtain ⟨b2, o2, hx2, rfl, -, u1, u2, u3, w2⟩ := rtk_at h2 hlt
        have hne2 := run_neRtk w1 w2
        clear w1 w2
        have q1 : wr.cell? ⟨b1, o1 + j * 3, none⟩ = some (.int .u64 l[j].Id) := by rw [HW.out]; exact t1
        have q2 : wr.cell? ⟨b1, o1 + j * 3 + 1, none⟩ = some (.int .u64 l[j].Key) := by rw [HW.out]; exact t2
        have q3 : wr.cell? ⟨b1, o1 + j * 3 + 2, none⟩ = some (.bool l[j].Gone) := by rw [HW.out]; exact t3
        have p1 : wr.cell? ⟨b2, o2 + j * 3, none⟩ = some (.int .u64 o[j].Id) := by rw [HW.out]; exact u1
        have p2 : wr.cell? ⟨b2, o2 + j * 3 + 1, none⟩ = some (.int .u64 o[j].Key) := by rw [HW.out]; exact u2
        have p3 : wr.cell? ⟨b2, o2 + j * 3 + 2, none⟩ = some (.bool o[j].Gone) := by rw [HW.out]; exact u3
        clear t1 t2 t3 u1 u2 u3
        by_cases he : l[j] = o[j]
        · have HN := hid (take_same8 hx1 hx2 HP.out he)
          rw [decide_eq_true he] at hne2
          clear he
          go_wp2_with fail
          go_quiet (fail)
          go_wp2
          go_roundw
          case rel => exact ⟨j + 1, by omega, by go_num, HN.out, m + _, by rw [HW.out]; exact drew_add8 w m _⟩
          case measure => simp [intOf]; omega
        · have HN := hid (show decide (l = o) = false from decide_eq_false fun e => he (by simp only [e]))
          rw [decide_eq_false he] at hne2
          clear he
          go_wp2_with fail
          go_quiet (fail)
          go_wp2
          go_ret
          exact ⟨ret_bool HN.out.symm, m + _, by rw [HW.out]; exact drew_add8 w m _⟩
      · have HN := hid (show decide (l = o) = true from by
          have := HP.out
          rw [List.take_of_length_le (by rw [K1.out]; omega), List.take_of_length_le (by rw [K2.out]; omega)] at this
          exact decide_eq_true this)
        go_wp2
        go_ret
        exact ⟨ret_bool HN.out.symm, m, HW.out⟩
  · have hne : ((n1 : Int) != (n2 : Int)) = true := by simp; omega
    have HN := hid (show decide (l = o) = false from decide_eq_false fun e => by rw [e] at K1; have a1 := K1.out; have a2 := K2.out; omega)
    go_enter Try.func17, Try.ntmps17
    go_wp2
    go_ret
    exact ⟨ret_bool HN.out.symm, 0, rfl⟩

theorem hasK_take {l : List Rtk} {j : Nat} (hj : j < l.length) (k : Int) : hasK (l.take (j + 1)) k = (hasK (l.take j) k || (l[j].Key == k)) := by
  unfold hasK
  rw [List.take_succ_eq_append_getElem hj, List.any_append]
  simp
theorem hasK_at {l : List Rtk} {j : Nat} (hj : j < l.length) : hasK l l[j].Key = true := hasK_iff.2 ⟨l[j], List.getElem_mem hj, rfl⟩

set_option maxHeartbeats 1000000 in
theorem refHas8_any (A : Option Addr) (n c : Nat) (S : Nat → Prop) (l : List Rtk) (k : Int) (w : World) (h : Sl lay_RootKey w S A n c l) (hS : ∀ b, S b → b < w.heap.size) :
    Calls Try.prog 25 #[.slice A n c, .int .u64 k] w fun e w' => e = .returned (.bool (hasK l k)) ∧ Below w.heap.size w w' := by
  have HL := hid h.len
  have hcap := h.cap
  unfold maxLen at hcap
  go_enter Try.func25, Try.ntmps25
  go_wp2
  go_loopw [9] (fun i wr => ∃ j : Nat, j ≤ n ∧ i = .int .i64 j ∧ hasK (l.take j) k = false ∧ Below w.heap.size w wr) (fun i _ => n - (intOf i).toNat)
  case atStart => exact ⟨0, Nat.zero_le _, rfl, by simp [hasK], Below.refl _ _⟩
  case round =>
    obtain ⟨j, hj, rfl, hpre, hbel⟩ := hrel
    have HP := hid hpre
    clear hpre
    by_cases hlt : j < n
    · obtain ⟨b1, o1, hx1, rfl, hb1, t1, t2, t3, hw⟩ := rtk_at h hlt
      have q1 := (hbel.cell (p := ⟨b1, o1 + j * 3, none⟩) (hS _ hb1)).trans t1
      have q2 := (hbel.cell (p := ⟨b1, o1 + j * 3 + 1, none⟩) (hS _ hb1)).trans t2
      have q3 := (hbel.cell (p := ⟨b1, o1 + j * 3 + 2, none⟩) (hS _ hb1)).trans t3
      have HT := hid (hasK_take hx1 k)
      have HA := hid (hasK_at hx1)
      have hba := bel_alloc hbel (Obj.cells #[.int .u64 l[j].Id, .int .u64 l[j].Key, .bool l[j].Gone] 34)
      clear t1 t2 t3 hw
      by_cases he : l[j].Key = k
      · have d1 : (l[j].Key == k) = true := by simpa using he
        rw [he] at HA
        clear he HT
        go_wp2
        go_ret
        exact ⟨ret_bool HA.out.symm, hba⟩
      · have d1 : (l[j].Key == k) = false := by simpa using he
        have HN := hid (show hasK (l.take (j + 1)) k = false from by rw [HT.out, HP.out, d1]; rfl)
        clear he HT HA
        go_wp2
        go_roundw
        case rel => exact ⟨j + 1, by omega, by go_num, HN.out, hba⟩
        case measure => simp [intOf]; omega
    · have HN := hid (show hasK l k = false from by have := HP.out; rwa [List.take_of_length_le (by rw [HL.out]; omega)] at this)
      go_wp2
      go_ret
      exact ⟨ret_bool HN.out.symm, hbel⟩

theorem up_take {l : List Rtk} {j : Nat} (hj : j < l.length) (h : RtUp (l.take j)) (hl : ∀ k (hk : k < l.length), k + 1 = j → l[k].Id < l[j].Id) : RtUp (l.take (j + 1)) := by
  unfold RtUp at h ⊢
  rw [List.take_succ_eq_append_getElem hj, List.pairwise_append]
  refine ⟨h, List.pairwise_singleton _ _, fun a ha b hb => ?_⟩
  simp only [List.mem_singleton] at hb
  subst hb
  obtain ⟨i, hi, rfl⟩ := List.getElem_of_mem ha
  rw [List.length_take] at hi
  rw [List.getElem_take]
  rcases Nat.lt_or_ge (i + 1) j with q | q
  · have h1 := List.pairwise_iff_getElem.1 h i (j - 1) (by rw [List.length_take]; omega) (by rw [List.length_take]; omega) (by omega)
    rw [List.getElem_take, List.getElem_take] at h1
    have h2 := hl (j - 1) (by omega) (by omega)
    omega
  · exact hl i (by omega) (by omega)
theorem ks_take {l : List Rtk} {j : Nat} (hj : j < l.length) (h : RtKs (l.take j)) (hk : hasK (l.take j) l[j].Key = false) : RtKs (l.take (j + 1)) := by
  unfold RtKs at h ⊢
  rw [List.take_succ_eq_append_getElem hj, List.pairwise_append]
  refine ⟨h, List.pairwise_singleton _ _, fun a ha b hb e => ?_⟩
  simp only [List.mem_singleton] at hb
  subst hb
  have : hasK (l.take j) l[j].Key = true := hasK_iff.2 ⟨a, ha, e⟩
  rw [hk] at this; cases this
theorem rk_bad1 {l : List Rtk} {k j : Nat} (hj : j < l.length) (hk : k < j) (h : l[j].Id ≤ l[k].Id) : rkE l = 1 := if_neg fun q => by
  have := List.pairwise_iff_getElem.1 q.2.1 k j (by omega) hj hk
  omega
theorem rk_bad2 {l : List Rtk} {j : Nat} (hj : j < l.length) (h : hasK (l.take j) l[j].Key = true) : rkE l = 1 := if_neg fun q => by
  obtain ⟨r, h1, h2⟩ := hasK_iff.1 h
  obtain ⟨i, hi, rfl⟩ := List.getElem_of_mem h1
  rw [List.length_take] at hi
  rw [List.getElem_take] at h2
  exact List.pairwise_iff_getElem.1 q.2.2 i j (by omega) hj (by omega) h2
theorem Try.infoRtk : (Try.prog.info? 34).map (fun i => (i.zero, i.size, i.bytes)) = some (some (.agg #[.int .u64 0, .int .u64 0, .bool false]), lay_RootKey.size, 24) := by kernel_rfl
theorem Try.elemRtk : Try.prog.elem 22 = 34 := by kernel_rfl
end Go.Proofs.Ytlenoiaepanejaa
