/-
  Package ledger: what the channels' parts are together; how much is ours.
-/
import Derived.Test.YtanlpcndbfmkiaaPack1
import Derived.Test.YtanlpcndbfmkiaaPack2
import Derived.Test.YtanlpcndbfmkiaaPack3
import Derived.Test.YtanlpcndbfmkiaaPack4
import Derived.Test.YtanlpcndbfmkiaaPack5
import Derived.Test.YtanlpcndbfmkiaaPack6
import Derived.Test.YtanlpcndbfmkiaaPack7
import Derived.Test.YtanlpcndbfmkiaaPack8
import Derived.Test.YtanlpcndbfmkiaaPack9
import Derived.Test.YtanlpcndbfmkiaaPack10
import Derived.Test.YtanlpcndbfmkiaaPack11
import Derived.Test.YtanlpcndbfmkiaaPack12
import Derived.Test.YtanlpcndbfmkiaaPack13
import Derived.Test.YtanlpcndbfmkiaaPack14
import Derived.Test.YtanlpcndbfmkiaaPack15
import Derived.Test.YtanlpcndbfmkiaaPack16
import Derived.Test.YtanlpcndbfmkiaaPack17
import Derived.Test.YtanlpcndbfmkiaaPack18
import Derived.Test.YtanlpcndbfmkiaaPack19
import Derived.Test.YtanlpcndbfmkiaaPack20
import Derived.Test.YtanlpcndbfmkiaaPack21
import Derived.Test.YtanlpcndbfmkiaaPack22
import Derived.Test.YtanlpcndbfmkiaaPack23
import Derived.Test.YtanlpcndbfmkiaaPack24
namespace Go.Proofs.Ytanlpcndbfmkiaa
open Go.RowKit Go.WalkArith

theorem made_listL (n : Nat) (z : Value) : madeCells #[z] n = (List.replicate n z).toArray := by
  apply Array.ext
  · simp [size_madeCells]
  · intro i h1 h2
    simp [madeCells, Nat.mod_one]
/-- Numbers written one by one into a row of zeros. -/
def partL (f : Chn → Value) (z : Value) (l : List Chn) (n j : Nat) : List Value := (l.take j).map f ++ List.replicate (n - j) z
theorem part_next {f : Chn → Value} {z : Value} {l : List Chn} {n j : Nat} (hl : l.length = n) (hj : j < n) (hx : j < l.length) : (partL f z l n j).set j (f l[j]) = partL f z l n (j + 1) := by
  have h1 : ((l.take j).map f).length = j := by simp; omega
  unfold partL
  rw [List.set_append_right _ _ (by omega), h1, Nat.sub_self, show n - j = n - (j + 1) + 1 from by omega, List.replicate_succ, List.set_cons_zero, List.take_succ_eq_append_getElem hx, List.map_append, List.append_assoc]
  rfl
theorem part_len {f : Chn → Value} {z : Value} {l : List Chn} {n j : Nat} (hl : l.length = n) (hj : j ≤ n) : (partL f z l n j).length = n := by
  unfold partL
  simp; omega
theorem part_at {f : Chn → Value} {z : Value} {l : List Chn} {n j : Nat} (hl : l.length = n) (hj : j < n) : (partL f z l n j)[j]? = some z := by
  have h1 : ((l.take j).map f).length = j := by simp; omega
  unfold partL
  rw [List.getElem?_append_right (by omega), h1, Nat.sub_self, List.getElem?_replicate, if_pos (by omega)]
/-- A row of numbers that fills its block. -/
theorem Rd.block {w : World} {B g : Nat} {t : TypeId} {xs : List Int} (hg : w.heap[g]? = some (.cells (xs.map (Value.int .u64)).toArray t (0, 0))) (hB : g < B) (hm : xs.length ≤ maxLen) (hw : ∀ x ∈ xs, (Lit.int .u64 x).wf = true) : Rd w B .u64 (some ⟨g, 0, none⟩) xs.length xs.length xs := by
  refine ⟨rfl, Nat.le_refl _, hm, hw, by simp, fun _ => ⟨g, 0, rfl, hB, fun j hj => ?_⟩⟩
  rw [nth_get hj, Nat.zero_add]
  simp [World.cell?, hg, List.getElem?_eq_getElem hj]

set_option maxRecDepth 100000 in
set_option maxHeartbeats 4000000 in
/-- What the channels' parts are together, whatever part it is. -/
theorem lTogether_any (F : Nat) (val err : Chn → Int) (hF : ∀ (s : Array Value) (c : Chn) (w : World), lay_Channel.rep w (· < w.heap.size) c s.toList → Calls Try.prog F #[.agg s] w fun e w' => e = .returned (.tuple #[.int .u64 (val c), .int .i64 (err c)]) ∧ Below w.heap.size w w')
    (hE : ∀ (args : Array Value) (w : World), (callFunc F args).run Try.prog w = .ok (.enter F args) w) (A : Option Addr) (n k : Nat) (l : List Chn) (hv : ∀ c ∈ l, (Lit.int .u64 (val c)).wf = true) (w : World) (h : Sl lay_Channel w (· < w.heap.size) A n k l) (hn : n ≤ 1048576) :
    Calls Try.prog 41 #[.slice A n k, .func (.func F) #[] #[]] w fun e w' => ∃ v x, e = .returned (.tuple #[.int .u64 v, .int .i64 x]) ∧ ((∀ c ∈ l, err c = 0) → v = addN (l.map val) ∧ x = addE (l.map val)) ∧ ((∃ c ∈ l, err c ≠ 0) → x ≠ 0) ∧ Below w.heap.size w w' := by
  have HL := hid h.len
  have HF := hid hF
  have HV := hid hv
  have hcap := h.cap
  unfold maxLen at hcap
  clear hF hv
  have hmk := run_make_row' (P := Try.prog) 53 23 (.int .u64 0) 8 Try.underlying53 Try.infoU64 rfl .i64 .i64 n (by omega) (by omega) w
  have hg0 : (w.alloc (.cells (madeCells #[.int .u64 0] n) 23)).heap[w.heap.size]? = some (.cells (partL (fun c => .int .u64 (val c)) (.int .u64 0) l n 0).toArray 23 (0, 0)) := by
    rw [heap_alloc_new, made_listL]
    simp [partL]
  have hb0 := bel_alloc (Below.refl w.heap.size w) (.cells (madeCells #[.int .u64 0] n) 23)
  go_enter Try.func41, Try.ntmps41
  go_wp2
  go_loopw [16] (fun i wr => ∃ j : Nat, j ≤ n ∧ i = .int .i64 j ∧ wr.heap[w.heap.size]? = some (.cells (partL (fun c => .int .u64 (val c)) (.int .u64 0) l n j).toArray 23 (0, 0)) ∧ (∀ c ∈ l.take j, err c = 0) ∧ Below w.heap.size w wr) (fun i _ => n - (intOf i).toNat)
  case atStart => exact ⟨0, Nat.zero_le _, rfl, hg0, by simp, hb0⟩
  case round =>
    obtain ⟨j, hj, rfl, hg, hpre, hbel⟩ := hrel
    have HG := hid hg
    have HP := hid hpre
    clear hg hpre
    by_cases hlt : j < n
    · obtain ⟨b, off, A', n', c', hx, rfl, hb, t0, t1, t2, t3, t4, t5, t6, hw, hs⟩ := chn_at h hlt
      have q0 := (hbel.cell (p := ⟨b, off + j * 7, none⟩) hb).trans t0
      have q1 := (hbel.cell (p := ⟨b, off + j * 7 + 1, none⟩) hb).trans t1
      have q2 := (hbel.cell (p := ⟨b, off + j * 7 + 2, none⟩) hb).trans t2
      have q3 := (hbel.cell (p := ⟨b, off + j * 7 + 3, none⟩) hb).trans t3
      have q4 := (hbel.cell (p := ⟨b, off + j * 7 + 4, none⟩) hb).trans t4
      have q5 := (hbel.cell (p := ⟨b, off + j * 7 + 5, none⟩) hb).trans t5
      have q6 := (hbel.cell (p := ⟨b, off + j * 7 + 6, none⟩) hb).trans t6
      have hba := bel_alloc (Below.refl wr.heap.size wr) (Obj.cells #[.int .u64 l[j].Id, .int .u64 l[j].Local, .int .u64 l[j].Remote, .int .u64 l[j].Reserve, .int .u64 l[j].Most, .slice A' n' c', .bool l[j].Open] 26)
      have PR := hid (chan_in hw (Sl.call hs hbel) hba)
      have hsz := hbel.size
      have HM := hid (List.getElem_mem hx)
      have HT := hid (List.take_succ_eq_append_getElem hx)
      have HN := hid (part_next (f := fun c => .int .u64 (val c)) (z := .int .u64 0) HL.out hlt hx)
      clear t0 t1 t2 t3 t4 t5 t6 hw hs
      go_wp2_with fail
      with_reducible refine (HF.out _ l[j] _ PR.out).mono ?_
      rintro e w2 ⟨rfl, hb2⟩
      have HBB := bel_call hba hb2
      have HB2 := hbel.trans (HBB.mono hsz)
      have hg2 := (HBB.block w.heap.size (Array.getElem?_eq_some_iff.1 HG.out).1).trans HG.out
      clear hb2 hba
      by_cases he : err l[j] = 0
      · have HE := hid he
        rw [he]
        clear he
        have y0 : w2.cell? ⟨w.heap.size, j, none⟩ = some (.int .u64 0) := by
          simp only [World.cell?, hg2]
          simpa using part_at (f := fun c => .int .u64 (val c)) (z := .int .u64 0) HL.out hlt
        have f0 : w2.frozen? ⟨w.heap.size, j, none⟩ = false := by simp [World.frozen?, hg2]
        have HG9 := hid (show (w2.setCell ⟨w.heap.size, j, none⟩ (.int .u64 (val l[j]))).heap[w.heap.size]? = some (.cells (partL (fun c => .int .u64 (val c)) (.int .u64 0) l n (j + 1)).toArray 23 (0, 0)) from by
          rw [heap_setCell_same _ _ _ _ _ _ hg2, ← HN.out]
          simp)
        have HB9 := hid (HB2.setCell (p := ⟨w.heap.size, j, none⟩) (Nat.le_refl _) (.int .u64 (val l[j])))
        clear hg2 HB2
        go_wp2
        go_roundw
        case rel => exact ⟨j + 1, by omega, by go_num, HG9.out, by
          rw [HT.out]
          intro c hc
          rcases List.mem_append.1 hc with hc | hc
          · exact HP.out c hc
          · simp at hc
            rw [hc]; exact HE.out, HB9.out⟩
        case measure => simp [intOf]; omega
      · have HE := hid he
        have hne : (err l[j] == 0) = false := by simpa using he
        have hne2 : (err l[j] != 0) = true := by simpa using he
        generalize hq : err l[j] = x at *
        have HQ := hid hq
        clear hq he
        go_wp2
        go_ret2
        exact ⟨0, x, rfl, fun hz => absurd (HQ.out.symm.trans (hz _ HM.out)) HE.out, fun _ => HE.out, HB2⟩
    · have hjn : j = n := by omega
      have HE2 := hid (show l.take j = l from List.take_of_length_le (by rw [HL.out]; omega))
      have HRD := hid (show Rd wr (w.heap.size + 1) .u64 (some ⟨w.heap.size, 0, none⟩) n n (l.map val) from by
        have hg := HG.out
        have e1 : partL (fun c => Value.int .u64 (val c)) (.int .u64 0) l n j = (l.map val).map (Value.int .u64) := by
          unfold partL
          rw [HE2.out, hjn, Nat.sub_self]
          simp [Function.comp_def]
        rw [e1] at hg
        have := Rd.block hg (Nat.lt_succ_self _) (by simp; rw [HL.out]; unfold maxLen; omega) (fun x hx => by
          obtain ⟨c, hc, rfl⟩ := List.mem_map.1 hx
          exact HV.out c hc)
        rw [List.length_map, HL.out] at this
        exact this)
      have hlt' := (Array.getElem?_eq_some_iff.1 HG.out).1
      go_wp2_with fail
      with_reducible refine (mAdd_any _ n n _ (l.map val) wr HRD.out (Nat.succ_le_of_lt hlt')).mono ?_
      rintro e w2 ⟨rfl, hb2⟩
      go_wp2
      go_ret2
      exact ⟨_, _, rfl, fun _ => ⟨rfl, rfl⟩, fun ⟨c, hc, hne⟩ => absurd (HP.out c (by rw [HE2.out]; exact hc)) hne, hbel.trans (hb2.mono hbel.size)⟩

set_option maxHeartbeats 1000000 in
theorem localIf_any (s : Array Value) (c : Chn) (w : World) (r : lay_Channel.rep w (· < w.heap.size) c s.toList) :
    Calls Try.prog 64 #[.agg s] w fun e w' => e = .returned (.tuple #[.int .u64 (if c.Open = true then c.Local else 0), .int .i64 0]) ∧ Below w.heap.size w w' := by
  obtain ⟨A, n, k, rfl, hw, hs⟩ := agg_Channel r
  clear r hs
  have HB := hid (bel_alloc (Below.refl w.heap.size w) (Obj.cells #[.int .u64 c.Id, .int .u64 c.Local, .int .u64 c.Remote, .int .u64 c.Reserve, .int .u64 c.Most, .slice A n k, .bool c.Open] 26))
  obtain ⟨o, ho⟩ : ∃ o, c.Open = o := ⟨_, rfl⟩
  rw [ho] at HB ⊢
  cases o
  · go_enter Try.func64, Try.ntmps64
    go_wp2
    go_ret2
    exact ⟨by simp, HB.out⟩
  · go_enter Try.func64, Try.ntmps64
    go_wp2
    go_ret2
    exact ⟨by simp, HB.out⟩
end Go.Proofs.Ytanlpcndbfmkiaa
