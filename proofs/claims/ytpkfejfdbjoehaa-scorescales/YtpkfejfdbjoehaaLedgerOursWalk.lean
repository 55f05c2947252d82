/-
  The contract of the document's Few of layer 10, and the walk of LedgerOurs.
-/
import Derived.Test.YtpkfejfdbjoehaaLedgerSpec
namespace Go.Proofs.Ytpkfejfdbjoehaa
open Go.RowKit Go.WalkArith

def fewL (l : List Chn) : Bool := decide ((∀ c ∈ l, c.Holds.length ≤ 20) ∧ l.length ≤ 34)

set_option maxRecDepth 100000 in
set_option maxHeartbeats 2000000 in
theorem refFew10_any (A : Option Addr) (n k : Nat) (l : List Chn) (w : World) (h : Sl lay_Channel w (· < w.heap.size) A n k l) :
    Calls Try.prog 10 #[.slice A n k] w fun e w' => e = .returned (.bool (fewL l)) ∧ Below w.heap.size w w' := by
  have HL := hid h.len
  have hcap := h.cap
  unfold maxLen at hcap
  go_enter Try.func10, Try.ntmps10
  go_wp2
  go_loopw [7] (fun i wr => ∃ j : Nat, j ≤ n ∧ i = .int .i64 j ∧ Hid (∀ c ∈ l.take j, c.Holds.length ≤ 20) ∧ Below w.heap.size w wr) (fun i _ => n - (intOf i).toNat)
  case atStart => exact ⟨0, Nat.zero_le _, rfl, hid (fun c hc => by simp at hc), Below.refl _ _⟩
  case round =>
  obtain ⟨j, hj, rfl, HP, hbel⟩ := hrel
  by_cases hlt : j < n
  · obtain ⟨b1, o1, A', n', c', hx1, rfl, hb1, t0, t1, t2, t3, t4, t5, t6, hw, hs⟩ := chn_at (Sl.call h hbel) hlt
    have hn := hs.len
    have hba := bel_alloc hbel (Obj.cells #[.int .u64 l[j].Id, .int .u64 l[j].Local, .int .u64 l[j].Remote, .int .u64 l[j].Reserve, .int .u64 l[j].Most, .slice A' n' c', .bool l[j].Open] 28)
    clear hs
    by_cases he : 20 < n'
    · have d1 : decide ((20 : Int) < (n' : Int)) = true := by simp; omega
      have HE := hid (show fewL l = false from decide_eq_false fun q => by have := q.1 l[j] (List.getElem_mem hx1); omega)
      clear he hn
      go_wp2
      go_ret
      exact ⟨ret_bool HE.out.symm, hba⟩
    · have d1 : decide ((20 : Int) < (n' : Int)) = false := by simp; omega
      have HN := hid (show ∀ c ∈ l.take (j + 1), c.Holds.length ≤ 20 from fun c hc => by
        rw [List.take_succ_eq_append_getElem hx1, List.mem_append, List.mem_singleton] at hc
        rcases hc with hc | rfl
        · exact HP.out c hc
        · omega)
      clear he hn
      go_wp2
      go_roundw
      case rel => exact ⟨j + 1, by omega, by go_num, HN, hba⟩
      case measure => simp [intOf]; omega
  · have HT := hid (show l.take j = l from List.take_of_length_le (by rw [HL.out]; omega))
    have HE := hid (show fewL l = decide ((n : Int) ≤ 34) from by
      unfold fewL
      have := HP.out
      rw [HT.out] at this
      by_cases q : n ≤ 34
      · rw [decide_eq_true (by exact ⟨this, by rw [HL.out]; exact q⟩), decide_eq_true (by omega)]
      · rw [decide_eq_false (fun k => q (by rw [← HL.out]; exact k.2)), decide_eq_false (by omega)])
    go_wp2
    go_ret
    exact ⟨ret_bool HE.out.symm, hbel⟩

theorem lho_nil {l : List Chn} {id hold n : Int} (h : lgE l ≠ 0 ∨ lhoE l id hold n ≠ 0) : lhoL l id hold n = [] := by
  refine one_no ?_
  rcases h with h | h
  · have g : ¬ LgOk l := fun k => h (if_pos k)
    have e : gtE l id = 1 := if_neg g
    unfold oneE
    rw [if_pos (by rw [e]; decide), e]
    decide
  · exact h

end Go.Proofs.Ytpkfejfdbjoehaa
