/-
  The words of what package score answers; the laws' own 'live' of layer 11 over them.
-/
import Derived.Test.YtpkfejfdbjoehaaScoreMath
import Derived.Test.YtpkfejfdbjoehaaLedgerSpec
import Derived.Test.YtpkfejfdbjoehaaPackLR
namespace Go.Proofs.Ytpkfejfdbjoehaa
open Go.RowKit Go.WalkArith

/-- What package score answers. -/
structure ScoreSpec : Prop where
  less : ∀ (a b : Nat) (w : World),
    Calls Try.prog 17 #[.float .f64 a, .float .f64 b] w fun e w' => e = .returned (.bool (ltK (scK a) (scK b))) ∧ Below w.heap.size w w'
  one : ∀ (s : Array Value) (c : Chn) (a b : Nat) (w : World), lay_Channel.rep w (· < w.heap.size) c s.toList →
    Calls Try.prog 11 #[.agg s, .float .f64 a, .float .f64 b] w fun e w' => ∃ r, e = .returned (.tuple #[.float .f64 r, .int .i64 (chE c)]) ∧ FVal (oneO c a b) r ∧ Below w.heap.size w w'
  weigh : ∀ (A : Option Addr) (n c : Nat) (l : List Wgt) (id : Int) (w : World), Sl lay_Weight w (· < w.heap.size) A n c l → (Lit.int .u64 id).wf = true →
    Calls Try.prog 20 #[.slice A n c, .int .u64 id] w fun e w' => e = .returned (.float .f64 (weighV l id)) ∧ Below w.heap.size w w'
  order : ∀ (A : Option Addr) (n c : Nat) (l : List Chn) (A' : Option Addr) (n' c' : Nat) (l' : List Wgt) (m : Int) (w : World), Sl lay_Channel w (· < w.heap.size) A n c l → Sl lay_Weight w (· < w.heap.size) A' n' c' l' → (Lit.int .u64 m).wf = true →
    Calls Try.prog 13 #[.slice A n c, .slice A' n' c', .int .u64 m] w fun e w' => ∃ v, e = .returned (.tuple #[v, .int .i64 (lgE l)]) ∧ Own w' w.heap.size 24 .u64 v (ordL l l' m) ∧ Below w.heap.size w w'
  first : ∀ (A : Option Addr) (n c : Nat) (l : List Chn) (A' : Option Addr) (n' c' : Nat) (l' : List Wgt) (m : Int) (w : World), Sl lay_Channel w (· < w.heap.size) A n c l → Sl lay_Weight w (· < w.heap.size) A' n' c' l' → (Lit.int .u64 m).wf = true →
    Calls Try.prog 15 #[.slice A n c, .slice A' n' c', .int .u64 m] w fun e w' => e = .returned (.tuple #[.int .u64 (fiV l l' m), .int .i64 (fiE l l' m)]) ∧ Below w.heap.size w w'
/-- What package channel answers of its room (the laws of layer 11 ask it, too). -/
structure ChanRoom : Prop where
  room : ∀ (s : Array Value) (c : Chn) (w : World), lay_Channel.rep w (· < w.heap.size) c s.toList →
    Calls Try.prog 24 #[.agg s] w fun e w' => e = .returned (.tuple #[.int .u64 (rmV c), .int .i64 (chE c)]) ∧ Below w.heap.size w w'

/-! ### The chapter's example -/
def egS (i : Int) : Chn := ⟨i, 5, 0, 0, 9, [], true⟩
theorem egS_ok (i : Int) : ChOk (egS i) := by
  unfold ChOk
  simp [egS, mMax, numsH, allLe, heldN, sumM, HUp]
theorem egS_wf (i : Int) (h : (Lit.int .u64 i).wf = true) : ChnWf (egS i) := ⟨h, (by decide : (Lit.int .u64 5).wf = true), (by decide : (Lit.int .u64 0).wf = true), (by decide : (Lit.int .u64 0).wf = true), (by decide : (Lit.int .u64 9).wf = true)⟩
theorem egS_all (i : Int) : aaV (egS i) = 5 := by
  unfold aaV
  rw [if_pos (egS_ok i)]
  simp [egS, heldN, numsH, sumM]
theorem egS_room (i : Int) : rmV (egS i) = 5 := by
  unfold rmV
  rw [if_pos (egS_ok i)]
  simp [egS, roomN, heldN, numsH, sumM]
  decide
theorem egS_lg : LgOk [egS 3, egS 7] := by
  refine ⟨by decide, fun c hc => ?_, ?_, ?_, ?_⟩
  · simp only [List.mem_cons, List.not_mem_nil, or_false] at hc
    rcases hc with rfl | rfl <;> exact egS_ok _
  · simp [LUp, egS]
  · simp [HApart, egS]
  · simp [sumC, sumM, egS_all, mMax]
theorem egS_first : fiV [egS 3, egS 7] [] 2 = 3 ∧ fiE [egS 3, egS 7] [] 2 = 0 := by
  have h3 : elig 2 (egS 3) = true := elig_iff.2 ⟨rfl, by rw [egS_room]; decide, by rw [egS_room]; decide⟩
  have h7 : elig 2 (egS 7) = true := elig_iff.2 ⟨rfl, by rw [egS_room]; decide, by rw [egS_room]; decide⟩
  have hk : keyC [] (floatOfInt .f64 2) (egS 3) = keyC [] (floatOfInt .f64 2) (egS 7) := by
    have e3 : chE (egS 3) = 0 := if_pos (egS_ok 3)
    have e7 : chE (egS 7) = 0 := if_pos (egS_ok 7)
    unfold keyC oneO
    rw [if_pos e3, if_pos e7, egS_room, egS_room, egS_all, egS_all]
    rfl
  have ho : ordL [egS 3, egS 7] [] 2 = [3, 7] := by
    unfold ordL ordI itemsI
    rw [if_pos egS_lg, List.filter_cons, if_pos h3, List.filter_cons, if_pos h7]
    simp only [List.filter_nil, List.map_cons, List.map_nil]
    rw [hk]
    generalize keyC [] (floatOfInt .f64 2) (egS 7) = k
    show (insI (7, k) [(3, k)]).map Prod.fst = _
    have : befB (7, k) (3, k) = false := by
      rw [Bool.eq_false_iff]
      intro h
      rcases befB_iff.1 h with q | ⟨-, q⟩
      · rw [ltK_irr] at q; cases q
      · simp at q
    unfold insI
    rw [if_neg (by rw [this]; simp)]
    rfl
  exact ⟨by unfold fiV; rw [if_pos egS_lg, ho]; rfl, by unfold fiE; rw [if_pos egS_lg, ho]; rfl⟩

set_option maxRecDepth 100000 in
set_option maxHeartbeats 1000000 in
theorem live11_any (HS : ScoreSpec) (w : World) : Calls Try.prog 9 #[] w fun e w' => e = .returned (.bool true) ∧ Below w.heap.size w w' := by
  have hb0 : Below w.heap.size w (w.alloc (Obj.cells #[.int .u64 3, .int .u64 5, .int .u64 0, .int .u64 0, .int .u64 9, .slice none 0 0, .bool true, .int .u64 7, .int .u64 5, .int .u64 0, .int .u64 0, .int .u64 9, .slice none 0 0, .bool true] 28)) := bel_alloc (Below.refl _ _) _
  have hx := heap_alloc_new w (Obj.cells #[.int .u64 3, .int .u64 5, .int .u64 0, .int .u64 0, .int .u64 9, .slice none 0 0, .bool true, .int .u64 7, .int .u64 5, .int .u64 0, .int .u64 0, .int .u64 9, .slice none 0 0, .bool true] 28)
  have hz : (w.alloc (Obj.cells #[.int .u64 3, .int .u64 5, .int .u64 0, .int .u64 0, .int .u64 9, .slice none 0 0, .bool true, .int .u64 7, .int .u64 5, .int .u64 0, .int .u64 0, .int .u64 9, .slice none 0 0, .bool true] 28)).heap.size = w.heap.size + 1 := by simp
  have hs : Sl lay_Channel (w.alloc (Obj.cells #[.int .u64 3, .int .u64 5, .int .u64 0, .int .u64 0, .int .u64 9, .slice none 0 0, .bool true, .int .u64 7, .int .u64 5, .int .u64 0, .int .u64 0, .int .u64 9, .slice none 0 0, .bool true] 28)) (· < (w.alloc (Obj.cells #[.int .u64 3, .int .u64 5, .int .u64 0, .int .u64 0, .int .u64 9, .slice none 0 0, .bool true, .int .u64 7, .int .u64 5, .int .u64 0, .int .u64 0, .int .u64 9, .slice none 0 0, .bool true] 28)).heap.size) (some ⟨w.heap.size, 0, none⟩) 2 2 [egS 3, egS 7] := by
    refine ⟨rfl, Nat.le_refl _, by unfold maxLen; omega, by simp, fun _ => ⟨w.heap.size, 0, _, rfl, by rw [hz]; omega, ⟨_, _, rfl, rep_Channel.2 ⟨none, 0, 0, rfl, egS_wf 3 (by decide), Sl.nil _ _ _⟩, RepRow.single (rep_Channel.2 ⟨none, 0, 0, rfl, egS_wf 7 (by decide), Sl.nil _ _ _⟩)⟩, fun i v hv => ?_⟩⟩
    simp only [World.cell?, hx, Nat.zero_add]
    simpa [egS] using hv
  have HF := hid (HS.first _ 2 2 [egS 3, egS 7] none 0 0 [] 2 _ hs (Sl.nil _ _ _) (by decide))
  rw [egS_first.1, egS_first.2] at HF
  have HW := hid (fun (W : World) => HS.weigh none 0 0 [] 3 W (Sl.nil _ _ _) (by decide))
  have h1 := one_one
  go_enter Try.func9, Try.ntmps9
  go_wp2_with fail
  refine HF.out.mono ?_
  rintro e w1 ⟨rfl, hb1⟩
  go_wp2_with fail
  refine (HW.out _).mono ?_
  rw [show weighV [] 3 = 4607182418800017408 from rfl]
  rintro e w2 ⟨rfl, hb2⟩
  have HB := bel_call (bel_call hb0 hb1) hb2
  go_wp2
  go_ret
  exact ⟨rfl, HB⟩
end Go.Proofs.Ytpkfejfdbjoehaa
