/-
  The contracts of package caveat's own All and Holds.
-/
import Derived.Test.YtikfdfdancgnpaaCaveat6
namespace Go.Proofs.Ytikfdfdancgnpaa
open Go.RowKit Go.WalkArith

theorem cpE_is {l : List Cav} : (cpE l = 0 ∧ CapsOk l) ∨ (cpE l = 1 ∧ ¬ CapsOk l) := by
  unfold cpE
  by_cases h : CapsOk l
  · exact .inl ⟨if_pos h, h⟩
  · exact .inr ⟨if_neg h, h⟩
theorem useE_is {u : Usx} : (useE u = 0 ∧ UseOk u) ∨ (useE u = 1 ∧ ¬ UseOk u) := by
  unfold useE
  by_cases h : UseOk u
  · exact .inl ⟨if_pos h, h⟩
  · exact .inr ⟨if_neg h, h⟩

set_option maxRecDepth 100000 in
set_option maxHeartbeats 4000000 in
theorem cAll_any (A : Option Addr) (n c : Nat) (l : List Cav) (s : Array Value) (u : Usx) (w : World) (h1 : Sl lay_Caveat w (· < w.heap.size) A n c l) (h2 : lay_Use.rep w (fun _ => True) u s.toList) :
    Calls Try.prog 20 #[.slice A n c, .agg s] w fun e w' => e = .returned (.tuple #[.bool (alV l u), .int .i64 (alE l u)]) ∧ Below w.heap.size w w' := by
  obtain ⟨rfl, hv⟩ := agg_Use h2
  clear h2
  have HL := hid h1.len
  have hcap := h1.cap
  unfold maxLen at hcap
  have hb0 : Below w.heap.size w (w.alloc (Obj.cells #[.int .u64 u.Tick, .int .i64 u.Method, .int .u64 u.Amount, .int .u64 u.Who] 27)) := bel_alloc (Below.refl _ _) _
  have U0 := Var4.new w 27 (.int .u64 u.Tick) (.int .i64 u.Method) (.int .u64 u.Amount) (.int .u64 u.Who)
  have HMY := hid (fun W => checkUse_any #[.int .u64 u.Tick, .int .i64 u.Method, .int .u64 u.Amount, .int .u64 u.Who] (fun _ => True) u W (rep_Use.2 ⟨rfl, hv⟩))
  have HCL := hid (checkList_any A n c l _ (Sl.call h1 hb0))
  go_enter Try.func20, Try.ntmps20
  go_wp2_with fail
  refine HCL.out.mono ?_
  rintro e w1 ⟨rfl, hb1⟩
  have HB1 := bel_call hb0 hb1
  have U1 := U0.call hb1
  have j0 := U1.c0
  have j1 := U1.c1
  have j2 := U1.c2
  have j3 := U1.c3
  clear hb1 hb0 U0 HCL
  rcases cpE_is (l := l) with ⟨hE, hcs⟩ | ⟨hE, hcs⟩
  rotate_left
  · rw [hE]
    have HN := hid (al_no (l := l) (u := u) fun k => hcs ⟨k.1, k.2.2⟩)
    clear hE
    go_wp2
    go_ret2
    exact ⟨by rw [HN.out.1, HN.out.2]; rfl, HB1⟩
  rw [hE]
  clear hE
  go_wp2_with fail
  refine (HMY.out _).mono ?_
  rintro e w2 ⟨rfl, hb2⟩
  have HB2 := bel_call HB1 hb2
  have U2 := U1.call hb2
  clear hb2 HB1 U1 HMY j0 j1 j2 j3
  rcases useE_is (u := u) with ⟨hE, hu⟩ | ⟨hE, hu⟩
  rotate_left
  · rw [hE]
    have HN := hid (al_no (l := l) (u := u) fun k => hu k.2.1)
    clear hE
    go_wp2
    go_ret2
    exact ⟨by rw [HN.out.1, HN.out.2]; rfl, HB2⟩
  rw [hE]
  clear hE
  have HN := hid (al_yes (l := l) (u := u) ⟨hcs.1, hu, hcs.2⟩)
  have HOK := hid (show ∀ (j : Nat) (h : j < l.length), CavOk l[j] from fun j h => by
    have := hcs.2
    unfold cavsB at this
    rw [List.all_eq_true] at this
    exact of_decide_eq_true (this _ (List.getElem_mem h)))
  clear hcs
  go_wp2
  go_loopw [18] (fun i wr => ∃ j : Nat, j ≤ n ∧ i = .int .i64 j ∧ (l.take j).all (fun c => hldB c u) = true ∧ Var4 wr w.heap.size 27 (.int .u64 u.Tick) (.int .i64 u.Method) (.int .u64 u.Amount) (.int .u64 u.Who) ∧ Below w.heap.size w wr) (fun i _ => n - (intOf i).toNat)
  case atStart => exact ⟨0, Nat.zero_le _, rfl, by simp, U2, HB2⟩
  case round =>
    obtain ⟨j, hj, rfl, hpre, hU, hbel⟩ := hrel
    clear U2 HB2
    have HP := hid hpre
    clear hpre
    by_cases hlt : j < n
    · obtain ⟨b1, o1, hx1, rfl, hb1, t1, t2, t3, hw⟩ := cav_at h1 hlt
      have q1 := (hbel.cell (p := ⟨b1, o1 + j * 3, none⟩) hb1).trans t1
      have q2 := (hbel.cell (p := ⟨b1, o1 + j * 3 + 1, none⟩) hb1).trans t2
      have q3 := (hbel.cell (p := ⟨b1, o1 + j * 3 + 2, none⟩) hb1).trans t3
      have HT := hid (take_allC (p := fun c => hldB c u) hx1)
      have hg := hU.lt
      have hbw : Below wr.heap.size wr (wr.alloc (Obj.cells #[.int .i64 l[j].Kind, .int .u64 l[j].A, .int .u64 l[j].B] 24)) := bel_alloc (Below.refl _ _) _
      have hba := bel_call hbel hbw
      have HH := hid (choldsX_any #[.int .i64 l[j].Kind, .int .u64 l[j].A, .int .u64 l[j].B] #[.int .u64 u.Tick, .int .i64 u.Method, .int .u64 u.Amount, .int .u64 u.Who] (fun _ => True) l[j] u (wr.alloc (Obj.cells #[.int .i64 l[j].Kind, .int .u64 l[j].A, .int .u64 l[j].B] 24)) (rep_Caveat.2 ⟨rfl, hw⟩) (rep_Use.2 ⟨rfl, hv⟩) (HOK.out j hx1) hu)
      have U2 := hU.call hbw
      have i0 := U2.c0
      have i1 := U2.c1
      have i2 := U2.c2
      have i3 := U2.c3
      clear t1 t2 t3 hU
      cases hq : hldB l[j] u
      · rw [hq] at HH
        have HF := hid (show (l.all fun c => hldB c u) = false from List.all_eq_false.2 ⟨l[j], List.getElem_mem hx1, by rw [hq]; decide⟩)
        clear hq HT
        go_wp2_with fail
        refine HH.out.mono ?_
        rintro e w3 ⟨rfl, hb3⟩
        clear U2 i0 i1 i2 i3
        go_wp2
        go_ret2
        exact ⟨by rw [HN.out.1, HN.out.2, HF.out]; rfl, bel_call hba hb3⟩
      · rw [hq] at HH
        have HN1 := hid (show (l.take (j + 1)).all (fun c => hldB c u) = true from by rw [HT.out, HP.out, hq]; rfl)
        clear hq HT
        go_wp2_with fail
        refine HH.out.mono ?_
        rintro e w3 ⟨rfl, hb3⟩
        have U3 := hid (U2.call hb3)
        have HB3 := bel_call hba hb3
        clear U2 i0 i1 i2 i3 hb3
        go_wp2
        go_roundw
        case rel => exact ⟨j + 1, by omega, by go_num, HN1.out, U3.out, HB3⟩
        case measure => simp [intOf]; omega
    · have HF := hid (show (l.all fun c => hldB c u) = true from by
        have := HP.out
        rwa [List.take_of_length_le (by rw [HL.out]; omega)] at this)
      go_wp2
      go_ret2
      exact ⟨by rw [HN.out.1, HN.out.2, HF.out]; rfl, hbel⟩

theorem al_one (c : Cav) (u : Usx) : alE [c] u = hlE c u ∧ alV [c] u = hlV c u := by
  have h : AllOk [c] u ↔ CavOk c ∧ UseOk u := by
    unfold AllOk cavsB
    simp
    exact and_comm
  unfold alE alV hlE hlV
  simp [h]
theorem sl_oneC {w : World} {c : Cav} (h : CavWf c) (e : TypeId) (b : Nat) (hb : b = w.heap.size) : Sl lay_Caveat (w.alloc (Obj.cells #[.int .i64 c.Kind, .int .u64 c.A, .int .u64 c.B] e)) (· < (w.alloc (Obj.cells #[.int .i64 c.Kind, .int .u64 c.A, .int .u64 c.B] e)).heap.size) (some ⟨b, 0, none⟩) 1 1 [c] := by
  subst hb
  refine ⟨rfl, Nat.le_refl _, by simp [maxLen], by simp, fun _ => ⟨w.heap.size, 0, [.int .i64 c.Kind, .int .u64 c.A, .int .u64 c.B], rfl, by simp, RepRow.single (rep_Caveat.2 ⟨rfl, h⟩), fun i v hv => ?_⟩⟩
  rw [World.cell?_alloc_at _ _ _ _ rfl]
  simpa using hv

set_option maxHeartbeats 1000000 in
theorem cHolds_any (s1 s2 : Array Value) (S : Nat → Prop) (c : Cav) (u : Usx) (w : World) (h1 : lay_Caveat.rep w S c s1.toList) (h2 : lay_Use.rep w S u s2.toList) :
    Calls Try.prog 13 #[.agg s1, .agg s2] w fun e w' => e = .returned (.tuple #[.bool (hlV c u), .int .i64 (hlE c u)]) ∧ Below w.heap.size w w' := by
  obtain ⟨rfl, hw⟩ := agg_Caveat h1
  obtain ⟨rfl, hv⟩ := agg_Use h2
  have hb0 : Below w.heap.size w ((w.alloc (Obj.cells #[.int .i64 c.Kind, .int .u64 c.A, .int .u64 c.B] 24)).alloc (Obj.cells #[.int .u64 u.Tick, .int .i64 u.Method, .int .u64 u.Amount, .int .u64 u.Who] 27)) := bel_alloc (bel_alloc (Below.refl _ _) _) _
  have V0 : Var3 ((w.alloc (Obj.cells #[.int .i64 c.Kind, .int .u64 c.A, .int .u64 c.B] 24)).alloc (Obj.cells #[.int .u64 u.Tick, .int .i64 u.Method, .int .u64 u.Amount, .int .u64 u.Who] 27)) w.heap.size 24 (.int .i64 c.Kind) (.int .u64 c.A) (.int .u64 c.B) := heap_alloc2_old _ _ _
  have U0 : Var4 ((w.alloc (Obj.cells #[.int .i64 c.Kind, .int .u64 c.A, .int .u64 c.B] 24)).alloc (Obj.cells #[.int .u64 u.Tick, .int .i64 u.Method, .int .u64 u.Amount, .int .u64 u.Who] 27)) (w.heap.size + 1) 27 (.int .u64 u.Tick) (.int .i64 u.Method) (.int .u64 u.Amount) (.int .u64 u.Who) := alloc2_new _ _ _
  have q0 := V0.c0
  have q1 := V0.c1
  have q2 := V0.c2
  have i0 := U0.c0
  have i1 := U0.c1
  have i2 := U0.c2
  have i3 := U0.c3
  have HA := hid (fun (W : World) b (h : b = W.heap.size) => cAll_any _ 1 1 [c] #[.int .u64 u.Tick, .int .i64 u.Method, .int .u64 u.Amount, .int .u64 u.Who] u _ (sl_oneC (w := W) hw 24 b h) (rep_Use.2 ⟨rfl, hv⟩))
  rw [(al_one c u).1, (al_one c u).2] at HA
  go_enter Try.func13, Try.ntmps13
  go_wp2_with fail
  refine (HA.out _ _ (by simp)).mono ?_
  rintro e w1 ⟨rfl, hb1⟩
  go_wp2
  go_ret2
  exact ⟨rfl, bel_call (bel_alloc hb0 _) hb1⟩
end Go.Proofs.Ytikfdfdancgnpaa
