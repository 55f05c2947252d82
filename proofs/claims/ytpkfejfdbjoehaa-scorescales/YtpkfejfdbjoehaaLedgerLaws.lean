/-
  Channels together, plain: what is done with one changes no other one; what is ours; in whatever order two are opened.
-/
import Derived.Test.YtpkfejfdbjoehaaLedgerMath
namespace Go.Proofs.Ytpkfejfdbjoehaa
open Go.RowKit Go.WalkArith

theorem chanF_with {l : List Chn} (hu : LUp l) {d : Chn} {other : Int} (h : other ≠ d.Id) : chanF (withC l d) other = chanF l other := by
  cases hf : chanF l other with
  | none =>
    refine List.find?_eq_none.2 fun x hx => ?_
    rcases cwith_mem.1 hx with ⟨k, -⟩ | rfl
    · have := chanF_none hf x k; simpa using this
    · simpa using fun e => h e.symm
  | some c =>
    obtain ⟨h1, h2⟩ := chanF_some hf
    have := chanF_mem (cwith_up hu d) (r := c) (cwith_mem.2 (.inl ⟨h1, by rw [h2]; exact h⟩))
    rw [h2] at this
    exact this
theorem chanF_self {l : List Chn} (hu : LUp l) (d : Chn) : chanF (withC l d) d.Id = some d := chanF_mem (cwith_up hu d) (cwith_mem.2 (.inr rfl))
theorem with_back {l : List Chn} (hu : LUp l) {c d : Chn} (hc : c ∈ l) (hid : d.Id = c.Id) : withC (withC l d) c = l := by
  refine cup_ext (cwith_up (cwith_up hu d) c) hu fun x => ?_
  rw [cwith_mem, cwith_mem]
  constructor
  · rintro (⟨⟨k1, -⟩ | rfl, k2⟩ | rfl)
    · exact k1
    · exact absurd hid k2
    · exact hc
  · intro hx
    by_cases e : x.Id = c.Id
    · exact .inr (cup_one hu hx hc e)
    · exact .inl ⟨.inl ⟨hx, by rw [hid]; exact e⟩, e⟩
theorem with_comm {l : List Chn} (hu : LUp l) {c d : Chn} (h : c.Id ≠ d.Id) : withC (withC l c) d = withC (withC l d) c := by
  refine cup_ext (cwith_up (cwith_up hu c) d) (cwith_up (cwith_up hu d) c) fun x => ?_
  simp only [cwith_mem]
  constructor
  · rintro (⟨⟨k1, k2⟩ | rfl, k3⟩ | rfl)
    · exact .inl ⟨.inl ⟨k1, k3⟩, k2⟩
    · exact .inr rfl
    · exact .inl ⟨.inr rfl, fun e => h e.symm⟩
  · rintro (⟨⟨k1, k2⟩ | rfl, k3⟩ | rfl)
    · exact .inl ⟨.inl ⟨k1, k3⟩, k2⟩
    · exact .inr rfl
    · exact .inl ⟨.inr rfl, h⟩
theorem gt_same {l m : List Chn} (g : LgOk l) (k : LgOk m) {other : Int} (h : chanF m other = chanF l other) : gtE m other = gtE l other ∧ gtC m other = gtC l other := by
  unfold gtE gtC
  rw [if_pos g, if_pos k, if_pos g, if_pos k, h]
  exact ⟨rfl, rfl⟩

/-- What is done with one channel changes no other one. -/
theorem one_law {l : List Chn} {id hold n : Int} (hw : ChnsWf l) (hn : 0 ≤ n) (hi : (Lit.int .u64 hold).wf = true) (h : lhoE l id hold n = 0) :
    (∀ other, gtE (lhoL l id hold n) other = gtE l other ∧ (other ≠ id → gtC (lhoL l id hold n) other = gtC l other)) ∧ gtE (lhoL l id hold n) id = 0 ∧ (gtC (lhoL l id hold n) id).Id = id ∧ whE (lhoL l id hold n) hold = 0 ∧ enN (lhoL l id hold n) hold = n ∧ enL (lhoL l id hold n) hold false = l ∧
    (∀ other, lhoE (lhoL l id hold n) other hold n = 6 ∨ (gtE l other = 5 ∧ lhoE (lhoL l id hold n) other hold n = 5)) := by
  obtain ⟨g, h1, hwn, h2, hL, hid, k1, k2, k3, w1, w2⟩ := lho_ok hw hn h
  obtain ⟨-, hf, hm, hci, ok⟩ := gt_is h1
  have hu := g.2.2.1
  obtain ⟨b1, b2, b3, -, -, -, -, -⟩ := back_laws (hw _ hm).1 hn hi (hw _ hm).2 h2
  have hself : chanF (lhoL l id hold n) id = some (hoC (gtC l id) hold n) := by
    have := chanF_self hu (hoC (gtC l id) hold n)
    rw [hid, ← hL] at this
    exact this
  have hgm : gtE (lhoL l id hold n) id = 0 ∧ gtC (lhoL l id hold n) id = hoC (gtC l id) hold n := by
    unfold gtE gtC
    rw [if_pos k1, if_pos k1, hself]
    exact ⟨rfl, rfl⟩
  have hoth : ∀ other, gtE (lhoL l id hold n) other = gtE l other ∧ (other ≠ id → gtC (lhoL l id hold n) other = gtC l other) := fun other => by
    by_cases e : other = id
    · subst e
      exact ⟨by rw [hgm.1, h1], fun k => absurd rfl k⟩
    · have := gt_same g k1 (other := other) (by rw [hL]; exact chanF_with hu (by rw [hid]; exact e))
      exact ⟨this.1, fun _ => this.2⟩
  have hwg : gtC (lhoL l id hold n) (whV (lhoL l id hold n) hold) = hoC (gtC l id) hold n := by rw [w2]; exact hgm.2
  refine ⟨hoth, hgm.1, by rw [hgm.2]; exact hid, w1, ?_, ?_, fun other => ?_⟩
  · unfold enN
    rw [if_pos w1, hwg, b2]
  · unfold enL
    rw [if_pos w1, hwg]
    show withC (lhoL l id hold n) (faC (hoC (gtC l id) hold n) hold) = l
    rw [b3, hL]
    exact with_back hu hm (by rw [hid, hci])
  · unfold lhoE oneE
    by_cases q : gtE (lhoL l id hold n) other = 0
    · rw [if_neg (fun k => k q)]
      left
      unfold lhE
      have : (whereF (lhoL l id hold n) hold).isSome = true := by
        obtain ⟨-, c, -, hc, -⟩ := wh_is w1
        rw [hc]; rfl
      rw [if_pos this]
    · rw [if_pos q]
      right
      have e5 : gtE (lhoL l id hold n) other = 5 := by
        cases hf' : chanF (lhoL l id hold n) other with
        | none => exact (gt_no k1 hf').1
        | some c =>
          obtain ⟨c1, c2⟩ := chanF_some hf'
          rw [← c2] at q
          exact absurd (gt_of k1 c1).1 q
      exact ⟨by rw [← (hoth other).1]; exact e5, e5⟩

/-! ### What is ours -/
def ourC (c : Chn) : Int := if c.Open = true then c.Local else 0
theorem ourS_is (l : List Chn) : ourS l = sumM (l.map ourC) := rfl
theorem sum_le_map {f g : Chn → Int} : ∀ {l : List Chn}, (∀ c ∈ l, f c ≤ g c) → sumM (l.map f) ≤ sumM (l.map g)
  | [], _ => Int.le_refl _
  | c :: l, h => by
    have h1 := h c (by simp)
    have h2 := sum_le_map (l := l) fun x hx => h x (by simp [hx])
    simp only [List.map_cons, sumM]
    omega
theorem ours_bd {l : List Chn} (g : LgOk l) (hw : ChnsWf l) : 0 ≤ ourS l ∧ 0 ≤ heldS l ∧ ourS l + heldS l ≤ mMax := by
  have hp : ∀ c ∈ l, 0 ≤ ourC c ∧ 0 ≤ heldN c ∧ ourC c + heldN c ≤ aaV c := fun c hc => by
    have a := (bounds_u64 (hw c hc).1.loc).1
    have b := (bounds_u64 (hw c hc).1.rem).1
    have d := held_nonneg (hw c hc).2
    have e : aaV c = c.Local + c.Remote + heldN c := if_pos (g.2.1 c hc)
    unfold ourC
    split <;> omega
  have s1 : sumM (l.map fun c => ourC c + heldN c) = ourS l + heldS l := by
    rw [ourS_is]
    unfold heldS
    generalize l = l'
    induction l' with
    | nil => rfl
    | cons c l' ih => simp only [List.map_cons, sumM] at ih ⊢; omega
  have s2 := sum_le_map (f := fun c => ourC c + heldN c) (g := aaV) fun c hc => (hp c hc).2.2
  rw [s1] at s2
  refine ⟨sumM_nonneg fun x hx => ?_, sumM_nonneg fun x hx => ?_, Int.le_trans s2 g.2.2.2.2⟩
  · obtain ⟨c, hc, rfl⟩ := List.mem_map.1 hx
    exact (hp c hc).1
  · obtain ⟨c, hc, rfl⟩ := List.mem_map.1 hx
    exact (hp c hc).2.1
/-- What is held is ours no more, till it failed, and never again, when it was paid. -/
theorem ours_law {l : List Chn} {id hold n : Int} (hw : ChnsWf l) (hn : 0 ≤ n) (hi : (Lit.int .u64 hold).wf = true) (h : lhoE l id hold n = 0) :
    ourS (lhoL l id hold n) = ourS l - n ∧ heldS (lhoL l id hold n) = heldS l + n ∧ LgOk (enL (lhoL l id hold n) hold true) ∧ ourS (enL (lhoL l id hold n) hold true) = ourS l - n ∧ heldS (enL (lhoL l id hold n) hold true) = heldS l := by
  obtain ⟨g, h1, hwn, h2, hL, hid, k1, k2, k3, w1, w2⟩ := lho_ok hw hn h
  obtain ⟨-, hf, hm, hci, ok⟩ := gt_is h1
  have hu := g.2.2.1
  obtain ⟨o1, o2, -, -⟩ := ho_ch (hw _ hm).1 h2 hn
  obtain ⟨-, -, -, i4, i5, -, -, -, -, i10⟩ := ho_is h2
  have hfd : chanF l (hoC (gtC l id) hold n).Id = some (gtC l id) := by rw [hid]; exact hf
  have oc : ourC (gtC l id) = (gtC l id).Local := if_pos i4
  have od : ourC (hoC (gtC l id) hold n) = (gtC l id).Local - n := by rw [i10]; exact if_pos i4
  have e1 : ourS (lhoL l id hold n) = ourS l - n := by
    rw [ourS_is, ourS_is, hL, csum_old ourC hu hfd, oc, od]; omega
  have e2 : heldS (lhoL l id hold n) = heldS l + n := by
    unfold heldS
    rw [hL, csum_old heldN hu hfd, o2]; omega
  have hwd := ho_wf (id := hold) (hw _ hm).1 hn
  have hhd : HldsWf (hoC (gtC l id) hold n).Holds := by
    rw [i10]
    intro x hx
    rcases hwith_mem.1 hx with ⟨q, -⟩ | rfl
    · exact (hw _ hm).2 x q
    · have hmx : mMax = 4611686018427387904 := rfl
      have := (ho_is h2).2.2.1
      exact ⟨hi, wf_u64 (show 0 ≤ n ∧ n ≤ _ by omega)⟩
  have hwm : ChnsWf (lhoL l id hold n) := fun c hc => by
    rw [hL] at hc
    rcases cwith_mem.1 hc with ⟨q, -⟩ | rfl
    · exact hw c q
    · exact ⟨hwd, hhd⟩
  obtain ⟨p1, -, -, -⟩ := en_ok (paid := true) hwm w1
  obtain ⟨b1, b2, -⟩ := back_laws (hw _ hm).1 hn hi (hw _ hm).2 h2
  obtain ⟨-, c', hc', -, hv', hg', -⟩ := wh_is w1
  have hcd : c' = hoC (gtC l id) hold n := by
    have q1 : hoC (gtC l id) hold n ∈ lhoL l id hold n := by rw [hL]; exact cwith_mem.2 (.inr rfl)
    exact cup_one k1.2.2.1 hc' q1 (by rw [← hv', w2, hid])
  have hE : enL (lhoL l id hold n) hold true = withC (lhoL l id hold n) (seC (hoC (gtC l id) hold n) hold) := by
    unfold enL
    rw [if_pos w1, hg', hcd]
    rfl
  obtain ⟨s1, s2, -, -⟩ := se_is hwd hhd b1
  have hsid : (seC (hoC (gtC l id) hold n) hold).Id = (hoC (gtC l id) hold n).Id := by rw [s1]
  have hfs : chanF (lhoL l id hold n) (seC (hoC (gtC l id) hold n) hold).Id = some (hoC (gtC l id) hold n) := by
    rw [hsid, hL]; exact chanF_self hu _
  have os : ourC (seC (hoC (gtC l id) hold n) hold) = ourC (hoC (gtC l id) hold n) := by rw [s1]; rfl
  have hs : heldN (seC (hoC (gtC l id) hold n) hold) = heldN (hoC (gtC l id) hold n) - n := by
    have hfx : holdF (hoC (gtC l id) hold n).Holds hold = some ⟨hold, n⟩ := by rw [i10]; exact with_found ok.2.2.2.2.2.1 ⟨hold, n⟩
    rw [s1]
    exact sum_gone o1.2.2.2.2.2.1 hfx
  refine ⟨e1, e2, p1, ?_, ?_⟩
  · rw [ourS_is, hE, csum_old ourC k1.2.2.1 hfs, os, ← ourS_is, e1]; omega
  · unfold heldS
    rw [hE, csum_old heldN k1.2.2.1 hfs, hs]
    have : sumM ((lhoL l id hold n).map heldN) = heldS l + n := e2
    rw [this]
    show _ = heldS l
    omega

/-! ### What is opened -/
theorem op_is {l : List Chn} {c : Chn} (h : opE l c = 0) : LgOk l ∧ ChOk c ∧ c.Open = true ∧ c.Holds = [] ∧ chanF l c.Id = none ∧ l.length < 32 ∧ sumC (withC l c) ≤ mMax ∧ opL l c = withC l c ∧ LgOk (withC l c) := by
  have hL : opL l c = withC l c := if_pos h
  unfold opE at h
  by_cases g : LgOk l ∧ ChOk c ∧ c.Open = true ∧ c.Holds = []
  · rw [if_pos g] at h
    by_cases q1 : (chanF l c.Id).isSome = true
    · rw [if_pos q1] at h; cases h
    rw [if_neg q1] at h
    by_cases q2 : l.length = 32
    · rw [if_pos q2] at h; cases h
    rw [if_neg q2] at h
    by_cases q3 : mMax < sumC (withC l c)
    · rw [if_pos q3] at h; cases h
    have hf : chanF l c.Id = none := by
      cases e : chanF l c.Id with
      | none => rfl
      | some x => rw [e] at q1; exact absurd rfl q1
    obtain ⟨⟨g1, g2, g3, g4, g5⟩, o1, o2, o3⟩ := g
    have hu := cwith_up g3 c
    refine ⟨⟨g1, g2, g3, g4, g5⟩, o1, o2, o3, hf, by omega, by omega, hL, by rw [cwith_len_new hf]; omega, fun x hx => ?_, hu, apart_of hu fun a ha b hb hne x hx y hy => ?_, by omega⟩
    · rcases cwith_mem.1 hx with ⟨k, -⟩ | rfl
      · exact g2 x k
      · exact o1
    · rcases cwith_mem.1 ha with ⟨k1, -⟩ | rfl
      · rcases cwith_mem.1 hb with ⟨k3, -⟩ | rfl
        · exact apart_to g4 k1 k3 hne x hx y hy
        · rw [o3] at hy; simp at hy
      · rw [o3] at hx; simp at hx
  · rw [if_neg g] at h; cases h
/-- In whatever order two channels are opened, they are the same. -/
theorem opens_law {l : List Chn} {c d : Chn} (hne : c.Id ≠ d.Id) (h1 : opE l c = 0) (h2 : opE l d = 0) :
    opE (opL l c) d = opE (opL l d) c ∧ opL (opL l c) d = opL (opL l d) c ∧ (opE (opL l c) d = 0 ∨ opE (opL l c) d = 7 ∨ opE (opL l c) d = 8) ∧ gtE (opL l c) c.Id = 0 ∧ gtC (opL l c) c.Id = c := by
  obtain ⟨g, c1, c2, c3, c4, c5, c6, c7, c8⟩ := op_is h1
  obtain ⟨-, d1, d2, d3, d4, d5, d6, d7, d8⟩ := op_is h2
  have hu := g.2.2.1
  have f1 : chanF (withC l c) d.Id = none := by rw [chanF_with hu (fun e => hne e.symm)]; exact d4
  have f2 : chanF (withC l d) c.Id = none := by rw [chanF_with hu hne]; exact c4
  have hcm := with_comm hu hne
  have e1 : opE (withC l c) d = if (withC l c).length = 32 then 7 else if mMax < sumC (withC (withC l c) d) then 8 else 0 := by
    unfold opE; rw [if_pos ⟨c8, d1, d2, d3⟩, if_neg (by rw [f1]; decide)]
  have e2 : opE (withC l d) c = if (withC l d).length = 32 then 7 else if mMax < sumC (withC (withC l d) c) then 8 else 0 := by
    unfold opE; rw [if_pos ⟨d8, c1, c2, c3⟩, if_neg (by rw [f2]; decide)]
  have hl : (withC l c).length = (withC l d).length := by rw [cwith_len_new c4, cwith_len_new d4]
  have e3 : opE (withC l c) d = opE (withC l d) c := by rw [e1, e2, hl, hcm]
  rw [c7, d7]
  refine ⟨e3, ?_, ?_, gt_of c8 (cwith_mem.2 (.inr rfl))⟩
  · unfold opL
    rw [e3, hcm]
  · rw [e1]
    split
    · exact .inr (.inl rfl)
    · split
      · exact .inr (.inr rfl)
      · exact .inl rfl
end Go.Proofs.Ytpkfejfdbjoehaa
