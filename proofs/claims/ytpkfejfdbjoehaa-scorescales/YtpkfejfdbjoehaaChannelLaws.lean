/-
  Channels, plain: what follows: all is as much as it was; what was held, and failed, is as it was; what there is room for; two holds apart; what is shut.
-/
import Derived.Test.YtpkfejfdbjoehaaChannelMath
namespace Go.Proofs.Ytpkfejfdbjoehaa
open Go.RowKit Go.WalkArith

theorem ch_is {c : Chn} : (ChOk c ∧ chE c = 0) ∨ (¬ ChOk c ∧ chE c = 1) := by
  by_cases h : ChOk c
  · exact .inl ⟨h, if_pos h⟩
  · exact .inr ⟨h, if_neg h⟩
theorem ho_is {c : Chn} {id n : Int} (h : hoE c id n = 0) : ChOk c ∧ n ≠ 0 ∧ n ≤ mMax ∧ c.Open = true ∧ holdF c.Holds id = none ∧ c.Holds.length < 64 ∧ c.Reserve ≤ c.Local ∧ n ≤ c.Local - c.Reserve ∧ n ≤ c.Most - heldN c ∧ hoC c id n = ⟨c.Id, c.Local - n, c.Remote, c.Reserve, c.Most, withH c.Holds ⟨id, n⟩, c.Open⟩ := by
  have hC : hoC c id n = ⟨c.Id, c.Local - n, c.Remote, c.Reserve, c.Most, withH c.Holds ⟨id, n⟩, c.Open⟩ := if_pos h
  unfold hoE at h
  by_cases g1 : ChOk c ∧ n ≠ 0 ∧ n ≤ mMax
  · rw [if_pos g1] at h
    by_cases g2 : c.Open = false
    · rw [if_pos g2] at h; cases h
    rw [if_neg g2] at h
    by_cases g3 : (holdF c.Holds id).isSome = true
    · rw [if_pos g3] at h; cases h
    rw [if_neg g3] at h
    by_cases g4 : c.Holds.length = 64
    · rw [if_pos g4] at h; cases h
    rw [if_neg g4] at h
    by_cases g5 : c.Local < c.Reserve ∨ c.Local - c.Reserve < n
    · rw [if_pos g5] at h; cases h
    rw [if_neg g5] at h
    by_cases g6 : c.Most - heldN c < n
    · rw [if_pos g6] at h; cases h
    have := g1.1.2.2.1
    refine ⟨g1.1, g1.2.1, g1.2.2, by simpa using g2, ?_, by omega, by omega, by omega, by omega, hC⟩
    cases hf : holdF c.Holds id with
    | none => rfl
    | some r => rw [hf] at g3; exact absurd rfl g3
  · rw [if_neg g1] at h; cases h
theorem ho_no {c : Chn} {id n : Int} (h : hoE c id n ≠ 0) : hoC c id n = zeroCh := if_neg h
theorem nums_mem {l : List Hld} {m : Int} : allLe m (numsH l) = true ↔ ∀ x ∈ l, x.N ≤ m := by
  rw [allLe_iff]
  unfold numsH
  constructor
  · exact fun h x hx => h x.N (List.mem_map.2 ⟨x, hx, rfl⟩)
  · intro h y hy
    obtain ⟨x, hx, rfl⟩ := List.mem_map.1 hy
    exact h x hx
theorem ho_ch {c : Chn} {id n : Int} (hw : ChnWf c) (h : hoE c id n = 0) (hn : 0 ≤ n) : ChOk (hoC c id n) ∧ heldN (hoC c id n) = heldN c + n ∧ aaV (hoC c id n) = aaV c ∧ (hoC c id n).Reserve ≤ (hoC c id n).Local := by
  obtain ⟨h1, h2, h3, h4, h5, h6, h7, h8, h9, h10⟩ := ho_is h
  obtain ⟨a1, a2, a3, a4, a5, a6, a7, a8, a9, a10, a11⟩ := h1
  have hs : heldN (hoC c id n) = heldN c + n := by rw [h10]; exact sum_with (r := ⟨id, n⟩) h5
  have hr := (bounds_u64 hw.res).1
  have ok : ChOk (hoC c id n) := by
    rw [h10] at hs ⊢
    refine ⟨a1, a2, ?_, fun k => ?_, ?_, hwith_up a6 _, nums_mem.2 ?_, ?_, ?_, a10, ?_⟩
    · show (withH c.Holds ⟨id, n⟩).length ≤ 64
      rw [hwith_len_new (r := ⟨id, n⟩) h5]; omega
    · have k' : c.Open = false := k
      rw [h4] at k'; cases k'
    · intro x hx
      rcases hwith_mem.1 hx with ⟨k1, -⟩ | rfl
      · exact a5 x k1
      · exact h2
    · intro x hx
      rcases hwith_mem.1 hx with ⟨k1, -⟩ | rfl
      · exact nums_mem.1 a7 x k1
      · exact h3
    · rw [hs]; show heldN c + n ≤ c.Most; omega
    · show c.Local - n ≤ mMax; omega
    · rw [hs]; show c.Local - n + c.Remote + (heldN c + n) ≤ mMax; omega
  refine ⟨ok, hs, ?_, ?_⟩
  · unfold aaV
    rw [if_pos ok, if_pos ⟨a1, a2, a3, a4, a5, a6, a7, a8, a9, a10, a11⟩, hs, h10]
    show c.Local - n + c.Remote + (heldN c + n) = _
    omega
  · rw [h10]
    show c.Reserve ≤ c.Local - n
    omega
theorem wt_is {c : Chn} {id : Int} (h : wtE c id = 0) : ChOk c ∧ ∃ r, holdF c.Holds id = some r ∧ wtN c id = r.N := by
  unfold wtE at h
  by_cases g : ChOk c
  · rw [if_pos g] at h
    cases hf : holdF c.Holds id with
    | none => rw [hf] at h; cases h
    | some r => exact ⟨g, r, rfl, by unfold wtN; rw [if_pos g, hf]⟩
  · rw [if_neg g] at h; cases h
theorem wt_of {c : Chn} {id : Int} {r : Hld} (g : ChOk c) (h : holdF c.Holds id = some r) : wtE c id = 0 ∧ wtN c id = r.N := by
  unfold wtE wtN
  rw [if_pos g, if_pos g, h]
  exact ⟨rfl, rfl⟩
theorem wt_none {c : Chn} {id : Int} (g : ChOk c) (h : holdF c.Holds id = none) : wtE c id = 5 ∧ wtN c id = 0 := by
  unfold wtE wtN
  rw [if_pos g, if_pos g, h]
  exact ⟨rfl, rfl⟩
theorem wt_no {c : Chn} {id : Int} (h : wtE c id ≠ 0) : wtN c id = 0 ∧ seC c id = zeroCh ∧ faC c id = zeroCh := by
  refine ⟨?_, if_neg h, if_neg h⟩
  unfold wtE at h
  unfold wtN
  by_cases g : ChOk c
  · rw [if_pos g] at h ⊢
    cases hf : holdF c.Holds id with
    | none => rfl
    | some r => rw [hf] at h; exact absurd rfl h
  · rw [if_neg g]
/-- A channel without a hold, whose amount has gone to the one side, or the other. -/
theorem less_ch {c : Chn} {id : Int} {r : Hld} (hw : ChnWf c) (hh : HldsWf c.Holds) (g : ChOk c) (hf : holdF c.Holds id = some r) {a b : Int} (hab : (a = c.Local + r.N ∧ b = c.Remote) ∨ (a = c.Local ∧ b = c.Remote + r.N)) :
    ChOk ⟨c.Id, a, b, c.Reserve, c.Most, lessH c.Holds id, c.Open⟩ ∧ aaV ⟨c.Id, a, b, c.Reserve, c.Most, lessH c.Holds id, c.Open⟩ = aaV c ∧ ChnWf ⟨c.Id, a, b, c.Reserve, c.Most, lessH c.Holds id, c.Open⟩ := by
  have g0 := g
  obtain ⟨a1, a2, a3, a4, a5, a6, a7, a8, a9, a10, a11⟩ := g
  have hs : heldN ⟨c.Id, a, b, c.Reserve, c.Most, lessH c.Holds id, c.Open⟩ = heldN c - r.N := sum_gone a6 hf
  have hl := len_gone a6 hf
  have hr := holdF_some hf
  have hn : r.N ≤ heldN c := num_le hh hr.1
  have hn0 := (bounds_u64 (hh r hr.1).num).1
  have l0 := (bounds_u64 hw.loc).1
  have r0 := (bounds_u64 hw.rem).1
  have hm : mMax = 4611686018427387904 := rfl
  have ok : ChOk ⟨c.Id, a, b, c.Reserve, c.Most, lessH c.Holds id, c.Open⟩ := by
    refine ⟨a1, a2, ?_, fun k => ?_, fun x hx => a5 x (less_mem.1 hx).1, less_up a6 id, nums_mem.2 fun x hx => nums_mem.1 a7 x (less_mem.1 hx).1, ?_, ?_, ?_, ?_⟩
    · show (lessH c.Holds id).length ≤ 64; omega
    · show lessH c.Holds id = []
      rw [a4 k]; rfl
    · rw [hs]; show heldN c - r.N ≤ c.Most; omega
    · show a ≤ mMax; omega
    · show b ≤ mMax; omega
    · rw [hs]; show a + b + (heldN c - r.N) ≤ mMax; omega
  refine ⟨ok, ?_, hw.id, wf_u64 (show 0 ≤ a ∧ a ≤ _ by omega), wf_u64 (show 0 ≤ b ∧ b ≤ _ by omega), hw.res, hw.most⟩
  unfold aaV
  rw [if_pos ok, if_pos g0, hs]
  show a + b + (heldN c - r.N) = _
  omega
theorem se_is {c : Chn} {id : Int} (hw : ChnWf c) (hh : HldsWf c.Holds) (h : wtE c id = 0) : seC c id = ⟨c.Id, c.Local, c.Remote + wtN c id, c.Reserve, c.Most, lessH c.Holds id, c.Open⟩ ∧ ChOk (seC c id) ∧ aaV (seC c id) = aaV c ∧ ChnWf (seC c id) := by
  obtain ⟨g, r, hf, hn⟩ := wt_is h
  have e : seC c id = ⟨c.Id, c.Local, c.Remote + wtN c id, c.Reserve, c.Most, lessH c.Holds id, c.Open⟩ := if_pos h
  refine ⟨e, ?_⟩
  rw [e, hn]
  exact less_ch hw hh g hf (.inr ⟨rfl, rfl⟩)
theorem fa_is {c : Chn} {id : Int} (hw : ChnWf c) (hh : HldsWf c.Holds) (h : wtE c id = 0) : faC c id = ⟨c.Id, c.Local + wtN c id, c.Remote, c.Reserve, c.Most, lessH c.Holds id, c.Open⟩ ∧ ChOk (faC c id) ∧ aaV (faC c id) = aaV c ∧ ChnWf (faC c id) := by
  obtain ⟨g, r, hf, hn⟩ := wt_is h
  have e : faC c id = ⟨c.Id, c.Local + wtN c id, c.Remote, c.Reserve, c.Most, lessH c.Holds id, c.Open⟩ := if_pos h
  refine ⟨e, ?_⟩
  rw [e, hn]
  exact less_ch hw hh g hf (.inl ⟨rfl, rfl⟩)
theorem zero_wf : ChnWf zeroCh := ⟨by decide, by decide, by decide, by decide, by decide⟩
theorem ho_wf {c : Chn} {id n : Int} (hw : ChnWf c) (hn : 0 ≤ n) : ChnWf (hoC c id n) := by
  by_cases h : hoE c id n = 0
  · obtain ⟨h1, h2, h3, h4, h5, h6, h7, h8, h9, h10⟩ := ho_is h
    rw [h10]
    have b1 := bounds_u64 hw.loc
    have b2 := bounds_u64 hw.res
    exact ⟨hw.id, wf_u64 (show 0 ≤ c.Local - n ∧ c.Local - n ≤ _ by omega), hw.rem, hw.res, hw.most⟩
  · rw [ho_no h]; exact zero_wf
theorem se_wf {c : Chn} {id : Int} (hw : ChnWf c) (hh : HldsWf c.Holds) : ChnWf (seC c id) := by
  by_cases h : wtE c id = 0
  · exact (se_is hw hh h).2.2.2
  · rw [(wt_no h).2.1]; exact zero_wf
theorem fa_wf {c : Chn} {id : Int} (hw : ChnWf c) (hh : HldsWf c.Holds) : ChnWf (faC c id) := by
  by_cases h : wtE c id = 0
  · exact (fa_is hw hh h).2.2.2
  · rw [(wt_no h).2.2]; exact zero_wf
theorem pu_no {c : Chn} {n : Int} (h : puE c n ≠ 0) : puC c n = zeroCh := if_neg h
theorem pu_is {c : Chn} {n : Int} (hw : ChnWf c) (hh : HldsWf c.Holds) (hn : 0 ≤ n) (h : puE c n = 0) : ChOk c ∧ c.Open = true ∧ n ≤ c.Remote ∧ puC c n = ⟨c.Id, c.Local + n, c.Remote - n, c.Reserve, c.Most, c.Holds, c.Open⟩ ∧ ChOk (puC c n) ∧ aaV (puC c n) = aaV c ∧ ChnWf (puC c n) := by
  have e : puC c n = ⟨c.Id, c.Local + n, c.Remote - n, c.Reserve, c.Most, c.Holds, c.Open⟩ := if_pos h
  unfold puE at h
  by_cases g : ChOk c ∧ n ≤ mMax
  · rw [if_pos g] at h
    by_cases g2 : c.Open = false
    · rw [if_pos g2] at h; cases h
    rw [if_neg g2] at h
    by_cases g3 : c.Remote < n
    · rw [if_pos g3] at h; cases h
    have g0 := g.1
    obtain ⟨⟨a1, a2, a3, a4, a5, a6, a7, a8, a9, a10, a11⟩, b1⟩ := g
    have l0 := (bounds_u64 hw.loc).1
    have r0 := (bounds_u64 hw.rem).1
    have h0 := held_nonneg hh
    have hm : mMax = 4611686018427387904 := rfl
    have ok : ChOk ⟨c.Id, c.Local + n, c.Remote - n, c.Reserve, c.Most, c.Holds, c.Open⟩ := by
      refine ⟨a1, a2, a3, a4, a5, a6, a7, a8, ?_, ?_, ?_⟩
      · show c.Local + n ≤ mMax; omega
      · show c.Remote - n ≤ mMax; omega
      · show c.Local + n + (c.Remote - n) + heldN c ≤ mMax; omega
    refine ⟨g0, by simpa using g2, by omega, e, ?_⟩
    rw [e]
    refine ⟨ok, ?_, hw.id, wf_u64 (show 0 ≤ c.Local + n ∧ c.Local + n ≤ _ by omega), wf_u64 (show 0 ≤ c.Remote - n ∧ c.Remote - n ≤ _ by omega), hw.res, hw.most⟩
    unfold aaV
    rw [if_pos ok, if_pos g0]
    show c.Local + n + (c.Remote - n) + heldN c = _
    omega
  · rw [if_neg g] at h; cases h
theorem pu_wf {c : Chn} {n : Int} (hw : ChnWf c) (hh : HldsWf c.Holds) (hn : 0 ≤ n) : ChnWf (puC c n) := by
  by_cases h : puE c n = 0
  · exact (pu_is hw hh hn h).2.2.2.2.2.2
  · rw [pu_no h]; exact zero_wf
theorem cl_no {c : Chn} (h : clE c ≠ 0) : clC c = zeroCh := if_neg h
theorem cl_is {c : Chn} (h : clE c = 0) : ChOk c ∧ c.Open = true ∧ c.Holds = [] ∧ clC c = ⟨c.Id, c.Local, c.Remote, c.Reserve, c.Most, c.Holds, false⟩ ∧ ChOk (clC c) := by
  have e : clC c = ⟨c.Id, c.Local, c.Remote, c.Reserve, c.Most, c.Holds, false⟩ := if_pos h
  unfold clE at h
  by_cases g : ChOk c
  · rw [if_pos g] at h
    by_cases g2 : c.Open = false
    · rw [if_pos g2] at h; cases h
    rw [if_neg g2] at h
    by_cases g3 : 0 < c.Holds.length
    · rw [if_pos g3] at h; cases h
    have hn : c.Holds = [] := List.eq_nil_of_length_eq_zero (by omega)
    refine ⟨g, by simpa using g2, hn, e, ?_⟩
    rw [e]
    obtain ⟨a1, a2, a3, a4, a5, a6, a7, a8, a9, a10, a11⟩ := g
    exact ⟨a1, a2, a3, fun _ => hn, a5, a6, a7, a8, a9, a10, a11⟩
  · rw [if_neg g] at h; cases h
theorem cl_wf {c : Chn} (hw : ChnWf c) : ChnWf (clC c) := by
  by_cases h : clE c = 0
  · rw [(cl_is h).2.2.2.1]; exact ⟨hw.id, hw.loc, hw.rem, hw.res, hw.most⟩
  · rw [cl_no h]; exact zero_wf

/-- What was held, and failed, is as it was; settled, it is theirs; it is ended once. -/
theorem back_laws {c : Chn} {id n : Int} (hw : ChnWf c) (hn : 0 ≤ n) (hi : (Lit.int .u64 id).wf = true) (hh : HldsWf c.Holds) (h : hoE c id n = 0) :
    wtE (hoC c id n) id = 0 ∧ wtN (hoC c id n) id = n ∧ faC (hoC c id n) id = c ∧ (seC (hoC c id n) id).Remote = c.Remote + n ∧ (seC (hoC c id n) id).Local = c.Local - n ∧ wtE (seC (hoC c id n) id) id = 5 ∧ wtE c id = 5 ∧ hoE (hoC c id n) id n = 6 := by
  obtain ⟨ok, -, -, -⟩ := ho_ch hw h hn
  have hwd := ho_wf (id := id) hw hn
  obtain ⟨h1, h2, h3, h4, h5, h6, h7, h8, h9, h10⟩ := ho_is h
  have hm : mMax = 4611686018427387904 := rfl
  have hhd : HldsWf (hoC c id n).Holds := by
    rw [h10]
    intro x hx
    rcases hwith_mem.1 hx with ⟨k1, -⟩ | rfl
    · exact hh x k1
    · exact ⟨hi, wf_u64 (show 0 ≤ n ∧ n ≤ _ by omega)⟩
  have hf : holdF (hoC c id n).Holds id = some ⟨id, n⟩ := by rw [h10]; exact with_found h1.2.2.2.2.2.1 ⟨id, n⟩
  obtain ⟨e1, e2⟩ := wt_of ok hf
  obtain ⟨s1, s2, -, -⟩ := se_is hwd hhd e1
  have hl : lessH (hoC c id n).Holds id = c.Holds := by rw [h10]; exact less_with (r := ⟨id, n⟩) h1.2.2.2.2.2.1 h5
  refine ⟨e1, e2, ?_, ?_, ?_, ?_, (wt_none h1 h5).1, ?_⟩
  · rw [(fa_is hwd hhd e1).1, e2, hl, h10]
    show (⟨c.Id, c.Local - n + n, c.Remote, c.Reserve, c.Most, c.Holds, c.Open⟩ : Chn) = c
    rw [Int.sub_add_cancel]
  · rw [s1, e2, h10]
  · rw [s1, h10]
  · refine (wt_none s2 ?_).1
    rw [s1]
    exact less_none
  · unfold hoE
    rw [if_pos ⟨ok, h2, h3⟩, if_neg (by rw [h10]; show ¬ c.Open = false; rw [h4]; decide), if_pos (by rw [hf]; rfl)]
/-- As much as there is room for can be held, and no more. -/
theorem room_law {c : Chn} {id n : Int} (g : ChOk c) (h0 : 0 < n) (hn : n ≤ mMax) : hoE c id n = 6 ∨ (hoE c id n ≠ 6 ∧ (hoE c id n = 0 ↔ n ≤ roomN c)) := by
  unfold hoE roomN
  rw [if_pos ⟨g, by omega, hn⟩]
  by_cases g2 : c.Open = false
  · rw [if_pos g2, if_pos (.inl g2)]
    exact .inr ⟨by decide, by constructor <;> intro k <;> omega⟩
  rw [if_neg g2]
  by_cases g3 : (holdF c.Holds id).isSome = true
  · exact .inl (if_pos g3)
  rw [if_neg g3]
  by_cases g4 : c.Holds.length = 64
  · rw [if_pos g4, if_pos (.inr (.inl g4))]
    exact .inr ⟨by decide, by constructor <;> intro k <;> omega⟩
  rw [if_neg g4]
  by_cases g5 : c.Local < c.Reserve
  · rw [if_pos (.inl g5), if_pos (.inr (.inr g5))]
    exact .inr ⟨by decide, by constructor <;> intro k <;> omega⟩
  rw [if_neg (show ¬ (c.Open = false ∨ c.Holds.length = 64 ∨ c.Local < c.Reserve) from fun k => k.elim g2 fun k => k.elim g4 g5)]
  by_cases g6 : c.Local - c.Reserve < n
  · rw [if_pos (.inr g6)]
    exact .inr ⟨by decide, by constructor <;> intro k <;> omega⟩
  rw [if_neg (fun k => k.elim g5 g6)]
  by_cases g7 : c.Most - heldN c < n
  · rw [if_pos g7]
    exact .inr ⟨by decide, by constructor <;> intro k <;> omega⟩
  · rw [if_neg g7]
    exact .inr ⟨by decide, by constructor <;> intro k <;> omega⟩
noncomputable def enC (c : Chn) (id : Int) (yes : Bool) : Chn := if yes = true then seC c id else faC c id
theorem en_is {c : Chn} {id : Int} {yes : Bool} (hw : ChnWf c) (hh : HldsWf c.Holds) (h : wtE c id = 0) : enC c id yes = ⟨c.Id, (if yes = true then c.Local else c.Local + wtN c id), (if yes = true then c.Remote + wtN c id else c.Remote), c.Reserve, c.Most, lessH c.Holds id, c.Open⟩ ∧ ChOk (enC c id yes) ∧ ChnWf (enC c id yes) := by
  unfold enC
  cases yes
  · obtain ⟨h1, h2, -, h3⟩ := fa_is hw hh h
    exact ⟨h1, h2, h3⟩
  · obtain ⟨h1, h2, -, h3⟩ := se_is hw hh h
    exact ⟨h1, h2, h3⟩
theorem en_wf {c : Chn} {id : Int} {yes : Bool} (hw : ChnWf c) (hh : HldsWf c.Holds) : ChnWf (enC c id yes) := by
  unfold enC
  cases yes
  · exact fa_wf hw hh
  · exact se_wf hw hh
/-- Two holds, whatever is done with the one, do not touch each other. -/
theorem apart_chan {c : Chn} {a b : Int} {p d : Bool} (hab : a ≠ b) (hw : ChnWf c) (hh : HldsWf c.Holds) (ha : wtE c a = 0) (hb : wtE c b = 0) :
    wtE (enC c a p) b = 0 ∧ wtN (enC c a p) b = wtN c b ∧ wtE (enC c b d) a = 0 ∧ wtN (enC c b d) a = wtN c a ∧ enC (enC c a p) b d = enC (enC c b d) a p ∧ (enC (enC c a p) b d).Holds.length + 2 = c.Holds.length := by
  obtain ⟨g, ra, fa, na⟩ := wt_is ha
  obtain ⟨-, rb, fb, nb⟩ := wt_is hb
  have hu := g.2.2.2.2.2.1
  obtain ⟨x1, x2, x3⟩ := en_is (yes := p) hw hh ha
  obtain ⟨y1, y2, y3⟩ := en_is (yes := d) hw hh hb
  have hx : (enC c a p).Holds = lessH c.Holds a := by rw [x1]
  have hy : (enC c b d).Holds = lessH c.Holds b := by rw [y1]
  have fxb : holdF (enC c a p).Holds b = some rb := by rw [hx, less_other hu (fun e => hab e.symm), fb]
  have fya : holdF (enC c b d).Holds a = some ra := by rw [hy, less_other hu hab, fa]
  obtain ⟨e1, e2⟩ := wt_of x2 fxb
  obtain ⟨e3, e4⟩ := wt_of y2 fya
  have hhx : HldsWf (enC c a p).Holds := by rw [hx]; exact fun z hz => hh z (less_mem.1 hz).1
  have hhy : HldsWf (enC c b d).Holds := by rw [hy]; exact fun z hz => hh z (less_mem.1 hz).1
  obtain ⟨p1, -, -⟩ := en_is (yes := d) x3 hhx e1
  obtain ⟨q1, -, -⟩ := en_is (yes := p) y3 hhy e3
  refine ⟨e1, by rw [e2, nb], e3, by rw [e4, na], ?_, ?_⟩
  · rw [p1, q1, e2, e4, x1, y1, na, nb]
    simp only [less_comm c.Holds a b]
    cases p <;> cases d <;> simp <;> omega
  · rw [p1]
    show (lessH (enC c a p).Holds b).length + 2 = _
    have l1 := len_gone (hx ▸ less_up hu a) fxb
    have l2 := len_gone hu fa
    rw [hx] at l1 ⊢
    omega
theorem shut_law {c : Chn} {id : Int} (h : clE c = 0) : chE (clC c) = 0 ∧ rmV (clC c) = 0 ∧ hoE (clC c) id 1 = 14 ∧ puE (clC c) 0 = 14 ∧ clE (clC c) = 14 ∧ (clC c).Local = c.Local ∧ (clC c).Remote = c.Remote := by
  obtain ⟨h1, h2, h3, h4, h5⟩ := cl_is h
  have ho : (clC c).Open = false := by rw [h4]
  refine ⟨if_pos h5, ?_, ?_, ?_, ?_, by rw [h4], by rw [h4]⟩
  · unfold rmV roomN
    rw [if_pos h5, if_pos (.inl ho)]
  · unfold hoE
    rw [if_pos ⟨h5, by decide, by decide⟩, if_pos ho]
  · unfold puE
    rw [if_pos ⟨h5, by decide⟩, if_pos ho]
  · unfold clE
    rw [if_pos h5, if_pos ho]
/-- The chapter's example. -/
def egC : Chn := ⟨0, 10, 0, 2, 100, [], true⟩
theorem eg9 : hoE egC 1 8 = 0 ∧ hoE egC 1 9 = 9 ∧ hoC egC 1 8 = ⟨0, 2, 0, 2, 100, [⟨1, 8⟩], true⟩ := by
  have hm : mMax = 4611686018427387904 := rfl
  have ok : ChOk egC := ⟨by decide, by decide, by decide, by decide, by simp [egC], List.Pairwise.nil, by decide, by decide, by decide, by decide, by decide⟩
  have e8 : hoE egC 1 8 = 0 := by
    unfold hoE
    rw [if_pos ⟨ok, by decide, by decide⟩, if_neg (by decide), if_neg (by decide), if_neg (by decide), if_neg (by decide), if_neg (by decide)]
  refine ⟨e8, ?_, ?_⟩
  · unfold hoE
    rw [if_pos ⟨ok, by decide, by decide⟩, if_neg (by decide), if_neg (by decide), if_neg (by decide), if_pos (by decide)]
  · rw [(ho_is e8).2.2.2.2.2.2.2.2.2]
    decide
end Go.Proofs.Ytpkfejfdbjoehaa
