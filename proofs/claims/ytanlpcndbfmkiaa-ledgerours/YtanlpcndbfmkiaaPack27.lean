/-
  Package ledger: whether channels may be, where a hold is, how much is ours, one of them; something done with one of them.
-/
import Derived.Deep.QuietTactic
import Derived.Test.YtanlpcndbfmkiaaPack1
import Derived.Test.YtanlpcndbfmkiaaPack2
import Derived.Test.YtanlpcndbfmkiaaPack3
import Derived.Test.YtanlpcndbfmkiaaPack4
import Derived.Test.YtanlpcndbfmkiaaPack5
import Derived.Test.YtanlpcndbfmkiaaPack6
import Derived.Test.YtanlpcndbfmkiaaPack7
import Derived.Test.YtanlpcndbfmkiaaPack8
import Derived.Test.YtanlpcndbfmkiaaPack9
import Derived.Test.YtanlpcndbfmkiaaPack10
import Derived.Test.YtanlpcndbfmkiaaPack11
import Derived.Test.YtanlpcndbfmkiaaPack12
import Derived.Test.YtanlpcndbfmkiaaPack13
import Derived.Test.YtanlpcndbfmkiaaPack14
import Derived.Test.YtanlpcndbfmkiaaPack15
import Derived.Test.YtanlpcndbfmkiaaPack16
import Derived.Test.YtanlpcndbfmkiaaPack17
import Derived.Test.YtanlpcndbfmkiaaPack18
import Derived.Test.YtanlpcndbfmkiaaPack19
import Derived.Test.YtanlpcndbfmkiaaPack20
import Derived.Test.YtanlpcndbfmkiaaPack21
import Derived.Test.YtanlpcndbfmkiaaPack22
import Derived.Test.YtanlpcndbfmkiaaPack23
import Derived.Test.YtanlpcndbfmkiaaPack24
import Derived.Test.YtanlpcndbfmkiaaPack25
import Derived.Test.YtanlpcndbfmkiaaPack26
namespace Go.Proofs.Ytanlpcndbfmkiaa
open Go.RowKit Go.WalkArith

set_option maxHeartbeats 1000000 in
theorem lCheck_any (A : Option Addr) (n k : Nat) (l : List Chn) (w : World) (h : Sl lay_Channel w (· < w.heap.size) A n k l) :
    Calls Try.prog 30 #[.slice A n k] w fun e w' => e = .returned (.int .i64 (lgE l)) ∧ Below w.heap.size w w' := by
  go_enter Try.func30, Try.ntmps30
  go_wp2_with fail
  with_reducible refine (homes_any A n k l w h).mono ?_
  rintro e w1 ⟨v, rfl, -, hb1⟩
  go_wp2
  go_ret
  exact ⟨rfl, hb1⟩

theorem lg_two {l : List Chn} : (LgOk l ∧ lgE l = 0) ∨ (¬ LgOk l ∧ lgE l = 1) := by
  by_cases g : LgOk l
  · exact .inl ⟨g, if_pos g⟩
  · exact .inr ⟨g, if_neg g⟩

set_option maxHeartbeats 2000000 in
theorem lWhere_any (A : Option Addr) (n k : Nat) (l : List Chn) (hold : Int) (w : World) (h : Sl lay_Channel w (· < w.heap.size) A n k l) (hh : (Lit.int .u64 hold).wf = true) :
    Calls Try.prog 25 #[.slice A n k, .int .u64 hold] w fun e w' => e = .returned (.tuple #[.int .u64 (whV l hold), .int .i64 (whE l hold)]) ∧ Below w.heap.size w w' := by
  go_enter Try.func25, Try.ntmps25
  go_wp2_with fail
  with_reducible refine (homes_any A n k l w h).mono ?_
  rcases lg_two (l := l) with ⟨g, e⟩ | ⟨g, e⟩
  rotate_left
  · rw [e]
    have HE := hid (show whV l hold = 0 ∧ whE l hold = 1 from ⟨if_neg g, if_neg g⟩)
    clear e
    rintro e w1 ⟨v, rfl, -, hb1⟩
    go_wp2
    go_ret2
    exact ⟨by rw [HE.out.1, HE.out.2]; rfl, hb1⟩
  rw [e]
  clear e
  rintro e w1 ⟨v, rfl, hm, hb1⟩
  obtain ⟨b, rfl, -, hm⟩ := hm g
  have hlk := hm.look hh
  rw [lookP_where] at hlk
  clear hm
  cases hf : whereF l hold with
  | none =>
    have HE := hid (show whV l hold = 0 ∧ whE l hold = 5 from ⟨by unfold whV; rw [if_pos g, hf], by unfold whE; rw [if_pos g, hf]⟩)
    rw [hf] at hlk
    simp only [Option.map_none, Option.getD_none, Option.isSome_none] at hlk
    clear hf
    go_wp2
    go_ret2
    exact ⟨by rw [HE.out.1, HE.out.2]; rfl, hb1⟩
  | some c =>
    have HE := hid (show whV l hold = c.Id ∧ whE l hold = 0 from ⟨by unfold whV; rw [if_pos g, hf], by unfold whE; rw [if_pos g, hf]⟩)
    rw [hf] at hlk
    simp only [Option.map_some, Option.getD_some, Option.isSome_some] at hlk
    clear hf
    go_wp2
    go_ret2
    exact ⟨by rw [HE.out.1, HE.out.2]; rfl, hb1⟩

theorem add_of {xs : List Int} (h0 : ∀ x ∈ xs, 0 ≤ x) (h : sumM xs ≤ mMax) : addN xs = sumM xs ∧ addE xs = 0 := by
  have h1 : allLe mMax xs = true := allLe_iff.2 fun x hx => by
    have : x ≤ sumM xs := by
      clear h
      induction xs with
      | nil => simp at hx
      | cons y ys ih =>
        have hy := h0 y (by simp)
        have hs : 0 ≤ sumM ys := sumM_nonneg fun z hz => h0 z (by simp [hz])
        rcases List.mem_cons.1 hx with e | e
        · subst e; show x ≤ x + sumM ys; omega
        · have := ih (fun z hz => h0 z (by simp [hz])) e
          show x ≤ y + sumM ys
          omega
    omega
  have e : addE xs = 0 := by unfold addE; rw [if_pos h1, if_pos h]
  exact ⟨if_pos e, e⟩
theorem he_wf {c : Chn} (hw : ChnWf c) (hh : HldsWf c.Holds) : (Lit.int .u64 (heV c)).wf = true := by
  have a := (bounds_u64 hw.loc).1
  have b := (bounds_u64 hw.rem).1
  have d := held_nonneg hh
  unfold heV
  split
  · rename_i h
    have : c.Local + c.Remote + heldN c ≤ mMax := h.2.2.2.2.2.2.2.2.2.2
    have : mMax = 4611686018427387904 := rfl
    exact wf_u64 (by omega)
  · decide

set_option maxHeartbeats 2000000 in
theorem lOurs_any (A : Option Addr) (n k : Nat) (l : List Chn) (w : World) (h : Sl lay_Channel w (· < w.heap.size) A n k l) :
    Calls Try.prog 27 #[.slice A n k] w fun e w' => e = .returned (.tuple #[.int .u64 (oursN l), .int .u64 (oursH l), .int .i64 (lgE l)]) ∧ Below w.heap.size w w' := by
  have HL := hid h.len
  have HSL := hid (fun (W : World) (h' : Below w.heap.size w W) => Sl.call h h')
  have hwl := sl_chns h
  go_enter Try.func27, Try.ntmps27
  go_wp2_with fail
  refine (lCheck_any A n k l w h).mono ?_
  rcases lg_two (l := l) with ⟨g, e⟩ | ⟨g, e⟩
  rotate_left
  · rw [e]
    have HE := hid (show oursN l = 0 ∧ oursH l = 0 ∧ lgE l = 1 from ⟨if_neg g, if_neg g, e⟩)
    clear e g
    rintro e w1 ⟨rfl, hb1⟩
    go_wp2
    go_ret3
    exact ⟨by rw [HE.out.1, HE.out.2.1]; first | rfl | (rw [HE.out.2.2]; rfl), hb1⟩
  rw [e]
  have HE := hid (show oursN l = ourS l ∧ oursH l = heldS l ∧ lgE l = 0 from ⟨if_pos g, if_pos g, e⟩)
  have hbd := ours_bd g hwl
  have hn : n ≤ 1048576 := by rw [← h.len]; have := g.1; omega
  have HA1 := hid (show addN (l.map fun c => if c.Open = true then c.Local else 0) = ourS l from (add_of (fun x hx => by
    obtain ⟨c, hc, rfl⟩ := List.mem_map.1 hx
    have := (bounds_u64 (hwl c hc).1.loc).1
    split <;> omega) (show ourS l ≤ mMax by omega)).1)
  have e2 : l.map heV = l.map heldN := List.map_congr_left fun c hc => if_pos (g.2.1 c hc)
  have HA2 := hid (show addN (l.map heV) = heldS l from by
    rw [e2]
    exact (add_of (fun x hx => by
      obtain ⟨c, hc, rfl⟩ := List.mem_map.1 hx
      exact held_nonneg (hwl c hc).2) (show heldS l ≤ mMax by omega)).1)
  have HC1 := hid (fun (W : World) (hs : Sl lay_Channel W (· < W.heap.size) A n k l) => lTogether_any 64 (fun c => if c.Open = true then c.Local else 0) (fun _ => 0) (fun s c w r => localIf_any s c w r) (fun args w => enter_any Try.func64 (by kernel_rfl) (by rfl) args w) A n k l (fun c hc => by
    have := hwl c hc
    split
    · exact this.1.loc
    · decide) W hs hn)
  have HC2 := hid (fun (W : World) (hs : Sl lay_Channel W (· < W.heap.size) A n k l) => lTogether_any 65 heV chE (fun s c w r => cHeld_any s c w r) (fun args w => enter_any Try.func65 (by kernel_rfl) (by rfl) args w) A n k l (fun c hc => he_wf (hwl c hc).1 (hwl c hc).2) W hs hn)
  have HCE := hid (show ∀ c ∈ l, chE c = 0 from fun c hc => if_pos (g.2.1 c hc))
  clear e g hwl hbd e2
  rintro e w1 ⟨rfl, hb1⟩
  go_wp2_with fail
  with_reducible refine (HC1.out _ (HSL.out _ hb1)).mono ?_
  rintro e w2 ⟨v2, x2, rfl, h2, -, hb2⟩
  obtain ⟨q2, -⟩ := h2 (by simp)
  rw [HA1.out] at q2
  have Q2 := hid q2
  clear q2 h2
  have HB2 := bel_call hb1 hb2
  go_wp2_with fail
  with_reducible refine (HC2.out _ (HSL.out _ HB2)).mono ?_
  rintro e w3 ⟨v3, x3, rfl, h3, -, hb3⟩
  obtain ⟨q3, -⟩ := h3 HCE.out
  rw [HA2.out] at q3
  have Q3 := hid q3
  clear q3 h3
  have HB3 := bel_call HB2 hb3
  go_wp2
  go_ret3
  exact ⟨by rw [HE.out.1, HE.out.2.1, HE.out.2.2, ← Q2.out, ← Q3.out]; rfl, HB3⟩

set_option maxHeartbeats 2000000 in
/-- Where the channel of that number stands, if channels may be. -/
theorem placeIn_any (A : Option Addr) (n k : Nat) (l : List Chn) (id : Int) (w : World) (h : Sl lay_Channel w (· < w.heap.size) A n k l) :
    Calls Try.prog 62 #[.slice A n k, .int .u64 id] w fun e w' => ∃ j : Nat, e = .returned (.tuple #[.int .i64 j, .int .i64 (gtE l id)]) ∧ (gtE l id = 0 → ∃ hj : j < l.length, l[j] = gtC l id ∧ AtF Chn.Id l id j ∧ hitF Chn.Id l id j = true) ∧ Below w.heap.size w w' := by
  have HL := hid h.len
  have HSL := hid (fun (W : World) (h' : Below w.heap.size w W) => Sl.call h h')
  go_enter Try.func62, Try.ntmps62
  go_wp2_with fail
  refine (lCheck_any A n k l w h).mono ?_
  rcases lg_two (l := l) with ⟨g, e⟩ | ⟨g, e⟩
  rotate_left
  · rw [e]
    have HE := hid (show gtE l id = 1 from if_neg g)
    clear e g
    rintro e w1 ⟨rfl, hb1⟩
    go_wp2
    go_ret2
    exact ⟨0, by rw [HE.out]; rfl, fun q => (by rw [HE.out] at q; cases q), hb1⟩
  rw [e]
  clear e
  rintro e w1 ⟨rfl, hb1⟩
  have HU := hid (show UpF Chn.Id l from g.2.2.1)
  have hn64 : n ≤ 64 := by have := g.1; rw [HL.out] at this; omega
  go_wp2_with fail
  with_reducible refine (placeC_any A n k l id w1 (HSL.out _ hb1) hn64 HU.out).mono ?_
  rintro e w2 ⟨j, rfl, hat, hb2⟩
  have HB2 := bel_call hb1 hb2
  obtain ⟨d, hd⟩ : ∃ d, hitF Chn.Id l id j = d := ⟨_, rfl⟩
  rw [hd]
  cases d
  · have HE := hid (show gtE l id = 5 from (gt_no g (hat.none HU.out hd)).1)
    clear hat hd g
    go_wp2
    go_ret2
    exact ⟨0, by rw [HE.out]; rfl, fun q => (by rw [HE.out] at q; cases q), HB2⟩
  · obtain ⟨hj, hji, hfd⟩ := hat.find hd
    have hgt := gt_of g (List.getElem_mem hj)
    rw [hji] at hgt
    have HE := hid hgt
    have HAT := hid hat
    have HD := hid hd
    clear hat hd g hgt hfd hji
    go_wp2
    go_ret2
    exact ⟨j, by rw [HE.out.1]; rfl, fun _ => ⟨hj, HE.out.2.symm, HAT.out, HD.out⟩, HB2⟩

set_option maxRecDepth 100000 in
set_option maxHeartbeats 4000000 in
theorem lGet_any (A : Option Addr) (n k : Nat) (l : List Chn) (id : Int) (w : World) (h : Sl lay_Channel w (· < w.heap.size) A n k l) :
    Calls Try.prog 23 #[.slice A n k, .int .u64 id] w fun e w' => ∃ v, e = .returned (.tuple #[v, .int .i64 (gtE l id)]) ∧ OwnC w' w.heap.size v (gtC l id) ∧ Below w.heap.size w w' := by
  have HL := hid h.len
  have hcap := h.cap
  unfold maxLen at hcap
  have hb0 : Below w.heap.size w (w.alloc (Obj.cells #[.int .u64 0, .int .u64 0, .int .u64 0, .int .u64 0, .int .u64 0, .slice none 0 0, .bool false] 26)) := bel_alloc (Below.refl _ _) _
  have BR : BoxC (w.alloc (Obj.cells #[.int .u64 0, .int .u64 0, .int .u64 0, .int .u64 0, .int .u64 0, .slice none 0 0, .bool false] 26)) w.heap.size zeroCh none 0 0 := BoxC.new w zeroCh none 0 0
  have HZ := hid (show (w.alloc (Obj.cells #[.int .u64 0, .int .u64 0, .int .u64 0, .int .u64 0, .int .u64 0, .slice none 0 0, .bool false] 26)).heap.size = w.heap.size + 1 from by simp)
  have HSL := hid (fun (W : World) (h' : Below w.heap.size w W) => Sl.call h h')
  go_enter Try.func23, Try.ntmps23
  go_upto_region 1 with (fail)
  generalize w.alloc (Obj.cells #[.int .u64 0, .int .u64 0, .int .u64 0, .int .u64 0, .int .u64 0, .slice none 0 0, .bool false] 26) = W0 at *
  go_wp2_with fail
  with_reducible refine (placeIn_any A n k l id W0 (HSL.out _ hb0)).mono ?_
  rintro e w1 ⟨j, rfl, hfd, hb1⟩
  replace BR := BR.call hb1
  have HB1 := bel_call hb0 hb1
  have hz1 := hb1.size
  rw [HZ.out] at hz1
  clear hb0 hb1
  by_cases hq : gtE l id = 0
  rotate_left
  · have HE := hid (show gtC l id = zeroCh from by
      unfold gtE at hq
      unfold gtC
      by_cases g : LgOk l
      · rw [if_pos g] at hq ⊢
        cases hf : chanF l id with
        | none => rfl
        | some z => rw [hf] at hq; exact absurd rfl hq
      · rw [if_neg g])
    have d2 : (gtE l id == 0) = false := by simpa using hq
    have d3 : (gtE l id != 0) = true := by simpa using hq
    clear hfd hq
    obtain ⟨x, hx⟩ : ∃ x, gtE l id = x := ⟨_, rfl⟩
    rw [hx] at d2 d3 ⊢
    have HX := hid hx
    clear hx
    have B9 := hid (BR.set zeroCh none 0 0)
    have HB9 := hid (Below.setBox HB1 (g := w.heap.size) (Nat.le_refl _) zeroCh none 0 0)
    obtain ⟨z0, z1, z2, z3, z4, z5, z6⟩ := BR.all
    have f0 := BR.f 0
    have f1 := BR.f 1
    have f2 := BR.f 2
    have f3 := BR.f 3
    have f4 := BR.f 4
    have f5 := BR.f 5
    have f6 := BR.f 6
    go_wp2
    refine bodyPost_ret_by (results_ct rfl _ _ (w.heap.size) 0 rfl [.int .u64 0, .int .u64 0, .int .u64 0, .int .u64 0, .int .u64 0, .slice none 0 0, .bool false] _ (range7 B9.out) Try.underlying26 rfl (by kernel_rfl)) rfl ?_
    exact ⟨_, by rw [HX.out]; rfl, by rw [HE.out]; exact ⟨_, rfl, OwnL.nil _ _ _ _ _⟩, HB9.out⟩
  obtain ⟨hj, hjc, -, -⟩ := hfd hq
  have HOKC := hid (gt_is hq).2.2.2.2
  have HQ := hid hq
  rw [hq]
  clear hfd hq
  have hjn : j < n := by rw [← HL.out]; exact hj
  obtain ⟨b1, o1, A', n', c', hx1, rfl, hbb, t0, t1, t2, t3, t4, t5, t6, hwc, hsc⟩ := chn_at (HSL.out _ HB1) hjn
  rw [hjc] at t0 t1 t2 t3 t4 t6 hwc hsc
  generalize hc : gtC l id = c at *
  have HCC := hid hc
  clear hc hjc
  have PR := hid (chan_in hwc hsc (Below.refl _ _))
  have HWC := hid hwc
  have HLC := hid (show c.Holds.length ≤ 1048576 from by have := HOKC.out.2.2.1; omega)
  clear hwc hsc
  go_wp2_with fail
  with_reducible refine (copyOf_any _ c w1 PR.out HLC.out).mono ?_
  rintro e w2 ⟨v2, rfl, ⟨u, rfl, ho⟩, hb2⟩
  obtain ⟨Au, nu, cu, rfl, hsu⟩ := ho.read
  replace BR := BR.call hb2
  have HB2 := bel_call HB1 hb2
  have B9 := hid (BR.set c Au nu cu)
  have HB9 := hid (Below.setBox HB2 (g := w.heap.size) (Nat.le_refl _) c Au nu cu)
  have HO9 := hid ((OwnL.setBox ho (g := w.heap.size) (by omega) c Au nu cu).lows (base' := w.heap.size) (lo' := w.heap.size) (by omega) (by omega))
  obtain ⟨z0, z1, z2, z3, z4, z5, z6⟩ := BR.all
  have f0 := BR.f 0
  have f1 := BR.f 1
  have f2 := BR.f 2
  have f3 := BR.f 3
  have f4 := BR.f 4
  have f5 := BR.f 5
  have f6 := BR.f 6
  clear t0 t1 t2 t3 t4 t5 t6 hsu
  go_wp2
  refine bodyPost_ret_by (results_ct rfl _ _ (w.heap.size) 0 rfl [.int .u64 c.Id, .int .u64 c.Local, .int .u64 c.Remote, .int .u64 c.Reserve, .int .u64 c.Most, .slice Au nu cu, .bool c.Open] _ (range7 B9.out) Try.underlying26 rfl (by kernel_rfl)) rfl ?_
  exact ⟨_, by rw [HQ.out]; rfl, by rw [HCC.out]; exact ⟨_, rfl, HO9.out⟩, HB9.out⟩
/-- A channel whose holds are one's own, as a datum. -/
theorem OwnC.rep {w : World} {B base : Nat} {v : Value} {c : Chn} (h : OwnC w base v c) (hw : ChnWf c) (hB : B ≤ base) : ∃ t, v = .agg t ∧ lay_Channel.rep w (From w B) c t.toList := by
  obtain ⟨u, rfl, ho⟩ := h
  obtain ⟨A, n, k, rfl, hs⟩ := ho.sl (low := B) hB hB
  exact ⟨_, rfl, rep_Channel.2 ⟨A, n, k, rfl, hw, hs⟩⟩

set_option maxRecDepth 100000 in
set_option maxHeartbeats 4000000 in
/-- The channels after something is done with one of them (0 variables captured). -/
theorem change0_any (K : Nat) (hE : ∀ (args : Array Value) (w : World), (callFunc K args).run Try.prog w = .ok (.enter K args) w) (B : Nat) (C C2 : World → Prop) (hC : ∀ W W', C W → Below W.heap.size W W' → C W') (hC2 : ∀ W W', C2 W → Below W.heap.size W W' → C2 W') (err : Chn → Int) (d : Chn → Chn)
    (A : Option Addr) (n k : Nat) (l : List Chn) (id : Int) (w : World) (h : Sl lay_Channel w (· < B) A n k l) (hB : B ≤ w.heap.size) (hCw : C w)
    (hD : gtE l id = 0 → ∀ (s : Array Value) (W : World), Below B w W → C W → lay_Channel.rep W (· < B) (gtC l id) s.toList → Calls Try.prog K #[.agg s] W fun e w' => ∃ t, e = .returned (.tuple #[.agg t, .int .i64 (err (gtC l id))]) ∧ lay_Channel.rep w' (From w' B) (d (gtC l id)) t.toList ∧ C2 w' ∧ Below B W w')
    (hI : gtE l id = 0 → err (gtC l id) = 0 → (d (gtC l id)).Id = id) :
    Calls Try.prog 47 #[.slice A n k, .int .u64 id, .func (.func K) #[] #[]] w fun e w' => ∃ v, e = .returned (.tuple #[v, .int .i64 (oneE l id err)]) ∧ OwnL lay_Channel w' B (some B) 26 v (oneL l id err d) ∧ (gtE l id = 0 → C2 w') ∧ Below B w w' := by
  have HL := hid h.len
  have HD := hid hD
  have HI := hid hI
  have HC := hid hC
  have HC2 := hid hC2
  have HCW := hid hCw
  clear hD hI hC hC2 hCw
  have hcap := h.cap
  unfold maxLen at hcap
  have HSL := hid (fun (W : World) (h' : Below B w W) => (h.keep fun p hp => h'.cell hp : Sl lay_Channel W (· < B) A n k l))
  have HWL := hid (sl_chns (h.wide fun b hb => Nat.lt_of_lt_of_le hb hB))
  go_enter Try.func47, Try.ntmps47
  go_wp2_with fail
  with_reducible refine (placeIn_any A n k l id w (h.wide fun b hb => Nat.lt_of_lt_of_le hb hB)).mono ?_
  rintro e w1 ⟨j, rfl, hfd, hb1⟩
  have HC1 := hid (HC.out _ _ HCW.out hb1)
  have HB1 := hb1.mono hB
  clear hb1
  by_cases hq : gtE l id = 0
  rotate_left
  · have HE := hid (show oneE l id err = gtE l id ∧ oneL l id err d = [] from by
      have e : oneE l id err = gtE l id := if_pos hq
      exact ⟨e, if_neg (by rw [e]; exact hq)⟩)
    have HQ := hid hq
    have d2 : (gtE l id == 0) = false := by simpa using hq
    have d3 : (gtE l id != 0) = true := by simpa using hq
    clear hfd hq
    obtain ⟨x, hx⟩ : ∃ x, gtE l id = x := ⟨_, rfl⟩
    rw [hx] at d2 d3 HE HQ ⊢
    have HX := hid hx
    clear hx
    go_wp2
    go_ret2
    exact ⟨_, by rw [HE.out.1]; rfl, by rw [HE.out.2]; exact OwnL.nil _ _ _ _ _, fun q => absurd (HX.out.symm.trans q) HQ.out, HB1⟩
  obtain ⟨hj, hjc, hat, hhit⟩ := hfd hq
  have HG := hid (gt_is hq)
  have HAT := hid (fun r => hat.with_set HG.out.1.2.2.1 hhit r)
  have HQ := hid hq
  have HDD := hid (HD.out hq)
  rw [hq]
  clear hfd hq hat hhit
  have hjn : j < n := by rw [← HL.out]; exact hj
  obtain ⟨b1, o1, A', n', c', hx1, rfl, hbb, t0, t1, t2, t3, t4, t5, t6, hwc, hsc⟩ := chn_at (HSL.out _ HB1) hjn
  rw [hjc] at t0 t1 t2 t3 t4 t6 hwc hsc
  obtain ⟨c, hc⟩ : ∃ c, gtC l id = c := ⟨_, rfl⟩
  rw [hc] at t0 t1 t2 t3 t4 t6 hwc hsc HDD HG
  have PR := hid (show lay_Channel.rep w1 (· < B) c #[.int .u64 c.Id, .int .u64 c.Local, .int .u64 c.Remote, .int .u64 c.Reserve, .int .u64 c.Most, (.slice A' n' c'), .bool c.Open].toList from rep_Channel.2 ⟨_, _, _, rfl, hwc, hsc⟩)
  have HCC := hid hc
  clear hc hjc hwc hsc
  go_wp2_with fail
  with_reducible refine (HDD.out _ w1 HB1 HC1.out PR.out).mono ?_
  rintro e w2 ⟨t2, rfl, hrd, hc2, hb2⟩
  have HB2 := HB1.trans hb2
  obtain ⟨Au, nu, cu, rfl, hwd, hsu⟩ := agg_Channel hrd
  have HWD := hid hwd
  clear hrd hwd t0 t1 t2 t3 t4 t5 t6
  have hz2 : B ≤ w2.heap.size := Nat.le_trans hB HB2.size
  have hba := bel_alloc (Below.refl w2.heap.size w2) (Obj.cells #[.int .u64 (d c).Id, .int .u64 (d c).Local, .int .u64 (d c).Remote, .int .u64 (d c).Reserve, .int .u64 (d c).Most, .slice Au nu cu, .bool (d c).Open] 26)
  have BX : BoxC (w2.alloc (Obj.cells #[.int .u64 (d c).Id, .int .u64 (d c).Local, .int .u64 (d c).Remote, .int .u64 (d c).Reserve, .int .u64 (d c).Most, .slice Au nu cu, .bool (d c).Open] 26)) w2.heap.size (d c) Au nu cu := BoxC.new w2 (d c) Au nu cu
  have HCA := hid (HC2.out _ _ hc2 hba)
  have HB3 := HB2.trans (hba.mono hz2)
  have hzz : (w2.alloc (Obj.cells #[.int .u64 (d c).Id, .int .u64 (d c).Local, .int .u64 (d c).Remote, .int .u64 (d c).Reserve, .int .u64 (d c).Most, .slice Au nu cu, .bool (d c).Open] 26)).heap.size = w2.heap.size + 1 := by simp
  have hsu3 := hid (hsu.frT hba)
  clear hc2 hb2 HB2
  go_upto_region 5 with (fail)
  clear hsu
  generalize w2.alloc (Obj.cells #[.int .u64 (d c).Id, .int .u64 (d c).Local, .int .u64 (d c).Remote, .int .u64 (d c).Reserve, .int .u64 (d c).Most, .slice Au nu cu, .bool (d c).Open] 26) = W3 at *
  by_cases he : err c = 0
  rotate_left
  · have HE := hid (show oneE l id err = err c ∧ oneL l id err d = [] from by
      have e : oneE l id err = err c := by unfold oneE; rw [if_neg (by simpa using HQ.out), HCC.out]
      exact ⟨e, if_neg (by rw [e]; exact he)⟩)
    have d2 : (err c == 0) = false := by simpa using he
    have d3 : (err c != 0) = true := by simpa using he
    clear he
    obtain ⟨x, hx⟩ : ∃ x, err c = x := ⟨_, rfl⟩
    rw [hx] at d2 d3 HE ⊢
    have HX := hid hx
    clear hx
    go_wp2
    go_ret2
    exact ⟨_, by rw [HE.out.1]; rfl, by rw [HE.out.2]; exact OwnL.nil _ _ _ _ _, fun _ => HCA.out, HB3⟩
  have HII := hid (show (d c).Id = id from by
    have := HI.out HQ.out
    rw [HCC.out] at this
    exact this he)
  have HE := hid (show oneE l id err = 0 ∧ oneL l id err d = l.set j (d c) from by
    have e : oneE l id err = 0 := by unfold oneE; rw [if_neg (by simpa using HQ.out), HCC.out, he]
    refine ⟨e, ?_⟩
    unfold oneL
    rw [if_pos e, HCC.out, ← HAT.out (d c)]
    unfold withC
    rw [HII.out])
  rw [he]
  clear he
  have HS3 := (HSL.out _ HB3).wide fun b hb => Nat.lt_of_lt_of_le hb (Nat.le_trans hB HB3.size)
  go_wp2_with fail
  have hn20 : n ≤ 1048576 := by have := HG.out.1.1; rw [HL.out] at this; omega
  have HH20 := hid (show ∀ x ∈ l, x.Holds.length ≤ 1048576 from fun x hx => by have := (HG.out.1.2.1 x hx).2.2.1; omega)
  with_reducible refine (copies_any _ n k l W3 HS3 hn20 HH20.out).mono ?_
  rintro e w4 ⟨v4, rfl, ho4, hb4⟩
  obtain ⟨g4, cap4, rfl⟩ := ho4.shape (by omega)
  have hg4 := ho4.ownG
  have ho4' := ho4.lows (base' := B) (lo' := B) (by omega) (by omega)
  have HB4 := HB3.trans (hb4.mono (by omega))
  have BX4 := BX.call hb4
  have hR : lay_Channel.rep w4 (Els w4 (some B) (.slice (some ⟨g4, 0, none⟩) l.length cap4)) (d c) [.int .u64 (d c).Id, .int .u64 (d c).Local, .int .u64 (d c).Remote, .int .u64 (d c).Reserve, .int .u64 (d c).Most, .slice Au nu cu, .bool (d c).Open] := rep_Channel.2 ⟨Au, nu, cu, rfl, HWD.out, (hsu3.out.keep fun p hp => hb4.cell hp.2.1).wide fun b hb => ⟨⟨hb.1, hb.2.2.of_block (hb4.block b hb.2.1)⟩, Nat.lt_of_lt_of_le hb.2.1 hb4.size, fun e => by
    have h2 := hb.2.1
    simp [Value.ownBlock] at e
    omega⟩⟩
  obtain ⟨cs4, hr4, hc4, hf4⟩ := ho4'.elem hj
  obtain ⟨A'', n'', c'', rfl, -, -⟩ := rep_Channel.1 hr4
  have HO9 := hid (ho4'.putAll hj hR)
  rw [size_lay_Channel, setFrom7] at HO9
  have HB9 := hid (Below.all_ (show B ≤ g4 by omega) [.int .u64 (d c).Id, .int .u64 (d c).Local, .int .u64 (d c).Remote, .int .u64 (d c).Reserve, .int .u64 (d c).Most, .slice Au nu cu, .bool (d c).Open] (j * 7) w4 HB4)
  rw [setFrom7] at HB9
  have HC9 := hid (HC2.out _ _ HCA.out (Below.all_ hg4.1 [.int .u64 (d c).Id, .int .u64 (d c).Local, .int .u64 (d c).Remote, .int .u64 (d c).Reserve, .int .u64 (d c).Most, .slice Au nu cu, .bool (d c).Open] (j * 7) w4 hb4))
  rw [setFrom7] at HC9
  obtain ⟨x0, x1, x2, x3, x4, x5, x6⟩ := BX4.all
  have y0 : w4.cell? ⟨g4, j * 7, none⟩ = some (.int .u64 l[j].Id) := hc4 0 (by decide)
  have f0 := hf4 (j * 7)
  have y1 : w4.cell? ⟨g4, j * 7 + 1, none⟩ = some (.int .u64 l[j].Local) := hc4 1 (by decide)
  have f1 := hf4 (j * 7 + 1)
  have y2 : w4.cell? ⟨g4, j * 7 + 2, none⟩ = some (.int .u64 l[j].Remote) := hc4 2 (by decide)
  have f2 := hf4 (j * 7 + 2)
  have y3 : w4.cell? ⟨g4, j * 7 + 3, none⟩ = some (.int .u64 l[j].Reserve) := hc4 3 (by decide)
  have f3 := hf4 (j * 7 + 3)
  have y4 : w4.cell? ⟨g4, j * 7 + 4, none⟩ = some (.int .u64 l[j].Most) := hc4 4 (by decide)
  have f4 := hf4 (j * 7 + 4)
  have y5 : w4.cell? ⟨g4, j * 7 + 5, none⟩ = some (.slice A'' n'' c'') := hc4 5 (by decide)
  have f5 := hf4 (j * 7 + 5)
  have y6 : w4.cell? ⟨g4, j * 7 + 6, none⟩ = some (.bool l[j].Open) := hc4 6 (by decide)
  have f6 := hf4 (j * 7 + 6)
  clear hc4 hf4 hr4 hR ho4 ho4' hb4 BX BX4 HS3
  go_wp2
  go_ret2
  exact ⟨_, by rw [HE.out.1]; rfl, by rw [HE.out.2]; exact HO9.out, fun _ => HC9.out, HB9.out⟩

set_option maxRecDepth 100000 in
set_option maxHeartbeats 4000000 in
/-- The channels after something is done with one of them (1 variables captured). -/
theorem change1_any (K : Nat) (p1 : Value) (hE : ∀ (args : Array Value) (w : World), (callFunc K args).run Try.prog w = .ok (.enter K args) w) (B : Nat) (C C2 : World → Prop) (hC : ∀ W W', C W → Below W.heap.size W W' → C W') (hC2 : ∀ W W', C2 W → Below W.heap.size W W' → C2 W') (err : Chn → Int) (d : Chn → Chn)
    (A : Option Addr) (n k : Nat) (l : List Chn) (id : Int) (w : World) (h : Sl lay_Channel w (· < B) A n k l) (hB : B ≤ w.heap.size) (hCw : C w)
    (hD : gtE l id = 0 → ∀ (s : Array Value) (W : World), Below B w W → C W → lay_Channel.rep W (· < B) (gtC l id) s.toList → Calls Try.prog K #[.agg s, p1] W fun e w' => ∃ t, e = .returned (.tuple #[.agg t, .int .i64 (err (gtC l id))]) ∧ lay_Channel.rep w' (From w' B) (d (gtC l id)) t.toList ∧ C2 w' ∧ Below B W w')
    (hI : gtE l id = 0 → err (gtC l id) = 0 → (d (gtC l id)).Id = id) :
    Calls Try.prog 47 #[.slice A n k, .int .u64 id, .func (.func K) #[] #[p1]] w fun e w' => ∃ v, e = .returned (.tuple #[v, .int .i64 (oneE l id err)]) ∧ OwnL lay_Channel w' B (some B) 26 v (oneL l id err d) ∧ (gtE l id = 0 → C2 w') ∧ Below B w w' := by
  have HL := hid h.len
  have HD := hid hD
  have HI := hid hI
  have HC := hid hC
  have HC2 := hid hC2
  have HCW := hid hCw
  clear hD hI hC hC2 hCw
  have hcap := h.cap
  unfold maxLen at hcap
  have HSL := hid (fun (W : World) (h' : Below B w W) => (h.keep fun p hp => h'.cell hp : Sl lay_Channel W (· < B) A n k l))
  have HWL := hid (sl_chns (h.wide fun b hb => Nat.lt_of_lt_of_le hb hB))
  go_enter Try.func47, Try.ntmps47
  go_wp2_with fail
  with_reducible refine (placeIn_any A n k l id w (h.wide fun b hb => Nat.lt_of_lt_of_le hb hB)).mono ?_
  rintro e w1 ⟨j, rfl, hfd, hb1⟩
  have HC1 := hid (HC.out _ _ HCW.out hb1)
  have HB1 := hb1.mono hB
  clear hb1
  by_cases hq : gtE l id = 0
  rotate_left
  · have HE := hid (show oneE l id err = gtE l id ∧ oneL l id err d = [] from by
      have e : oneE l id err = gtE l id := if_pos hq
      exact ⟨e, if_neg (by rw [e]; exact hq)⟩)
    have HQ := hid hq
    have d2 : (gtE l id == 0) = false := by simpa using hq
    have d3 : (gtE l id != 0) = true := by simpa using hq
    clear hfd hq
    obtain ⟨x, hx⟩ : ∃ x, gtE l id = x := ⟨_, rfl⟩
    rw [hx] at d2 d3 HE HQ ⊢
    have HX := hid hx
    clear hx
    go_wp2
    go_ret2
    exact ⟨_, by rw [HE.out.1]; rfl, by rw [HE.out.2]; exact OwnL.nil _ _ _ _ _, fun q => absurd (HX.out.symm.trans q) HQ.out, HB1⟩
  obtain ⟨hj, hjc, hat, hhit⟩ := hfd hq
  have HG := hid (gt_is hq)
  have HAT := hid (fun r => hat.with_set HG.out.1.2.2.1 hhit r)
  have HQ := hid hq
  have HDD := hid (HD.out hq)
  rw [hq]
  clear hfd hq hat hhit
  have hjn : j < n := by rw [← HL.out]; exact hj
  obtain ⟨b1, o1, A', n', c', hx1, rfl, hbb, t0, t1, t2, t3, t4, t5, t6, hwc, hsc⟩ := chn_at (HSL.out _ HB1) hjn
  rw [hjc] at t0 t1 t2 t3 t4 t6 hwc hsc
  obtain ⟨c, hc⟩ : ∃ c, gtC l id = c := ⟨_, rfl⟩
  rw [hc] at t0 t1 t2 t3 t4 t6 hwc hsc HDD HG
  have PR := hid (show lay_Channel.rep w1 (· < B) c #[.int .u64 c.Id, .int .u64 c.Local, .int .u64 c.Remote, .int .u64 c.Reserve, .int .u64 c.Most, (.slice A' n' c'), .bool c.Open].toList from rep_Channel.2 ⟨_, _, _, rfl, hwc, hsc⟩)
  have HCC := hid hc
  clear hc hjc hwc hsc
  go_wp2_with fail
  with_reducible refine (HDD.out _ w1 HB1 HC1.out PR.out).mono ?_
  rintro e w2 ⟨t2, rfl, hrd, hc2, hb2⟩
  have HB2 := HB1.trans hb2
  obtain ⟨Au, nu, cu, rfl, hwd, hsu⟩ := agg_Channel hrd
  have HWD := hid hwd
  clear hrd hwd t0 t1 t2 t3 t4 t5 t6
  have hz2 : B ≤ w2.heap.size := Nat.le_trans hB HB2.size
  have hba := bel_alloc (Below.refl w2.heap.size w2) (Obj.cells #[.int .u64 (d c).Id, .int .u64 (d c).Local, .int .u64 (d c).Remote, .int .u64 (d c).Reserve, .int .u64 (d c).Most, .slice Au nu cu, .bool (d c).Open] 26)
  have BX : BoxC (w2.alloc (Obj.cells #[.int .u64 (d c).Id, .int .u64 (d c).Local, .int .u64 (d c).Remote, .int .u64 (d c).Reserve, .int .u64 (d c).Most, .slice Au nu cu, .bool (d c).Open] 26)) w2.heap.size (d c) Au nu cu := BoxC.new w2 (d c) Au nu cu
  have HCA := hid (HC2.out _ _ hc2 hba)
  have HB3 := HB2.trans (hba.mono hz2)
  have hzz : (w2.alloc (Obj.cells #[.int .u64 (d c).Id, .int .u64 (d c).Local, .int .u64 (d c).Remote, .int .u64 (d c).Reserve, .int .u64 (d c).Most, .slice Au nu cu, .bool (d c).Open] 26)).heap.size = w2.heap.size + 1 := by simp
  have hsu3 := hid (hsu.frT hba)
  clear hc2 hb2 HB2
  go_upto_region 5 with (fail)
  clear hsu
  generalize w2.alloc (Obj.cells #[.int .u64 (d c).Id, .int .u64 (d c).Local, .int .u64 (d c).Remote, .int .u64 (d c).Reserve, .int .u64 (d c).Most, .slice Au nu cu, .bool (d c).Open] 26) = W3 at *
  by_cases he : err c = 0
  rotate_left
  · have HE := hid (show oneE l id err = err c ∧ oneL l id err d = [] from by
      have e : oneE l id err = err c := by unfold oneE; rw [if_neg (by simpa using HQ.out), HCC.out]
      exact ⟨e, if_neg (by rw [e]; exact he)⟩)
    have d2 : (err c == 0) = false := by simpa using he
    have d3 : (err c != 0) = true := by simpa using he
    clear he
    obtain ⟨x, hx⟩ : ∃ x, err c = x := ⟨_, rfl⟩
    rw [hx] at d2 d3 HE ⊢
    have HX := hid hx
    clear hx
    go_wp2
    go_ret2
    exact ⟨_, by rw [HE.out.1]; rfl, by rw [HE.out.2]; exact OwnL.nil _ _ _ _ _, fun _ => HCA.out, HB3⟩
  have HII := hid (show (d c).Id = id from by
    have := HI.out HQ.out
    rw [HCC.out] at this
    exact this he)
  have HE := hid (show oneE l id err = 0 ∧ oneL l id err d = l.set j (d c) from by
    have e : oneE l id err = 0 := by unfold oneE; rw [if_neg (by simpa using HQ.out), HCC.out, he]
    refine ⟨e, ?_⟩
    unfold oneL
    rw [if_pos e, HCC.out, ← HAT.out (d c)]
    unfold withC
    rw [HII.out])
  rw [he]
  clear he
  have HS3 := (HSL.out _ HB3).wide fun b hb => Nat.lt_of_lt_of_le hb (Nat.le_trans hB HB3.size)
  go_wp2_with fail
  have hn20 : n ≤ 1048576 := by have := HG.out.1.1; rw [HL.out] at this; omega
  have HH20 := hid (show ∀ x ∈ l, x.Holds.length ≤ 1048576 from fun x hx => by have := (HG.out.1.2.1 x hx).2.2.1; omega)
  with_reducible refine (copies_any _ n k l W3 HS3 hn20 HH20.out).mono ?_
  rintro e w4 ⟨v4, rfl, ho4, hb4⟩
  obtain ⟨g4, cap4, rfl⟩ := ho4.shape (by omega)
  have hg4 := ho4.ownG
  have ho4' := ho4.lows (base' := B) (lo' := B) (by omega) (by omega)
  have HB4 := HB3.trans (hb4.mono (by omega))
  have BX4 := BX.call hb4
  have hR : lay_Channel.rep w4 (Els w4 (some B) (.slice (some ⟨g4, 0, none⟩) l.length cap4)) (d c) [.int .u64 (d c).Id, .int .u64 (d c).Local, .int .u64 (d c).Remote, .int .u64 (d c).Reserve, .int .u64 (d c).Most, .slice Au nu cu, .bool (d c).Open] := rep_Channel.2 ⟨Au, nu, cu, rfl, HWD.out, (hsu3.out.keep fun p hp => hb4.cell hp.2.1).wide fun b hb => ⟨⟨hb.1, hb.2.2.of_block (hb4.block b hb.2.1)⟩, Nat.lt_of_lt_of_le hb.2.1 hb4.size, fun e => by
    have h2 := hb.2.1
    simp [Value.ownBlock] at e
    omega⟩⟩
  obtain ⟨cs4, hr4, hc4, hf4⟩ := ho4'.elem hj
  obtain ⟨A'', n'', c'', rfl, -, -⟩ := rep_Channel.1 hr4
  have HO9 := hid (ho4'.putAll hj hR)
  rw [size_lay_Channel, setFrom7] at HO9
  have HB9 := hid (Below.all_ (show B ≤ g4 by omega) [.int .u64 (d c).Id, .int .u64 (d c).Local, .int .u64 (d c).Remote, .int .u64 (d c).Reserve, .int .u64 (d c).Most, .slice Au nu cu, .bool (d c).Open] (j * 7) w4 HB4)
  rw [setFrom7] at HB9
  have HC9 := hid (HC2.out _ _ HCA.out (Below.all_ hg4.1 [.int .u64 (d c).Id, .int .u64 (d c).Local, .int .u64 (d c).Remote, .int .u64 (d c).Reserve, .int .u64 (d c).Most, .slice Au nu cu, .bool (d c).Open] (j * 7) w4 hb4))
  rw [setFrom7] at HC9
  obtain ⟨x0, x1, x2, x3, x4, x5, x6⟩ := BX4.all
  have y0 : w4.cell? ⟨g4, j * 7, none⟩ = some (.int .u64 l[j].Id) := hc4 0 (by decide)
  have f0 := hf4 (j * 7)
  have y1 : w4.cell? ⟨g4, j * 7 + 1, none⟩ = some (.int .u64 l[j].Local) := hc4 1 (by decide)
  have f1 := hf4 (j * 7 + 1)
  have y2 : w4.cell? ⟨g4, j * 7 + 2, none⟩ = some (.int .u64 l[j].Remote) := hc4 2 (by decide)
  have f2 := hf4 (j * 7 + 2)
  have y3 : w4.cell? ⟨g4, j * 7 + 3, none⟩ = some (.int .u64 l[j].Reserve) := hc4 3 (by decide)
  have f3 := hf4 (j * 7 + 3)
  have y4 : w4.cell? ⟨g4, j * 7 + 4, none⟩ = some (.int .u64 l[j].Most) := hc4 4 (by decide)
  have f4 := hf4 (j * 7 + 4)
  have y5 : w4.cell? ⟨g4, j * 7 + 5, none⟩ = some (.slice A'' n'' c'') := hc4 5 (by decide)
  have f5 := hf4 (j * 7 + 5)
  have y6 : w4.cell? ⟨g4, j * 7 + 6, none⟩ = some (.bool l[j].Open) := hc4 6 (by decide)
  have f6 := hf4 (j * 7 + 6)
  clear hc4 hf4 hr4 hR ho4 ho4' hb4 BX BX4 HS3
  go_wp2
  go_ret2
  exact ⟨_, by rw [HE.out.1]; rfl, by rw [HE.out.2]; exact HO9.out, fun _ => HC9.out, HB9.out⟩

set_option maxRecDepth 100000 in
set_option maxHeartbeats 4000000 in
/-- The channels after something is done with one of them (3 variables captured). -/
theorem change3_any (K : Nat) (p1 p2 p3 : Value) (hE : ∀ (args : Array Value) (w : World), (callFunc K args).run Try.prog w = .ok (.enter K args) w) (B : Nat) (C C2 : World → Prop) (hC : ∀ W W', C W → Below W.heap.size W W' → C W') (hC2 : ∀ W W', C2 W → Below W.heap.size W W' → C2 W') (err : Chn → Int) (d : Chn → Chn)
    (A : Option Addr) (n k : Nat) (l : List Chn) (id : Int) (w : World) (h : Sl lay_Channel w (· < B) A n k l) (hB : B ≤ w.heap.size) (hCw : C w)
    (hD : gtE l id = 0 → ∀ (s : Array Value) (W : World), Below B w W → C W → lay_Channel.rep W (· < B) (gtC l id) s.toList → Calls Try.prog K #[.agg s, p1, p2, p3] W fun e w' => ∃ t, e = .returned (.tuple #[.agg t, .int .i64 (err (gtC l id))]) ∧ lay_Channel.rep w' (From w' B) (d (gtC l id)) t.toList ∧ C2 w' ∧ Below B W w')
    (hI : gtE l id = 0 → err (gtC l id) = 0 → (d (gtC l id)).Id = id) :
    Calls Try.prog 47 #[.slice A n k, .int .u64 id, .func (.func K) #[] #[p1, p2, p3]] w fun e w' => ∃ v, e = .returned (.tuple #[v, .int .i64 (oneE l id err)]) ∧ OwnL lay_Channel w' B (some B) 26 v (oneL l id err d) ∧ (gtE l id = 0 → C2 w') ∧ Below B w w' := by
  have HL := hid h.len
  have HD := hid hD
  have HI := hid hI
  have HC := hid hC
  have HC2 := hid hC2
  have HCW := hid hCw
  clear hD hI hC hC2 hCw
  have hcap := h.cap
  unfold maxLen at hcap
  have HSL := hid (fun (W : World) (h' : Below B w W) => (h.keep fun p hp => h'.cell hp : Sl lay_Channel W (· < B) A n k l))
  have HWL := hid (sl_chns (h.wide fun b hb => Nat.lt_of_lt_of_le hb hB))
  go_enter Try.func47, Try.ntmps47
  go_wp2_with fail
  with_reducible refine (placeIn_any A n k l id w (h.wide fun b hb => Nat.lt_of_lt_of_le hb hB)).mono ?_
  rintro e w1 ⟨j, rfl, hfd, hb1⟩
  have HC1 := hid (HC.out _ _ HCW.out hb1)
  have HB1 := hb1.mono hB
  clear hb1
  by_cases hq : gtE l id = 0
  rotate_left
  · have HE := hid (show oneE l id err = gtE l id ∧ oneL l id err d = [] from by
      have e : oneE l id err = gtE l id := if_pos hq
      exact ⟨e, if_neg (by rw [e]; exact hq)⟩)
    have HQ := hid hq
    have d2 : (gtE l id == 0) = false := by simpa using hq
    have d3 : (gtE l id != 0) = true := by simpa using hq
    clear hfd hq
    obtain ⟨x, hx⟩ : ∃ x, gtE l id = x := ⟨_, rfl⟩
    rw [hx] at d2 d3 HE HQ ⊢
    have HX := hid hx
    clear hx
    go_wp2
    go_ret2
    exact ⟨_, by rw [HE.out.1]; rfl, by rw [HE.out.2]; exact OwnL.nil _ _ _ _ _, fun q => absurd (HX.out.symm.trans q) HQ.out, HB1⟩
  obtain ⟨hj, hjc, hat, hhit⟩ := hfd hq
  have HG := hid (gt_is hq)
  have HAT := hid (fun r => hat.with_set HG.out.1.2.2.1 hhit r)
  have HQ := hid hq
  have HDD := hid (HD.out hq)
  rw [hq]
  clear hfd hq hat hhit
  have hjn : j < n := by rw [← HL.out]; exact hj
  obtain ⟨b1, o1, A', n', c', hx1, rfl, hbb, t0, t1, t2, t3, t4, t5, t6, hwc, hsc⟩ := chn_at (HSL.out _ HB1) hjn
  rw [hjc] at t0 t1 t2 t3 t4 t6 hwc hsc
  obtain ⟨c, hc⟩ : ∃ c, gtC l id = c := ⟨_, rfl⟩
  rw [hc] at t0 t1 t2 t3 t4 t6 hwc hsc HDD HG
  have PR := hid (show lay_Channel.rep w1 (· < B) c #[.int .u64 c.Id, .int .u64 c.Local, .int .u64 c.Remote, .int .u64 c.Reserve, .int .u64 c.Most, (.slice A' n' c'), .bool c.Open].toList from rep_Channel.2 ⟨_, _, _, rfl, hwc, hsc⟩)
  have HCC := hid hc
  clear hc hjc hwc hsc
  go_wp2_with fail
  with_reducible refine (HDD.out _ w1 HB1 HC1.out PR.out).mono ?_
  rintro e w2 ⟨t2, rfl, hrd, hc2, hb2⟩
  have HB2 := HB1.trans hb2
  obtain ⟨Au, nu, cu, rfl, hwd, hsu⟩ := agg_Channel hrd
  have HWD := hid hwd
  clear hrd hwd t0 t1 t2 t3 t4 t5 t6
  have hz2 : B ≤ w2.heap.size := Nat.le_trans hB HB2.size
  have hba := bel_alloc (Below.refl w2.heap.size w2) (Obj.cells #[.int .u64 (d c).Id, .int .u64 (d c).Local, .int .u64 (d c).Remote, .int .u64 (d c).Reserve, .int .u64 (d c).Most, .slice Au nu cu, .bool (d c).Open] 26)
  have BX : BoxC (w2.alloc (Obj.cells #[.int .u64 (d c).Id, .int .u64 (d c).Local, .int .u64 (d c).Remote, .int .u64 (d c).Reserve, .int .u64 (d c).Most, .slice Au nu cu, .bool (d c).Open] 26)) w2.heap.size (d c) Au nu cu := BoxC.new w2 (d c) Au nu cu
  have HCA := hid (HC2.out _ _ hc2 hba)
  have HB3 := HB2.trans (hba.mono hz2)
  have hzz : (w2.alloc (Obj.cells #[.int .u64 (d c).Id, .int .u64 (d c).Local, .int .u64 (d c).Remote, .int .u64 (d c).Reserve, .int .u64 (d c).Most, .slice Au nu cu, .bool (d c).Open] 26)).heap.size = w2.heap.size + 1 := by simp
  have hsu3 := hid (hsu.frT hba)
  clear hc2 hb2 HB2
  go_upto_region 5 with (fail)
  clear hsu
  generalize w2.alloc (Obj.cells #[.int .u64 (d c).Id, .int .u64 (d c).Local, .int .u64 (d c).Remote, .int .u64 (d c).Reserve, .int .u64 (d c).Most, .slice Au nu cu, .bool (d c).Open] 26) = W3 at *
  by_cases he : err c = 0
  rotate_left
  · have HE := hid (show oneE l id err = err c ∧ oneL l id err d = [] from by
      have e : oneE l id err = err c := by unfold oneE; rw [if_neg (by simpa using HQ.out), HCC.out]
      exact ⟨e, if_neg (by rw [e]; exact he)⟩)
    have d2 : (err c == 0) = false := by simpa using he
    have d3 : (err c != 0) = true := by simpa using he
    clear he
    obtain ⟨x, hx⟩ : ∃ x, err c = x := ⟨_, rfl⟩
    rw [hx] at d2 d3 HE ⊢
    have HX := hid hx
    clear hx
    go_wp2
    go_ret2
    exact ⟨_, by rw [HE.out.1]; rfl, by rw [HE.out.2]; exact OwnL.nil _ _ _ _ _, fun _ => HCA.out, HB3⟩
  have HII := hid (show (d c).Id = id from by
    have := HI.out HQ.out
    rw [HCC.out] at this
    exact this he)
  have HE := hid (show oneE l id err = 0 ∧ oneL l id err d = l.set j (d c) from by
    have e : oneE l id err = 0 := by unfold oneE; rw [if_neg (by simpa using HQ.out), HCC.out, he]
    refine ⟨e, ?_⟩
    unfold oneL
    rw [if_pos e, HCC.out, ← HAT.out (d c)]
    unfold withC
    rw [HII.out])
  rw [he]
  clear he
  have HS3 := (HSL.out _ HB3).wide fun b hb => Nat.lt_of_lt_of_le hb (Nat.le_trans hB HB3.size)
  go_wp2_with fail
  have hn20 : n ≤ 1048576 := by have := HG.out.1.1; rw [HL.out] at this; omega
  have HH20 := hid (show ∀ x ∈ l, x.Holds.length ≤ 1048576 from fun x hx => by have := (HG.out.1.2.1 x hx).2.2.1; omega)
  with_reducible refine (copies_any _ n k l W3 HS3 hn20 HH20.out).mono ?_
  rintro e w4 ⟨v4, rfl, ho4, hb4⟩
  obtain ⟨g4, cap4, rfl⟩ := ho4.shape (by omega)
  have hg4 := ho4.ownG
  have ho4' := ho4.lows (base' := B) (lo' := B) (by omega) (by omega)
  have HB4 := HB3.trans (hb4.mono (by omega))
  have BX4 := BX.call hb4
  have hR : lay_Channel.rep w4 (Els w4 (some B) (.slice (some ⟨g4, 0, none⟩) l.length cap4)) (d c) [.int .u64 (d c).Id, .int .u64 (d c).Local, .int .u64 (d c).Remote, .int .u64 (d c).Reserve, .int .u64 (d c).Most, .slice Au nu cu, .bool (d c).Open] := rep_Channel.2 ⟨Au, nu, cu, rfl, HWD.out, (hsu3.out.keep fun p hp => hb4.cell hp.2.1).wide fun b hb => ⟨⟨hb.1, hb.2.2.of_block (hb4.block b hb.2.1)⟩, Nat.lt_of_lt_of_le hb.2.1 hb4.size, fun e => by
    have h2 := hb.2.1
    simp [Value.ownBlock] at e
    omega⟩⟩
  obtain ⟨cs4, hr4, hc4, hf4⟩ := ho4'.elem hj
  obtain ⟨A'', n'', c'', rfl, -, -⟩ := rep_Channel.1 hr4
  have HO9 := hid (ho4'.putAll hj hR)
  rw [size_lay_Channel, setFrom7] at HO9
  have HB9 := hid (Below.all_ (show B ≤ g4 by omega) [.int .u64 (d c).Id, .int .u64 (d c).Local, .int .u64 (d c).Remote, .int .u64 (d c).Reserve, .int .u64 (d c).Most, .slice Au nu cu, .bool (d c).Open] (j * 7) w4 HB4)
  rw [setFrom7] at HB9
  have HC9 := hid (HC2.out _ _ HCA.out (Below.all_ hg4.1 [.int .u64 (d c).Id, .int .u64 (d c).Local, .int .u64 (d c).Remote, .int .u64 (d c).Reserve, .int .u64 (d c).Most, .slice Au nu cu, .bool (d c).Open] (j * 7) w4 hb4))
  rw [setFrom7] at HC9
  obtain ⟨x0, x1, x2, x3, x4, x5, x6⟩ := BX4.all
  have y0 : w4.cell? ⟨g4, j * 7, none⟩ = some (.int .u64 l[j].Id) := hc4 0 (by decide)
  have f0 := hf4 (j * 7)
  have y1 : w4.cell? ⟨g4, j * 7 + 1, none⟩ = some (.int .u64 l[j].Local) := hc4 1 (by decide)
  have f1 := hf4 (j * 7 + 1)
  have y2 : w4.cell? ⟨g4, j * 7 + 2, none⟩ = some (.int .u64 l[j].Remote) := hc4 2 (by decide)
  have f2 := hf4 (j * 7 + 2)
  have y3 : w4.cell? ⟨g4, j * 7 + 3, none⟩ = some (.int .u64 l[j].Reserve) := hc4 3 (by decide)
  have f3 := hf4 (j * 7 + 3)
  have y4 : w4.cell? ⟨g4, j * 7 + 4, none⟩ = some (.int .u64 l[j].Most) := hc4 4 (by decide)
  have f4 := hf4 (j * 7 + 4)
  have y5 : w4.cell? ⟨g4, j * 7 + 5, none⟩ = some (.slice A'' n'' c'') := hc4 5 (by decide)
  have f5 := hf4 (j * 7 + 5)
  have y6 : w4.cell? ⟨g4, j * 7 + 6, none⟩ = some (.bool l[j].Open) := hc4 6 (by decide)
  have f6 := hf4 (j * 7 + 6)
  clear hc4 hf4 hr4 hR ho4 ho4' hb4 BX BX4 HS3
  go_wp2
  go_ret2
  exact ⟨_, by rw [HE.out.1]; rfl, by rw [HE.out.2]; exact HO9.out, fun _ => HC9.out, HB9.out⟩

end Go.Proofs.Ytanlpcndbfmkiaa
