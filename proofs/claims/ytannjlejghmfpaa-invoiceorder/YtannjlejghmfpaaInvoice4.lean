/-
  Package invoice: Create.
-/
import Derived.Test.YtannjlejghmfpaaInvoice3
namespace Go.Proofs.Ytannjlejghmfpaa
open Go.RowKit Go.WalkArith

abbrev addRowI (W : World) (A : Option Addr) (n k j g : Nat) (h m t : Int) : World := (W.alloc (Obj.cells #[.int .u64 h, .int .u64 m, .int .u64 t, .int .i64 1] 37)).alloc (Obj.cells #[.slice A j k, .slice (some ⟨g, 0, none⟩) 1 1, .slice (cutS lay_Invoice.size A k j) (n - j) (k - j)] 22)
theorem addCatI_any (A : Option Addr) (n k j g g1 : Nat) (l : List Inv) (h m t : Int) (W : World) (hg : g = W.heap.size) (hg1 : g1 = W.heap.size + 1) (hs : Sl lay_Invoice W (· < W.heap.size) A n k l) (hj : j ≤ n) (hn : n ≤ 256) (hw : InvWf ⟨h, m, t, 1⟩) :
    Calls Try.prog 27 #[.slice (some ⟨g1, 0, none⟩) 3 3] (addRowI W A n k j g h m t) fun e w' => ∃ v', e = .returned v' ∧ OwnL lay_Invoice w' W.heap.size (some W.heap.size) 37 v' (l.take j ++ [⟨h, m, t, 1⟩] ++ l.drop j) ∧ Below W.heap.size W w' := by
  subst hg hg1
  have hb1 : Below W.heap.size W (W.alloc (Obj.cells #[.int .u64 h, .int .u64 m, .int .u64 t, .int .i64 1] 37)) := bel_alloc (Below.refl _ _) _
  have hb0 : Below W.heap.size W (addRowI W A n k j W.heap.size h m t) := bel_alloc hb1 _
  have hz : (addRowI W A n k j W.heap.size h m t).heap.size = W.heap.size + 2 := by simp [addRowI]
  have B2 : Box (addRowI W A n k j W.heap.size h m t) W.heap.size 37 [.int .u64 h, .int .u64 m, .int .u64 t, .int .i64 1] := (Box.new W 37 [.int .u64 h, .int .u64 m, .int .u64 t, .int .i64 1]).old
  have hg2 : (addRowI W A n k j W.heap.size h m t).heap[W.heap.size + 1]? = some (Obj.cells #[.slice A j k, .slice (some ⟨W.heap.size, 0, none⟩) 1 1, .slice (cutS lay_Invoice.size A k j) (n - j) (k - j)] 22) := heap_alloc2_new _ _ _
  have s1 := (Sl.call hs hb0).upto (i := j) hj
  have s3 := (Sl.call hs hb0).cut (i := j) hj
  have s2 : Sl lay_Invoice (addRowI W A n k j W.heap.size h m t) (· < (addRowI W A n k j W.heap.size h m t).heap.size) (some ⟨W.heap.size, 0, none⟩) 1 1 [⟨h, m, t, 1⟩] :=
    Sl.lit1 (cs := [.int .u64 h, .int .u64 m, .int .u64 t, .int .i64 1]) (by rw [hz]; omega) (rep_Invoice.2 ⟨rfl, hw⟩) fun i v hv => by rw [Nat.zero_add]; exact B2.at_ i hv
  have s : Sl (Lay.slice lay_Invoice) (addRowI W A n k j W.heap.size h m t) (· < (addRowI W A n k j W.heap.size h m t).heap.size) (some ⟨W.heap.size + 1, 0, none⟩) 3 3 [l.take j, [⟨h, m, t, 1⟩], l.drop j] := by
    refine ⟨rfl, Nat.le_refl _, by unfold maxLen; omega, by simp, fun _ => ⟨W.heap.size + 1, 0, _, rfl, by rw [hz]; omega, ⟨[.slice A j k], [.slice (some ⟨W.heap.size, 0, none⟩) 1 1, .slice (cutS lay_Invoice.size A k j) (n - j) (k - j)], rfl, ⟨_, _, _, rfl, s1⟩, ⟨[_], [_], rfl, ⟨_, _, _, rfl, s2⟩, ⟨[_], [], rfl, ⟨_, _, _, rfl, s3⟩, rfl⟩⟩⟩, fun i v hv => ?_⟩⟩
    match i, hv with
    | 0, hv => simp at hv; subst hv; exact Var3.c0 hg2
    | 1, hv => simp at hv; subst hv; exact Var3.c1 hg2
    | 2, hv => simp at hv; subst hv; exact Var3.c2 hg2
  have hl := hs.len
  refine (concatI_any _ _ _ _ _ s (by simp; omega)).mono ?_
  rintro e w' ⟨v', rfl, ho, hb⟩
  refine ⟨v', rfl, ?_, bel_call hb0 hb⟩
  have := ho.lows (base' := W.heap.size) (lo' := W.heap.size) hb0.size hb0.size
  simpa using this

set_option maxRecDepth 100000 in
set_option maxHeartbeats 4000000 in
theorem iCreate_any (A : Option Addr) (n k : Nat) (l : List Inv) (h m t : Int) (w : World) (hs : Sl lay_Invoice w (· < w.heap.size) A n k l) (hh : (Lit.int .u64 h).wf = true) (hm : (Lit.int .u64 m).wf = true) (ht : (Lit.int .u64 t).wf = true) :
    Calls Try.prog 11 #[.slice A n k, .int .u64 h, .int .u64 m, .int .u64 t] w fun e w' => ∃ v, e = .returned (.tuple #[v, .int .i64 (crE l h m)]) ∧ OwnL lay_Invoice w' w.heap.size (some w.heap.size) 37 v (crL l h m t) ∧ Below w.heap.size w w' := by
  have HL := hid hs.len
  have HSL := hid (fun (W : World) (h' : Below w.heap.size w W) => Sl.call hs h')
  have hcap := hs.cap
  unfold maxLen at hcap
  have HC := hid (iCheck_any A n k l w hs)
  have HZ := hid (show ∀ e, crE l h m = e → e ≠ 0 → crL l h m t = [] from fun e he h0 => if_neg (by rw [he]; exact h0))
  rcases in_two (l := l) with ⟨g, e⟩ | ⟨g, e⟩
  rotate_left
  · rw [e] at HC
    have HE := hid (show crE l h m = 1 from if_neg fun q => g q.1)
    clear e g
    go_enter Try.func11, Try.ntmps11
    go_wp2_with (go_at_call 22; go_must (refine HC.out.mono ?_; rintro e w1 ⟨rfl, hb1⟩))
    go_ret2
    exact ⟨_, by rw [HE.out]; rfl, by rw [HZ.out _ HE.out (by decide)]; exact OwnL.nil _ _ _ _ _, hb1⟩
  rw [e] at HC
  clear e
  have HP := hid (fun W => payable_any m W hm)
  by_cases q0 : m ≠ 0 ∧ m ≤ mMax
  rotate_left
  · have HE := hid (show crE l h m = 1 from if_neg fun q => q0 q.2)
    have HD := hid (decide_eq_false q0)
    clear q0 g
    go_enter Try.func11, Try.ntmps11
    go_wp2_with (go_at_call 22; go_must (refine HC.out.mono ?_; rintro e w1 ⟨rfl, hb1⟩))
    with_reducible refine (HP.out _).mono ?_
    rw [HD.out]
    rintro e w2 ⟨rfl, hb2⟩
    have HB := bel_call hb1 hb2
    go_wp2
    go_ret2
    exact ⟨_, by rw [HE.out]; rfl, by rw [HZ.out _ HE.out (by decide)]; exact OwnL.nil _ _ _ _ _, HB⟩
  have HD := hid (decide_eq_true q0)
  have HU := hid g.2.1
  have hn : n ≤ 256 := by rw [← HL.out]; exact g.1
  have HCR := hid (show crE l h m = if (invF l h).isSome = true then 6 else if l.length = 256 then 7 else 0 from if_pos ⟨g, q0.1, q0.2⟩)
  clear q0 g
  go_enter Try.func11, Try.ntmps11
  go_wp2_with (go_at_call 22; go_must (refine HC.out.mono ?_; rintro e w1 ⟨rfl, hb1⟩))
  with_reducible refine (HP.out _).mono ?_
  rw [HD.out]
  rintro e w2 ⟨rfl, hb2⟩
  have HB2 := bel_call hb1 hb2
  clear hb2 hb1
  go_wp2_with fail
  with_reducible refine (placeI_any A n k l h _ (HSL.out _ HB2) (by omega) HU.out).mono ?_
  rintro e w3 ⟨j, rfl, hat, hb3⟩
  have HB3 := bel_call HB2 hb3
  have hjn : j ≤ n := by rw [← HL.out]; exact hat.1
  obtain ⟨d, hd⟩ : ∃ d, hitF Inv.Hash l h j = d := ⟨_, rfl⟩
  rw [hd]
  cases d
  rotate_left
  · obtain ⟨hj, hji, hfd⟩ := hat.find hd
    have HE := hid (show crE l h m = 6 from by rw [HCR.out, if_pos (by unfold invF fndF; rw [hfd]; rfl)])
    clear hat hd hji hfd
    go_wp2
    go_ret2
    exact ⟨_, by rw [HE.out]; rfl, by rw [HZ.out _ HE.out (by decide)]; exact OwnL.nil _ _ _ _ _, HB3⟩
  have hno := hat.none HU.out hd
  have HCR2 := hid (show crE l h m = if l.length = 256 then 7 else 0 from by rw [HCR.out, if_neg (by unfold invF fndF; rw [hno]; simp)])
  have HNW := hid (hat.with_new HU.out hd ⟨h, m, t, 1⟩)
  clear hat hd hno
  by_cases h256 : n = 256
  · have HE := hid (show crE l h m = 7 from by rw [HCR2.out, if_pos (by rw [HL.out]; exact h256)])
    subst h256
    go_wp2
    go_ret2
    exact ⟨_, by rw [HE.out]; rfl, by rw [HZ.out _ HE.out (by decide)]; exact OwnL.nil _ _ _ _ _, HB3⟩
  have HE := hid (show crE l h m = 0 from by rw [HCR2.out, if_neg (by rw [HL.out]; exact h256)])
  have HLL := hid (show crL l h m t = l.take j ++ [⟨h, m, t, 1⟩] ++ l.drop j from by rw [← HNW.out]; exact if_pos HE.out)
  have d256 : ((n : Int) == 256) = false := by simp; omega
  have hb4 := bel_alloc (Below.refl w3.heap.size w3) (Obj.cells #[.int .u64 h, .int .u64 m, .int .u64 t, .int .i64 1] 37)
  have V : Box (w3.alloc (Obj.cells #[.int .u64 h, .int .u64 m, .int .u64 t, .int .i64 1] 37)) w3.heap.size 37 [.int .u64 h, .int .u64 m, .int .u64 t, .int .i64 1] := Box.new w3 _ _
  have HB4 := bel_call HB3 hb4
  have hsu := fun W => run_uptoL (P := Try.prog) 22 37 .i64 Try.underlying22 Try.elemInv Try.infoInv A n k j (by omega) W
  have hsf := fun W => run_fromL (P := Try.prog) 22 37 .i64 Try.underlying22 Try.elemInv Try.infoInv A n k j hjn W
  clear h256 hb3 HP
  go_upto_region 9 with (fail)
  generalize w3.alloc (Obj.cells #[.int .u64 h, .int .u64 m, .int .u64 t, .int .i64 1] 37) = W1 at *
  generalize w3.heap.size = gr at *
  have HCC := hid (fun g g1 (hg : g = (W1.drewN 1).heap.size) (hg1 : g1 = (W1.drewN 1).heap.size + 1) => addCatI_any A n k j g g1 l h m t (W1.drewN 1) hg hg1 ((HSL.out _ HB4).drewN 1) hjn hn ⟨hh, hm, ht, (by decide : (Lit.int .i64 1).wf = true)⟩)
  have HH0 := bel_drewN (Below.refl W1.heap.size W1) 1
  have HH1 := bel_alloc HH0 (Obj.cells #[.int .u64 h, .int .u64 m, .int .u64 t, .int .i64 1] 37)
  have HH2 := bel_alloc HH1 (Obj.cells #[.slice A j k, .slice (some ⟨(W1.drewN 1).heap.size, 0, none⟩) 1 1, .slice (cutS lay_Invoice.size A k j) (n - j) (k - j)] 22)
  have HS1 := hid HH1
  have HS2 := hid HH2
  clear HH1 HH2
  refine wp_region_held (S := fun W => Below W1.heap.size W1 W) (by kernel_rfl) ?_
  have hS0 : (fun W => Below W1.heap.size W1 W) (W1.drewN 1) := HH0
  change wpAnyH _ _ _ _ _ 12 (Array.replicate 12 false) _ (W1.drewN 1)
  rw [show Array.replicate 12 false = #[false, false, false, false, false, false, false, false, false, false, false, false] from rfl]
  refine wpAnyH_yes 0 (some 37) (.slice A n k) rfl rfl (by kernel_rfl) (by kernel_rfl) (by kernel_rfl) (fun _ _ _ h => h) (by rfl) (fun w' hS => by go_simp) hS0 ?_
  simp only [Act.put, List.setIfInBounds_toArray, List.set_cons_zero, List.set_cons_succ]
  refine wpAnyH_yes 1 (some 38) (.int .i64 j) rfl rfl (by kernel_rfl) (by kernel_rfl) (by kernel_rfl) (fun _ _ _ h => h) (by rfl) (fun w' hS => by go_simp) hS0 ?_
  simp only [Act.put, List.setIfInBounds_toArray, List.set_cons_zero, List.set_cons_succ]
  refine wpAnyH_yes 2 (some 39) (.slice A j k) rfl rfl (by kernel_rfl) (by kernel_rfl) (by kernel_rfl) (fun _ _ _ h => h) (by rfl) (fun w' hS => by go_simp) hS0 ?_
  simp only [Act.put, List.setIfInBounds_toArray, List.set_cons_zero, List.set_cons_succ]
  refine wpAnyH_yes 3 (some 40) (.agg #[.int .u64 h, .int .u64 m, .int .u64 t, .int .i64 1]) rfl rfl (by kernel_rfl) (by kernel_rfl) (by kernel_rfl) (fun _ _ _ h => h) (by rfl) (fun w' hS => by have p0 := (V.call hS).at_ 0 rfl; have p1 := (V.call hS).at_ 1 rfl; have p2 := (V.call hS).at_ 2 rfl; have p3 := (V.call hS).at_ 3 rfl; go_simp) hS0 ?_
  simp only [Act.put, List.setIfInBounds_toArray, List.set_cons_zero, List.set_cons_succ]
  refine wpAnyH_yes 5 (some 42) (.slice A n k) rfl rfl (by kernel_rfl) (by kernel_rfl) (by kernel_rfl) (fun _ _ _ h => h) (by rfl) (fun w' hS => by go_simp) hS0 ?_
  simp only [Act.put, List.setIfInBounds_toArray, List.set_cons_zero, List.set_cons_succ]
  refine wpAnyH_yes 6 (some 43) (.int .i64 j) rfl rfl (by kernel_rfl) (by kernel_rfl) (by kernel_rfl) (fun _ _ _ h => h) (by rfl) (fun w' hS => by go_simp) hS0 ?_
  simp only [Act.put, List.setIfInBounds_toArray, List.set_cons_zero, List.set_cons_succ]
  refine wpAnyH_yes 7 (some 44) (.slice (cutS lay_Invoice.size A k j) (n - j) (k - j)) rfl rfl (by kernel_rfl) (by kernel_rfl) (by kernel_rfl) (fun _ _ _ h => h) (by rfl) (fun w' hS => by go_simp) hS0 ?_
  simp only [Act.put, List.setIfInBounds_toArray, List.set_cons_zero, List.set_cons_succ]
  refine wpAnyH_step 4 _ (by kernel_rfl) rfl (by rfl) ?_
  go_simp
  refine ⟨HS1.out, ?_⟩
  try simp only [Act.put, List.setIfInBounds_toArray, List.set_cons_zero, List.set_cons_succ]
  refine wpAnyH_step 8 _ (by kernel_rfl) rfl (by rfl) ?_
  go_simp
  refine ⟨HS2.out, ?_⟩
  try simp only [Act.put, List.setIfInBounds_toArray, List.set_cons_zero, List.set_cons_succ]
  refine wpAnyH_step 9 _ (by kernel_rfl) rfl (by rfl) ?_
  go_simp
  with_reducible refine (HCC.out _ _ ?h1 ?h2).mono ?_
  case h1 => rfl
  case h2 => rfl
  rintro e w5 ⟨v5, rfl, ho5, hb5⟩
  have HB5 := bel_call HB4 ((bel_drewN (Below.refl W1.heap.size W1) 1).trans hb5)
  have HS5 := hid ((bel_drewN (Below.refl W1.heap.size W1) 1).trans hb5)
  refine ⟨HS5.out, ?_⟩
  try simp only [Act.put, List.setIfInBounds_toArray, List.set_cons_zero, List.set_cons_succ]
  refine wpAnyH_yes 10 (some 8) (v5) rfl rfl (by kernel_rfl) (by kernel_rfl) (by kernel_rfl) (fun _ _ _ h => h) (by rfl) (fun w' hS => by go_simp) HS5.out ?_
  simp only [Act.put, List.setIfInBounds_toArray, List.set_cons_zero, List.set_cons_succ]
  refine wpAnyH_yes 11 (some 9) (.int .i64 0) rfl rfl (by kernel_rfl) (by kernel_rfl) (by kernel_rfl) (fun _ _ _ h => h) (by rfl) (fun w' hS => by go_simp) HS5.out ?_
  simp only [Act.put, List.setIfInBounds_toArray, List.set_cons_zero, List.set_cons_succ]
  refine wpAnyH_done (by kernel_rfl) ?_ _
  go_wp2
  go_ret2
  exact ⟨_, by rw [HE.out]; rfl, by rw [HLL.out]; exact ho5.lows HB4.size HB4.size, HB5⟩

end Go.Proofs.Ytannjlejghmfpaa
