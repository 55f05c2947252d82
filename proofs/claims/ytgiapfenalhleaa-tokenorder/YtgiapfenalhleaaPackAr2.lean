/-
  The contract of the document's Path.
  The contract of package arena's Path, and of slices.Reverse at texts.
  The contract of package arena's Path.
  The contracts of package arena, all.
-/
import Derived.Test.YtgiapfenalhleaaArenaRef6
import Derived.Test.YtgiapfenalhleaaPackAr
namespace Go.Proofs.Ytgiapfenalhleaa
open Go.RowKit Go.WalkArith

theorem pthT_len {l : List Trm} : ∀ {i : Nat}, i < l.length → (pthT l i).length ≤ i + 1 := by
  intro i
  induction i using Nat.strongRecOn with
  | _ i ih =>
    intro hi
    rw [pthT_eq hi, List.length_append]
    by_cases hu : 0 ≤ l[i].Up ∧ l[i].Up < i
    · rw [if_pos hu]
      have := ih l[i].Up.toNat (by omega) (by omega)
      simp
      omega
    · rw [if_neg hu]
      simp

theorem path_no {l : List Trm} {u : Int} (h : ¬ (ArOk l ∧ 0 ≤ u ∧ u < l.length)) : pathE l u = 1 ∧ pathK l u = 0 ∧ pathT l u = [] := by
  rcases path_cases l u with ⟨_, h1, h2, h3, _⟩ | ⟨h1, h2, h3, _⟩
  · exact absurd ⟨h1, h2, h3⟩ h
  · exact ⟨h1, h2, h3⟩
theorem path_ok {l : List Trm} {u : Int} (h : ArOk l) (h0 : 0 ≤ u) (h1 : u < l.length) : pathE l u = 0 ∧ pathK l u = pthK l u.toNat ∧ pathT l u = pthT l u.toNat := by
  rcases path_cases l u with ⟨e, _, _, _, h2, h3⟩ | ⟨_, _, _, hn⟩
  · exact ⟨e, h2, h3⟩
  · exact absurd ⟨h, h0, h1⟩ hn

end Go.Proofs.Ytgiapfenalhleaa
namespace Go.Proofs.Ytgiapfenalhleaa
open Go.RowKit Go.WalkArith

theorem RepRow.rev {α : Type} {L : Lay α} {w : World} {S : Nat → Prop} (h1 : L.size = 1) {xs : List α} {cs : List Value} (h : RepRow L w S xs cs) : RepRow L w S xs.reverse cs.reverse := by
  induction xs generalizing cs with
  | nil => simp [RepRow] at h; subst h; simp [RepRow]
  | cons x xs ih =>
    obtain ⟨c1, c2, rfl, h2, h3⟩ := h
    have hl := L.len h2
    rw [h1] at hl
    obtain ⟨u, rfl⟩ := List.length_eq_one_iff.1 hl
    rw [List.reverse_cons, List.reverse_append]
    exact (ih h3).append (RepRow.single h2)
/-- Half turned: up to i from both ends. -/
def Half (cs ds : List Value) (i : Nat) : Prop := ds.length = cs.length ∧ ∀ p, p < cs.length → ds[p]? = if p < i ∨ cs.length - i ≤ p then cs[cs.length - 1 - p]? else cs[p]?
theorem half_start (cs : List Value) : Half cs cs 0 := ⟨rfl, fun p hp => by rw [if_neg (by omega)]⟩
theorem half_end {cs ds : List Value} {i : Nat} (h : Half cs ds i) (hi : cs.length ≤ 2 * i + 1) : ds = cs.reverse := by
  apply List.ext_getElem?
  intro p
  by_cases hp : p < cs.length
  · rw [h.2 p hp, List.getElem?_reverse hp]
    by_cases c : p < i ∨ cs.length - i ≤ p
    · rw [if_pos c]
    · rw [if_neg c]
      have : cs.length - 1 - p = p := by omega
      rw [this]
  · rw [List.getElem?_eq_none (by rw [h.1]; omega), List.getElem?_eq_none (by simp; omega)]
theorem half_step {cs ds : List Value} {i : Nat} (h : Half cs ds i) (hi : 2 * i + 1 < cs.length) {u v : Value} (hu : cs[i]? = some u) (hv : cs[cs.length - 1 - i]? = some v) : Half cs ((ds.set i v).set (cs.length - 1 - i) u) (i + 1) := by
  have hl := h.1
  refine ⟨by simp [hl], fun p hp => ?_⟩
  rw [List.getElem?_set, List.getElem?_set]
  by_cases p1 : cs.length - 1 - i = p
  · rw [if_pos p1, if_pos (by simp; omega), if_pos (by omega), ← hu]
    congr 1
    omega
  · rw [if_neg p1]
    by_cases p2 : i = p
    · rw [if_pos p2, if_pos (by omega), if_pos (by omega), ← hv]
      congr 1
      omega
    · rw [if_neg p2, h.2 p hp]
      by_cases c : p < i ∨ cs.length - i ≤ p
      · rw [if_pos c, if_pos (by omega)]
      · rw [if_neg c, if_neg (by omega)]
theorem half_at {cs ds : List Value} {i : Nat} (h : Half cs ds i) {p : Nat} (h1 : i ≤ p) (h2 : p < cs.length - i) : ds[p]? = cs[p]? := by rw [h.2 p (by omega), if_neg (by omega)]

set_option maxRecDepth 100000 in
set_option maxHeartbeats 2000000 in
theorem reverse_any (g n cap base : Nat) (cs : List Value) (w : World) (h : w.ownsRow base 46 1 (.slice (some ⟨g, 0, none⟩) n cap) n cs) (hn : n ≤ 2097152) (hsl : ∀ x ∈ cs, ∃ A n c, x = .slice A n c) :
    Calls Try.prog 63 #[.slice (some ⟨g, 0, none⟩) n cap] w fun e w' => e = .returned (.tuple #[]) ∧ w'.ownsRow base 46 1 (.slice (some ⟨g, 0, none⟩) n cap) n cs.reverse ∧ w.grownBy w' (some g) := by
  have hcl : cs.length = n := by have := h.1; omega
  have HC := hid hcl
  have HSL := hid hsl
  clear hsl
  have wn : IntKind.i64.wrap ((n : Int) - 1) = (n : Int) - 1 := IntWalk.i64_in _ (by omega)
  go_enter Try.func63, Try.ntmps63
  go_wp2
  go_loopw [2, 3] (fun a b wr => ∃ (i : Nat) (ds : List Value), i ≤ n ∧ 2 * i ≤ n + 1 ∧ a = .int .i64 i ∧ b = .int .i64 ((n : Int) - 1 - i) ∧ Half cs ds i ∧ wr.ownsRow base 46 1 (.slice (some ⟨g, 0, none⟩) n cap) n ds ∧ w.grownBy wr (some g)) (fun a b _ => (intOf b - intOf a + 1).toNat)
  case atStart => exact ⟨0, cs, Nat.zero_le _, by omega, rfl, by simp, half_start cs, h, ⟨rfl, rfl, rfl, Nat.le_refl _, fun _ _ _ => rfl⟩⟩
  case round =>
    obtain ⟨i, ds, hi, hi2, rfl, rfl, hhalf, hown, hgr⟩ := hrel
    have HH := hid hhalf
    have HG := hid hgr
    have HO := hid hown
    clear hhalf hgr hown h hcl
    by_cases hlt : (i : Int) < (n : Int) - 1 - i
    · obtain ⟨jn, hjn⟩ : ∃ jn : Nat, (n : Int) - 1 - i = jn := ⟨n - 1 - i, by omega⟩
      rw [hjn] at hlt ⊢
      have hjn' : n - 1 - i = jn := by omega
      have hlt' : i < jn := by omega
      have hil : i < cs.length := by rw [HC.out]; omega
      have hjl : jn < cs.length := by rw [HC.out]; omega
      obtain ⟨u, hu⟩ : ∃ u, cs[i]? = some u := ⟨_, List.getElem?_eq_getElem hil⟩
      obtain ⟨v, hv⟩ : ∃ v, cs[jn]? = some v := ⟨_, List.getElem?_eq_getElem hjl⟩
      have c1 : wr.cell? ⟨g, i, none⟩ = some u := by rw [HO.out.cellAt i (by omega), half_at HH.out (Nat.le_refl _) (by rw [HC.out]; omega), hu]
      have c2 : wr.cell? ⟨g, jn, none⟩ = some v := by rw [HO.out.cellAt jn (by omega), half_at HH.out (by omega) (by rw [HC.out]; omega), hv]
      have f1 := HO.out.frozenAt i
      have f2 := HO.out.frozenAt jn
      obtain ⟨Au, nu, cu, rfl⟩ := HSL.out u (List.mem_of_getElem? hu)
      obtain ⟨Av, nv, cv, rfl⟩ := HSL.out v (List.mem_of_getElem? hv)
      have HN := hid (half_step HH.out (by rw [HC.out]; omega) hu (by rw [HC.out, hjn']; exact hv))
      rw [HC.out, hjn'] at HN
      have HG1 := hid (fun (W : World) (h : W.heap = wr.heap) (h2 : W.os = wr.os) (h3 : W.tape = wr.tape) (h4 : W.output = wr.output) => (show ((W.setCell ⟨g, i, none⟩ (.slice Av nv cv)).setCell ⟨g, jn, none⟩ (.slice Au nu cu)).ownsRow base 46 1 (.slice (some ⟨g, 0, none⟩) n cap) n ((ds.set i (.slice Av nv cv)).set jn (.slice Au nu cu)) ∧ w.grownBy ((W.setCell ⟨g, i, none⟩ (.slice Av nv cv)).setCell ⟨g, jn, none⟩ (.slice Au nu cu)) (some g) from by
        have e : W.ownsRow base 46 1 (.slice (some ⟨g, 0, none⟩) n cap) n ds := by
          have := HO.out
          unfold World.ownsRow at this ⊢
          rw [h]
          exact this
        refine ⟨((e.stored i _).1.stored jn _).1, ?_⟩
        have k1 := (e.stored i (.slice Av nv cv)).2
        have k2 := ((e.stored i (.slice Av nv cv)).1.stored jn (.slice Au nu cu)).2
        have k0 := HG.out
        refine ⟨k2.os.trans (k1.os.trans (h2.trans k0.os)), k2.tape.trans (k1.tape.trans (h3.trans k0.tape)), k2.output.trans (k1.output.trans (h4.trans k0.output)), Nat.le_trans k0.size (by rw [← h]; exact Nat.le_trans k1.size k2.size), fun b hb hne => ?_⟩
        have hb1 : b < W.heap.size := by rw [h]; exact Nat.lt_of_lt_of_le hb k0.size
        rw [k2.block b (Nat.lt_of_lt_of_le hb1 k1.size) hne, k1.block b hb1 hne, h, k0.block b hb hne]))
      clear hu hv
      go_wp2_with fail
      go_region
      go_wp2
      go_roundw
      case rel => exact ⟨i + 1, _, by omega, by omega, by go_num, congrArg (Value.int .i64) (by omega), HN.out, (HG1.out wr.drew rfl rfl rfl rfl).1, (HG1.out wr.drew rfl rfl rfl rfl).2⟩
      case measure => simp [intOf]; omega
    · have hd : decide ((i : Int) < (n : Int) - 1 - i) = false := by simp; omega
      have HE := hid (half_end HH.out (by rw [HC.out]; omega))
      go_wp2
      go_end0
      exact ⟨rfl, by rw [← HE.out]; exact HO.out, HG.out⟩
end Go.Proofs.Ytgiapfenalhleaa
namespace Go.Proofs.Ytgiapfenalhleaa
open Go.RowKit Go.WalkArith

/-- On the way up, the texts met so far behind each other. -/
def PSt (l : List Trm) (i0 : Nat) (cur k : Int) (acc : List (List Int)) : Prop :=
  (cur = -1 ∧ acc.reverse = pthT l i0 ∧ k = pthK l i0) ∨ (∃ c : Nat, cur = c ∧ c < l.length ∧ pthT l c ++ acc.reverse = pthT l i0 ∧ pthK l c = pthK l i0)
theorem pst_step {l : List Trm} {i0 c : Nat} {acc : List (List Int)} (h : ArOk l) (hc : c < l.length) (h1 : pthT l c ++ acc.reverse = pthT l i0) (h2 : pthK l c = pthK l i0) : PSt l i0 l[c].Up l[c].Key (acc ++ [l[c].Text]) := by
  have f := h.fit hc
  by_cases hu : 0 ≤ l[c].Up
  · refine .inr ⟨l[c].Up.toNat, by omega, by have := f.2.1; omega, ?_, by rw [← h2, pthK_next h hc hu]⟩
    rw [← h1, pthT_next h hc hu, List.reverse_append]
    simp
  · refine .inl ⟨by have := f.1; omega, ?_, by rw [← h2, pthK_root hc (by omega)]⟩
    rw [← h1, pthT_root hc (by omega), List.reverse_append]
    simp

theorem OwnL.reversed {w w' : World} {base lo g n cap : Nat} {xs : List (List Int)} {cs : List Value} (h2 : RepRow lay_Txt w (Els w (some lo) (.slice (some ⟨g, 0, none⟩) n cap)) xs cs) (hn : xs.length = n)
    (h3 : w'.ownsRow base 46 1 (.slice (some ⟨g, 0, none⟩) n cap) n cs.reverse) (hg : w.grownBy w' (some g)) : OwnL lay_Txt w' base (some lo) 46 (.slice (some ⟨g, 0, none⟩) n cap) xs.reverse := by
  refine ⟨cs.reverse, by rw [List.length_reverse, hn]; exact h3, ?_⟩
  refine ((h2.rev rfl).keep fun p hp => ?_).wide fun b hb => ?_
  · exact World.cell?_of_block (hg.block p.block hp.2.1 fun e => hp.2.2 e)
  · exact ⟨hb.1.of_block (hg.block b hb.2.1 fun e => hb.2.2 e), Nat.lt_of_lt_of_le hb.2.1 hg.size, hb.2.2⟩
theorem repTxt_slices {w : World} {S : Nat → Prop} {xs : List (List Int)} {cs : List Value} (h : RepRow lay_Txt w S xs cs) : ∀ x ∈ cs, ∃ A n c, x = .slice A n c := by
  induction xs generalizing cs with
  | nil => simp [RepRow] at h; subst h; simp
  | cons x xs ih =>
    obtain ⟨c1, c2, rfl, ⟨A, n, c, rfl, _⟩, h3⟩ := h
    intro y hy
    rcases List.mem_append.1 hy with hy | hy
    · simp at hy; exact ⟨A, n, c, hy⟩
    · exact ih h3 y hy

set_option maxRecDepth 100000 in
set_option maxHeartbeats 4000000 in
theorem aPath_any (s1 : Array Value) (l : List Trm) (u : Int) (w : World) (g1 : lay_Arena.rep w (· < w.heap.size) l s1.toList) (hu : (Lit.int .i64 u).wf = true) :
    Calls Try.prog 31 #[.agg s1, .int .i64 u] w fun e w' => ∃ v', e = .returned (.tuple #[.int .u64 (pathK l u), v', .int .i64 (pathE l u)]) ∧ OwnL lay_Txt w' w.heap.size (some w.heap.size) 46 v' (pathT l u) ∧ Below w.heap.size w w' := by
  obtain ⟨A1, n1, c1, rfl, hA⟩ := agg_Arena g1
  clear g1
  have HL := hid hA.len
  have hc1 := hA.cap
  unfold maxLen at hc1
  have bU := bounds_i64 hu
  have hb0 : Below w.heap.size w (w.alloc (Obj.cells #[.slice A1 n1 c1] 24)) := bel_alloc (Below.refl _ _) _
  have hx0 := heap_alloc_new w (Obj.cells #[.slice A1 n1 c1] 24)
  have hz0 : (w.alloc (Obj.cells #[.slice A1 n1 c1] 24)).heap.size = w.heap.size + 1 := by simp
  have PA := hid (fun (W : World) (h : Below w.heap.size w W) => Sl.call hA h)
  have HCK := hid (aCheck_any _ l _ (rep_Arena.2 ⟨_, _, _, rfl, PA.out _ hb0⟩))
  by_cases hok : ArOk l
  rotate_left
  · have HP := hid (path_no (u := u) fun k => hok k.1)
    rw [show arE l = 1 from if_neg hok] at HCK
    go_enter Try.func31, Try.ntmps31
    go_wp2_with fail
    refine HCK.out.mono ?_
    rintro e w1 ⟨rfl, hb1⟩
    go_wp2
    go_ret3
    exact ⟨_, by rw [HP.out.1, HP.out.2.1]; rfl, by rw [HP.out.2.2]; exact OwnL.nil _ _ _ _ _, bel_call hb0 hb1⟩
  rw [show arE l = 0 from if_pos hok] at HCK
  go_enter Try.func31, Try.ntmps31
  go_wp2_with fail
  refine HCK.out.mono ?_
  rintro e w1 ⟨rfl, hb1⟩
  have HB1 := bel_call hb0 hb1
  have V1 := (hb1.block _ (lt_of_block hx0)).trans hx0
  have z1 := cell_of_one V1
  have hz1 := hb1.size
  have HIT := hid (isTag_any _ l u w1 (rep_Arena.2 ⟨_, _, _, rfl, PA.out _ HB1⟩) hu)
  clear hb1 hb0 hx0 HCK
  by_cases hin : 0 ≤ u ∧ u < l.length
  rotate_left
  · have HP := hid (path_no (l := l) (u := u) fun k => hin k.2)
    have hff : (decide (0 ≤ u) && decide (u < (l.length : Int))) = false := by
      rw [Bool.and_eq_false_iff, decide_eq_false_iff_not, decide_eq_false_iff_not]
      by_cases h : 0 ≤ u
      · exact .inr fun h2 => hin ⟨h, h2⟩
      · exact .inl h
    rw [hff] at HIT
    clear hff hin
    go_wp2_with fail
    refine HIT.out.mono ?_
    rintro e w2 ⟨rfl, hb2⟩
    go_wp2
    go_ret3
    exact ⟨_, by rw [HP.out.1, HP.out.2.1]; rfl, by rw [HP.out.2.2]; exact OwnL.nil _ _ _ _ _, bel_call HB1 hb2⟩
  rw [decide_eq_true hin.1, decide_eq_true hin.2, Bool.and_true] at HIT
  have HP := hid (path_ok hok hin.1 hin.2)
  obtain ⟨i0, rfl⟩ : ∃ i : Nat, u = i := ⟨u.toNat, by omega⟩
  rw [Int.toNat_natCast] at HP
  have hi0 : i0 < l.length := by omega
  have hcm : n1 ≤ 1048576 := by rw [← HL.out]; exact hok.1
  have hi0b : i0 < 1048576 := by have := hok.1; omega
  have HPL := hid (pthT_len hi0)
  have HNE := hid (pthT_ne hi0)
  go_wp2_with fail
  refine HIT.out.mono ?_
  rintro e w2 ⟨rfl, hb2⟩
  have HB2 := bel_call HB1 hb2
  have V2 := (hb2.block _ (lt_of_block V1)).trans V1
  have hz2 := hb2.size
  clear z1 V1 HIT hb2
  go_wp2
  go_loopw [7, 8, 9] (fun kk tx ii wr => ∃ (cur k : Int) (acc : List (List Int)) (tv : Value), ii = .int .i64 cur ∧ kk = .int .u64 k ∧ tx = tv ∧ PSt l i0 cur k acc ∧ OwnL lay_Txt wr (w.heap.size + 1) (some (w.heap.size + 1)) 46 tv acc ∧ wr.heap[w.heap.size]? = some (Obj.cells #[.slice A1 n1 c1] 24 (0, 0)) ∧ w.heap.size + 1 ≤ wr.heap.size ∧ Below w.heap.size w wr) (fun _ _ ii _ => (intOf ii + 1).toNat)
  case atStart => exact ⟨i0, 0, [], _, rfl, rfl, rfl, .inr ⟨i0, rfl, hi0, by simp, rfl⟩, OwnL.nil _ _ _ _ _, V2, by omega, HB2⟩
  case round =>
    obtain ⟨cur, k, acc, tx, rfl, rfl, htx, hst, hown, hv, hwz, hbel⟩ := hrel
    replace htx := htx.symm
    subst htx
    clear V2 HB2
    rcases hst with ⟨rfl, hrev, hkey⟩ | ⟨c, rfl, hc, hpt, hpk⟩
    · obtain ⟨cs, h1, h2⟩ := hown
      have hpos : 0 < acc.length := by
        rw [← List.length_reverse, hrev]
        exact List.length_pos_iff.2 HNE.out
      have hle : acc.length ≤ 1048577 := by
        rw [← List.length_reverse, hrev]
        have := HPL.out
        omega
      have hsl := repTxt_slices h2
      obtain ⟨g, cap, rfl, hbg, hglt⟩ : ∃ g cap, tx = .slice (some ⟨g, 0, none⟩) acc.length cap ∧ w.heap.size + 1 ≤ g ∧ g < wr.heap.size := by
        rcases h1.2 with ⟨-, h0⟩ | ⟨g, cap, cur, rfl, hbg, hg, _⟩
        · omega
        · exact ⟨g, cap, rfl, hbg, (Array.getElem?_eq_some_iff.1 hg).1⟩
      have HRV := hid (reverse_any g acc.length cap (w.heap.size + 1) cs wr h1 (by omega) hsl)
      have HH2 := hid h2
      have HRE := hid hrev
      have HKE := hid hkey
      clear h1 h2 hsl hrev hkey
      generalize hna : acc.length = na at *
      have HNA := hid hna
      clear hna
      go_wp2_with fail
      refine HRV.out.mono ?_
      rintro e w5 ⟨rfl, ho5, hg5⟩
      have HO := hid ((OwnL.reversed HH2.out HNA.out ho5 hg5).lows (base' := w.heap.size) (lo' := w.heap.size) (by omega) (by omega))
      have HB5 := hid (hbel.trans (grown_below hg5 (by omega) hbel.size))
      clear ho5 hg5
      go_wp2
      go_ret3
      exact ⟨_, by rw [HP.out.1, HP.out.2.1, ← HKE.out]; rfl, by rw [HP.out.2.2, ← HRE.out]; exact HO.out, HB5.out⟩
    · have hcn : c < n1 := by rw [← HL.out]; exact hc
      obtain ⟨b1, o1, A', n', c', hx1, rfl, hb1', t1, u1, v1, e1, e2, hV1⟩ := trm_at hA hcn
      have q1 := (hbel.cell (p := ⟨b1, o1 + c * 3, none⟩) hb1').trans t1
      have q3 := (hbel.cell (p := ⟨b1, o1 + c * 3 + 2, none⟩) hb1').trans v1
      have fi := hok.fit hx1
      have hnl : n' ≤ 4096 := by rw [← hV1.len]; exact fi.2.2.2
      have hup : -1 ≤ l[c].Up ∧ l[c].Up < c := ⟨fi.1, fi.2.1⟩
      have HST := hid (pst_step hok hx1 hpt hpk)
      have hal : acc.length ≤ i0 := by
        have h1 := congrArg List.length hpt
        have h2 := List.length_pos_iff.2 (pthT_ne hx1)
        have h3 := HPL.out
        simp at h1
        omega
      have hal1 : (acc.length + 1) * 24 ≤ 140737488355328 := by omega
      have hal2 : acc.length + 1 ≤ maxLen := by unfold maxLen; omega
      have HCL := hid (clone_any A' n' c' w.heap.size l[c].Text wr (((hV1.rd (B := w.heap.size) fun _ h => h)).below hbel) hbel.size (by omega))
      have HQ2 := hid (fun (W : World) (h : Below w.heap.size w W) => (h.cell (p := ⟨b1, o1 + c * 3 + 1, none⟩) hb1').trans u1)
      have z := cell_of_one hv
      have hcne : ((c : Int) != -1) = true := by simp
      clear t1 u1 v1 hV1 fi hpt hpk e1 e2 PA
      go_wp2_with fail
      refine HCL.out.mono ?_
      rintro e w5 ⟨v5, rfl, ho5, hb5⟩
      obtain ⟨A5, n5, c5, rfl, hs5⟩ := ho5.slI
      have ho6 := hown.keep hb5
      have V5 := (hb5.block _ (lt_of_block hv)).trans hv
      have HB5 := bel_call hbel hb5
      have hz5 := hb5.size
      have hge : ∀ g, tx.ownBlock = some g → g < wr.heap.size := fun g hg => hown.lt hg
      have HGE := hid hge
      clear hge q1 q3 z
      go_wp2_with (at_builtin; refine wpList_pushL (w := w5) rfl (.tmp 34) (.tmp 42) 56 rfl (w.heap.size + 1) (some (w.heap.size + 1)) 46 _ 24 Try.underlying56 Try.infoTxt rfl (by decide) tx acc l[c].Text #[.slice A5 n5 c5] (From w5 wr.heap.size) rfl rfl ho6 ⟨A5, n5, c5, rfl, hs5⟩ (fun b hb => ⟨⟨Nat.le_trans hwz hb.1, hb.2.2⟩, hb.2.1, fun he => by have := HGE.out b he.symm; have := hb.1; omega⟩) (by omega) hal1 hal2 ?_; intro v7 w7 ho7 hext7; have hb7 : Below (w.heap.size + 1) w5 w7 := ho6.below hext7 (by omega); have V7 := (hb7.block w.heap.size (by omega)).trans V5; have z7 := cell_of_one V7; have HB7 : Below w.heap.size w w7 := HB5.trans (hb7.mono (by omega)); have q2 := HQ2.out w7 HB7)
      go_roundw
      case rel => exact ⟨l[c].Up, l[c].Key, acc ++ [l[c].Text], _, rfl, rfl, rfl, HST.out, ho7, V7, by have := hb7.size; omega, HB7⟩
      case measure => simp [intOf]; omega
end Go.Proofs.Ytgiapfenalhleaa

