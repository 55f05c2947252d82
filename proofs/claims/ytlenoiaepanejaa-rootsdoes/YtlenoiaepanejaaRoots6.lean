/-
  The contract of package roots' Add; all that package roots answers.
-/
import Derived.Test.YtlenoiaepanejaaRoots4
import Derived.Test.YtlenoiaepanejaaRoots5
import Derived.Test.YtlenoiaepanejaaRootsSpec
namespace Go.Proofs.Ytlenoiaepanejaa
open Go.RowKit Go.WalkArith

abbrev addRow (W : World) (A : Option Addr) (n c k : Nat) (id key : Int) : World := (W.alloc (Obj.cells #[.int .u64 id, .int .u64 key, .bool false] 34)).alloc (Obj.cells #[.slice A k c, .slice (some ⟨W.heap.size, 0, none⟩) 1 1, .slice (cutS lay_RootKey.size A c k) (n - k) (c - k)] 22)
theorem addCat_any (A : Option Addr) (n c k : Nat) (l : List Rtk) (id key : Int) (W : World) (h : Sl lay_RootKey W (· < W.heap.size) A n c l) (hk : k ≤ n) (hn : n ≤ 64) (hi : (Lit.int .u64 id).wf = true) (hkey : (Lit.int .u64 key).wf = true) :
    Calls Try.prog 23 #[.slice (some ⟨W.heap.size + 1, 0, none⟩) 3 3] (addRow W A n c k id key).drew fun e w' => ∃ v', e = .returned v' ∧ OwnL lay_RootKey w' W.heap.size (some W.heap.size) 34 v' (l.take k ++ [⟨id, key, false⟩] ++ l.drop k) ∧ Below W.heap.size W w' := by
  have hb1 : Below W.heap.size W (W.alloc (Obj.cells #[.int .u64 id, .int .u64 key, .bool false] 34)) := bel_alloc (Below.refl _ _) _
  have hb0 : Below W.heap.size W (addRow W A n c k id key) := bel_alloc hb1 _
  have hz : (addRow W A n c k id key).heap.size = W.heap.size + 2 := by simp [addRow]
  have hg1 : (addRow W A n c k id key).heap[W.heap.size]? = some (Obj.cells #[.int .u64 id, .int .u64 key, .bool false] 34) := heap_alloc2_old _ _ _
  have hg2 : (addRow W A n c k id key).heap[W.heap.size + 1]? = some (Obj.cells #[.slice A k c, .slice (some ⟨W.heap.size, 0, none⟩) 1 1, .slice (cutS lay_RootKey.size A c k) (n - k) (c - k)] 22) := heap_alloc2_new _ _ _
  have s1 := (Sl.call h hb0).upto (i := k) hk
  have s3 := (Sl.call h hb0).cut (i := k) hk
  have s2 : Sl lay_RootKey (addRow W A n c k id key) (· < (addRow W A n c k id key).heap.size) (some ⟨W.heap.size, 0, none⟩) 1 1 [⟨id, key, false⟩] :=
    Sl.lit1 (cs := [.int .u64 id, .int .u64 key, .bool false]) (by rw [hz]; omega) (rep_RootKey.2 ⟨rfl, ⟨hi, hkey⟩⟩) fun i v hv => by
      match i, hv with
      | 0, hv => simp at hv; subst hv; exact Var3.c0 hg1
      | 1, hv => simp at hv; subst hv; exact Var3.c1 hg1
      | 2, hv => simp at hv; subst hv; exact Var3.c2 hg1
  have s : Sl (Lay.slice lay_RootKey) (addRow W A n c k id key) (· < (addRow W A n c k id key).heap.size) (some ⟨W.heap.size + 1, 0, none⟩) 3 3 [l.take k, [⟨id, key, false⟩], l.drop k] := by
    refine ⟨rfl, Nat.le_refl _, by unfold maxLen; omega, by simp, fun _ => ⟨W.heap.size + 1, 0, _, rfl, by rw [hz]; omega, ⟨[.slice A k c], [.slice (some ⟨W.heap.size, 0, none⟩) 1 1, .slice (cutS lay_RootKey.size A c k) (n - k) (c - k)], rfl, ⟨_, _, _, rfl, s1⟩, ⟨[_], [_], rfl, ⟨_, _, _, rfl, s2⟩, ⟨[_], [], rfl, ⟨_, _, _, rfl, s3⟩, rfl⟩⟩⟩, fun i v hv => ?_⟩⟩
    match i, hv with
    | 0, hv => simp at hv; subst hv; exact Var3.c0 hg2
    | 1, hv => simp at hv; subst hv; exact Var3.c1 hg2
    | 2, hv => simp at hv; subst hv; exact Var3.c2 hg2
  have hl := h.len
  refine (concatR_any _ _ _ _ (addRow W A n c k id key).drew (s.keep fun _ _ => rfl) (by simp; omega)).mono ?_
  rintro e w' ⟨v', rfl, ho, hb⟩
  refine ⟨v', rfl, ?_, bel_call hb0.drew hb⟩
  have := ho.lows (base' := W.heap.size) (lo' := W.heap.size) hb0.drew.size hb0.drew.size
  simpa using this

theorem ad_bad {l : List Rtk} {id key : Int} (h : ¬ RtOk l) : adE l id key = 1 := if_neg h
theorem ad_there {l : List Rtk} {id key : Int} {k : Nat} (h : RtOk l) (ha : AtF Rtk.Id l id k) (hh : (hitF Rtk.Id l id k || hasK l key) = true) : adE l id key = 6 := by
  unfold adE
  rw [if_pos h, if_pos]
  cases hx : hitF Rtk.Id l id k with
  | true =>
    obtain ⟨hk, -, h2⟩ := ha.find hx
    have h2 : rootF l id = some l[k] := h2
    rw [h2]; rfl
  | false =>
    rw [hx] at hh
    have hh : hasK l key = true := by simpa using hh
    rw [hh]
    cases (rootF l id).isSome <;> rfl
theorem ad_new {l : List Rtk} {id key : Int} {k : Nat} (h : RtOk l) (ha : AtF Rtk.Id l id k) (h1 : hitF Rtk.Id l id k = false) (h2 : hasK l key = false) :
    (l.length = 64 → adE l id key = 7) ∧ (l.length ≠ 64 → adE l id key = 0 ∧ adL l id key = l.take k ++ [⟨id, key, false⟩] ++ l.drop k) := by
  have hr : rootF l id = none := ha.none h.2.1 h1
  have he : adE l id key = if l.length = 64 then 7 else 0 := by
    unfold adE
    rw [if_pos h, if_neg (by rw [hr, h2]; simp)]
  refine ⟨fun h3 => by rw [he, if_pos h3], fun h3 => ?_⟩
  have he : adE l id key = 0 := by rw [he, if_neg h3]
  refine ⟨he, ?_⟩
  unfold adL
  rw [if_pos he]
  exact ha.with_new h.2.1 h1 _

set_option maxRecDepth 100000 in
set_option maxHeartbeats 2000000 in
theorem rAdd_any (A : Option Addr) (n c : Nat) (l : List Rtk) (id key : Int) (w : World) (h : Sl lay_RootKey w (· < w.heap.size) A n c l) (hi : (Lit.int .u64 id).wf = true) (hkey : (Lit.int .u64 key).wf = true) :
    Calls Try.prog 9 #[.slice A n c, .int .u64 id, .int .u64 key] w fun e w' => ∃ v', e = .returned (.tuple #[v', .int .i64 (adE l id key)]) ∧ OwnL lay_RootKey w' w.heap.size (some w.heap.size) 34 v' (adL l id key) ∧ Below w.heap.size w w' := by
  have HL := hid h.len
  have hcap := h.cap
  unfold maxLen at hcap
  have HZ := hid (show ∀ e, adE l id key = e → e ≠ 0 → adL l id key = [] from fun e he h0 => if_neg (by rw [he]; exact h0))
  rcases rk_is (l := l) with ⟨he, hok⟩ | ⟨he, hok⟩
  case inr =>
    have HE := hid (ad_bad (id := id) (key := key) hok)
    have HC := hid (rCheck_any A n c l w h)
    rw [he] at HC
    clear he hok
    go_enter Try.func9, Try.ntmps9
    go_wp2_with (go_at_call 18; go_must (refine HC.out.mono ?_; rintro e w1 ⟨rfl, hb1⟩))
    go_ret2
    exact ⟨_, by rw [HE.out]; rfl, by rw [HZ.out _ HE.out (by decide)]; exact OwnL.nil _ _ _ _ _, hb1⟩
  have HC := hid (rCheck_any A n c l w h)
  rw [he] at HC
  have HU := hid hok.2.1
  have hn : n ≤ 64 := by rw [← HL.out]; exact hok.1
  have HT := hid (fun k ha hh => ad_there (id := id) (key := key) (k := k) hok ha hh)
  have HW := hid (fun k ha h1 h2 => ad_new (id := id) (key := key) (k := k) hok ha h1 h2)
  clear he hok
  go_enter Try.func9, Try.ntmps9
  go_wp2_with (go_at_call 18; go_must (refine HC.out.mono ?_; rintro e w1 ⟨rfl, hb1⟩))
  with_reducible refine (placeOf_any _ _ _ l id _ (Sl.call h hb1) hn HU.out).mono ?_
  rintro e w2 ⟨k, rfl, hk, hb2⟩
  have HB := bel_call hb1 hb2
  have hkn : k ≤ n := by rw [← HL.out]; exact hk.1
  have HK := hid hk
  clear hk
  cases hh : hitF Rtk.Id l id k with
  | true =>
    have HE := hid (HT.out k HK.out (by rw [hh]; rfl))
    clear hh
    go_wp2
    go_ret2
    exact ⟨_, by rw [HE.out]; rfl, by rw [HZ.out _ HE.out (by decide)]; exact OwnL.nil _ _ _ _ _, HB⟩
  | false =>
    have HH := hid hh
    have HC2 := hid (hasKey_any A n c l key w2 (Sl.call h HB))
    cases hq : hasK l key with
    | true =>
      have HE := hid (HT.out k HK.out (by rw [hq]; simp))
      rw [hq] at HC2
      clear hh hq
      go_wp2_with fail
      with_reducible refine HC2.out.mono ?_
      rintro e w3 ⟨rfl, hb3⟩
      have HB3 := bel_call HB hb3
      go_wp2
      go_ret2
      exact ⟨_, by rw [HE.out]; rfl, by rw [HZ.out _ HE.out (by decide)]; exact OwnL.nil _ _ _ _ _, HB3⟩
    | false =>
      obtain ⟨k1, k2⟩ := HW.out k HK.out hh hq
      have K1 := hid k1
      have K2 := hid k2
      rw [hq] at HC2
      clear hh hq k1 k2
      go_wp2_with fail
      with_reducible refine HC2.out.mono ?_
      rintro e w3 ⟨rfl, hb3⟩
      have HB3 := bel_call HB hb3
      by_cases h64 : n = 64
      · have HE := hid (K1.out (by rw [HL.out]; exact h64))
        subst h64
        go_wp2
        go_ret2
        exact ⟨_, by rw [HE.out]; rfl, by rw [HZ.out _ HE.out (by decide)]; exact OwnL.nil _ _ _ _ _, HB3⟩
      · obtain ⟨e1, e2⟩ := K2.out (by rw [HL.out]; exact h64)
        have HE := hid e1
        have HLL := hid e2
        have d64 : ((n : Int) == 64) = false := by simp; omega
        have hsu := run_uptoL (P := Try.prog) 22 34 .i64 Try.underlying22 Try.elemRtk Try.infoRtk A n c k (by omega)
        have hsf := run_fromL (P := Try.prog) 22 34 .i64 Try.underlying22 Try.elemRtk Try.infoRtk A n c k (by omega)
        have HCC := hid (fun (W : World) (hb : Below w3.heap.size w3 W) => addCat_any A n c k l id key W (Sl.call h (bel_call HB3 hb)) hkn hn hi hkey)
        have HH3 := Below.refl w3.heap.size w3
        clear e1 e2
        go_upto_region 9 with (fail)
        go_region_held3 (fun w' => w3.heap.size ≤ w'.heap.size) (first | exact hb4.size | exact (bel_alloc (bel_alloc (Below.refl w3.heap.size w3).drew _) _).size | exact (bel_alloc (bel_alloc (Below.refl w3.heap.size w3) _) _).size | exact (bel_alloc (Below.refl w3.heap.size w3).drew _).size | exact (bel_alloc (Below.refl w3.heap.size w3) _).size | simp | (simp; omega) | (have := hb4.size; simp at this; omega))
          (first | (go_at_call 23; (with_reducible refine (HCC.out _ HH3).mono ?_); rintro e w4 ⟨v4, rfl, ho4, hb4⟩))
        go_wp2
        go_ret2
        exact ⟨_, by rw [HE.out]; rfl, by rw [HLL.out]; exact ho4.lows HB3.size HB3.size, bel_call HB3 hb4⟩

theorem roots_spec : RootsSpec where
  check := fun A n c l w h => rCheck_any A n c l w h
  same := fun A A' n c n' c' l o w h1 h2 => rSame_any A A' n c n' c' _ l o w h1 h2
  key := fun A n c l id w h _ => rKey_any A n c l id w h
  add := fun A n c l id key w h h1 h2 => rAdd_any A n c l id key w h h1 h2
  turn := fun A n c l id key w h _ h2 => rTurn_any A n c l id key w h h2
  revoke := fun A n c l id w h _ => rRevoke_any A n c l id w h
end Go.Proofs.Ytlenoiaepanejaa
