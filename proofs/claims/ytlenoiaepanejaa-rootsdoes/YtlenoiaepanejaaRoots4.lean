/-
  The contracts of package roots' Turn and Revoke: what is done with one root at a new list.
-/
import Derived.Test.YtlenoiaepanejaaRoots3
import Derived.Test.YtlenoiaepanejaaOwnPut
namespace Go.Proofs.Ytlenoiaepanejaa
open Go.RowKit Go.WalkArith

theorem rtk_flat (w : World) (S S' : Nat → Prop) (a : Rtk) (c : List Value) (h : lay_RootKey.rep w S a c) : lay_RootKey.rep w S' a c := h
set_option maxHeartbeats 1000000 in
/-- slices.Clone, of roots. -/
theorem cloneR_any (A : Option Addr) (n c : Nat) (l : List Rtk) (w : World) (h : Sl lay_RootKey w (· < w.heap.size) A n c l) (hn : n ≤ 1048576) :
    Calls Try.prog 38 #[.slice A n c] w fun e w' => ∃ v', e = .returned v' ∧ OwnL lay_RootKey w' w.heap.size none 34 v' l ∧ Below w.heap.size w w' := by
  have hnil := fun W => run_is_nil (P := Try.prog) W 22 34 A n c Try.underlying22
  cases A with
  | none =>
    have hc := h.no rfl
    have hn0 : n = 0 := by have := h.cap; omega
    subst hc hn0
    have hx : l = [] := List.eq_nil_of_length_eq_zero h.len
    subst hx
    go_enter Try.func38, Try.ntmps38
    go_wp2
    go_ret
    exact ⟨_, rfl, OwnL.nil _ _ _ _ _, Below.refl _ _⟩
  | some a =>
    have hb0 : Below w.heap.size w (w.alloc (Obj.cells #[] 34)) := bel_alloc (Below.refl _ _) _
    have HS := hid (h.keep fun _ hp => hb0.cell hp)
    go_enter Try.func38, Try.ntmps38
    go_wp2_with (at_builtin; go_must (refine wpList_catL rfl _ _ 22 rfl w.heap.size none 34 _ 24 Try.underlying22 Try.infoRtk rfl (by decide) (.slice (some ⟨w.heap.size, 0, none⟩) 0 0) [] l (· < w.heap.size) (some a) n c rfl rfl (OwnL.empty lay_RootKey _ _ none) HS.out (fun b hb => ⟨trivial, Nat.lt_of_lt_of_le hb hb0.size, fun he => by simp [Value.ownBlock] at he; omega⟩) (by simp) (by simp; omega) (by unfold maxLen; simp; omega) ?_; intro v3 w3 hown3 hext3))
    go_ret
    simp only [List.nil_append] at hown3
    exact ⟨_, rfl, hown3, hb0.trans ((OwnL.empty lay_RootKey w _ none).below hext3 (by simp))⟩

theorem revoke1_any (g o : Nat) (x : Value) (w : World) (hc : w.cell? ⟨g, o + 2, none⟩ = some x) (hf : w.frozen? ⟨g, o + 2, none⟩ = false) :
    Calls Try.prog 29 #[.pointer (some ⟨g, o, none⟩)] w fun e w' => e = .returned (.int .i64 0) ∧ w' = w.setCell ⟨g, o + 2, none⟩ (.bool true) := by
  go_enter Try.func29, Try.ntmps29
  go_wp2
  go_ret
  exact ⟨rfl, rfl⟩

/-- Something was made, and then a cell written. -/
def Wrote (w : World) (g o : Nat) (u : Value) (w' : World) : Prop := ∃ w1, Below w.heap.size w w1 ∧ w' = w1.setCell ⟨g, o, none⟩ u
set_option maxHeartbeats 1000000 in
theorem turn1_yes (A : Option Addr) (n c : Nat) (l : List Rtk) (key : Int) (gl gk g o : Nat) (w : World) (hh : hasK l key = true) (h : Sl lay_RootKey w (· < w.heap.size) A n c l)
    (hl : w.cell? ⟨gl, 0, none⟩ = some (.slice A n c)) (hk : w.cell? ⟨gk, 0, none⟩ = some (.int .u64 key)) :
    Calls Try.prog 28 #[.pointer (some ⟨g, o, none⟩), .pointer (some ⟨gl, 0, none⟩), .pointer (some ⟨gk, 0, none⟩)] w fun e w' => e = .returned (.int .i64 6) ∧ Below w.heap.size w w' := by
  have HC := hid (hasKey_any A n c l key w h)
  rw [hh] at HC
  clear hh
  go_enter Try.func28, Try.ntmps28
  go_wp2_with fail
  with_reducible refine HC.out.mono ?_
  rintro e w1 ⟨rfl, hb1⟩
  go_wp2
  go_ret
  exact ⟨rfl, hb1⟩
set_option maxHeartbeats 1000000 in
theorem turn1_no (A : Option Addr) (n c : Nat) (l : List Rtk) (key : Int) (gl gk g o : Nat) (x : Value) (w : World) (hh : hasK l key = false) (h : Sl lay_RootKey w (· < w.heap.size) A n c l)
    (hl : w.cell? ⟨gl, 0, none⟩ = some (.slice A n c)) (hk : w.cell? ⟨gk, 0, none⟩ = some (.int .u64 key)) (hgk : gk < w.heap.size) (hg : g < w.heap.size) (hc : w.cell? ⟨g, o + 1, none⟩ = some x) (hf : w.frozen? ⟨g, o + 1, none⟩ = false) :
    Calls Try.prog 28 #[.pointer (some ⟨g, o, none⟩), .pointer (some ⟨gl, 0, none⟩), .pointer (some ⟨gk, 0, none⟩)] w fun e w' => e = .returned (.int .i64 0) ∧ Wrote w g (o + 1) (.int .u64 key) w' := by
  have HC := hid (hasKey_any A n c l key w h)
  rw [hh] at HC
  clear hh
  go_enter Try.func28, Try.ntmps28
  go_wp2_with fail
  with_reducible refine HC.out.mono ?_
  rintro e w1 ⟨rfl, hb1⟩
  have q1 := (hb1.cell (p := ⟨gk, 0, none⟩) hgk).trans hk
  have q2 := (hb1.cell (p := ⟨g, o + 1, none⟩) hg).trans hc
  have q3 : w1.frozen? ⟨g, o + 1, none⟩ = false := (World.frozen?_of_block (a := ⟨g, o + 1, none⟩) (hb1.block g hg)).trans hf
  go_wp2
  go_ret
  exact ⟨rfl, ⟨w1, hb1, rfl⟩⟩
theorem rv_set {l : List Rtk} {id : Int} (he : kyE l id = 0) {k : Nat} (ha : AtF Rtk.Id l id k) (hh : hitF Rtk.Id l id k = true) : ∃ hk : k < l.length, rvL l id = l.set k ⟨l[k].Id, l[k].Key, true⟩ := by
  obtain ⟨h1, r, h2, -, h3, h4, h5⟩ := ky_ok he
  obtain ⟨hk, h6, h7⟩ := ha.find hh
  have h7 : rootF l id = some l[k] := h7
  rw [h2] at h7
  injection h7 with h7
  refine ⟨hk, ?_⟩
  unfold rvL
  rw [if_pos he, h5, h7, h6]
  exact ha.with_set h1.2.1 hh _
theorem tn_set {l : List Rtk} {id key : Int} (he : tnE l id key = 0) {k : Nat} (ha : AtF Rtk.Id l id k) (hh : hitF Rtk.Id l id k = true) : ∃ hk : k < l.length, tnL l id key = l.set k ⟨l[k].Id, key, l[k].Gone⟩ := by
  obtain ⟨h0, -, -, h9⟩ := tn_ok he
  obtain ⟨h1, r, h2, -, h3, h4, h5⟩ := ky_ok h0
  obtain ⟨hk, h6, h7⟩ := ha.find hh
  have h7 : rootF l id = some l[k] := h7
  rw [h2] at h7
  injection h7 with h7
  refine ⟨hk, ?_⟩
  rw [h9, ← h7, h4, h7, h6]
  exact ha.with_set h1.2.1 hh _
theorem rtk_put2 {r : Rtk} (w : World) (S : Nat → Prop) (c : List Value) (h : lay_RootKey.rep w S r c) : lay_RootKey.rep w S ⟨r.Id, r.Key, true⟩ (c.set 2 (.bool true)) := by
  obtain ⟨rfl, hw⟩ := rep_RootKey.1 h
  exact rep_RootKey.2 ⟨rfl, ⟨hw.id, hw.key⟩⟩
theorem rtk_put1 {r : Rtk} {key : Int} (hk : (Lit.int .u64 key).wf = true) (w : World) (S : Nat → Prop) (c : List Value) (h : lay_RootKey.rep w S r c) : lay_RootKey.rep w S ⟨r.Id, key, r.Gone⟩ (c.set 1 (.int .u64 key)) := by
  obtain ⟨rfl, hw⟩ := rep_RootKey.1 h
  exact rep_RootKey.2 ⟨rfl, ⟨hw.id, hk⟩⟩

set_option maxRecDepth 100000 in
set_option maxHeartbeats 1000000 in
theorem changeR_any (A : Option Addr) (n c : Nat) (l : List Rtk) (id : Int) (w : World) (h : Sl lay_RootKey w (· < w.heap.size) A n c l) :
    Calls Try.prog 27 #[.slice A n c, .int .u64 id, .func (.func 29) #[] #[]] w fun e w' => ∃ v', e = .returned (.tuple #[v', .int .i64 (kyE l id)]) ∧ OwnL lay_RootKey w' w.heap.size (some w.heap.size) 34 v' (rvL l id) ∧ Below w.heap.size w w' := by
  have HL := hid h.len
  have HC := hid (live8r_any A n c l id w h)
  by_cases he : kyE l id = 0
  · have HN := hid (show n ≤ 64 from by rw [← HL.out]; exact (ky_ok he).1.1)
    have HV := hid (fun (k : Nat) (hk : AtF Rtk.Id l id k ∧ hitF Rtk.Id l id k = true) => rv_set he hk.1 hk.2)
    rw [he] at HC ⊢
    clear he
    go_enter Try.func27, Try.ntmps27
    go_wp2_with fail
    with_reducible refine HC.out.mono ?_
    rintro e w1 ⟨k, rfl, hk, hb1⟩
    obtain ⟨hkl, hkv⟩ := HV.out k (hk (by simp))
    have HKV := hid hkv
    have hkn : k < n := by rw [← HL.out]; exact hkl
    clear hkv hk
    go_wp2_with fail
    with_reducible refine (cloneR_any _ _ _ l w1 (Sl.call h hb1) (Nat.le_trans HN.out (by decide))).mono ?_
    rintro e w2 ⟨v2, rfl, ho2, hb2⟩
    have ho := ho2.flat rtk_flat (some w.heap.size)
    obtain ⟨g, cap, rfl⟩ := ho.shape (by omega)
    rw [HL.out] at ho ho2 ⊢
    obtain ⟨cs, hrep, hcs, hfz⟩ := ho.elem hkl
    obtain ⟨rfl, hw⟩ := rep_RootKey.1 hrep
    have q2 : w2.cell? ⟨g, k * 3 + 2, none⟩ = some (.bool l[k].Gone) := hcs 2 (by decide)
    have hf2 := hfz (k * 3 + 2)
    have HO := hid ((ho.put (i := 2) (u := .bool true) (by decide) hkl (fun w S c => rtk_put2 w S c)).low hb1.size)
    have HG := hid (Nat.le_trans hb1.size ho.ownG.1)
    have HB := bel_call hb1 hb2
    have HR := hid (revoke1_any g (k * 3) _ w2 q2 hf2)
    clear hcs hfz hrep hw ho ho2
    go_wp2_with fail
    with_reducible refine HR.out.mono ?_
    rintro e w3 ⟨rfl, rfl⟩
    go_wp2
    go_ret2
    exact ⟨_, rfl, by rw [HKV.out]; exact HO.out, HB.setCell HG.out _⟩
  · have HV := hid (show rvL l id = [] from if_neg he)
    have hne : (kyE l id != 0) = true := by simpa using he
    generalize kyE l id = ke at *
    clear he
    go_enter Try.func27, Try.ntmps27
    go_wp2_with fail
    with_reducible refine HC.out.mono ?_
    rintro e w1 ⟨k, rfl, hk, hb1⟩
    clear hk
    go_wp2
    go_ret2
    exact ⟨_, rfl, by rw [HV.out]; exact OwnL.nil _ _ _ _ _, hb1⟩

set_option maxRecDepth 100000 in
set_option maxHeartbeats 1000000 in
theorem rRevoke_any (A : Option Addr) (n c : Nat) (l : List Rtk) (id : Int) (w : World) (h : Sl lay_RootKey w (· < w.heap.size) A n c l) :
    Calls Try.prog 13 #[.slice A n c, .int .u64 id] w fun e w' => ∃ v', e = .returned (.tuple #[v', .int .i64 (kyE l id)]) ∧ OwnL lay_RootKey w' w.heap.size (some w.heap.size) 34 v' (rvL l id) ∧ Below w.heap.size w w' := by
  have HC := hid (changeR_any A n c l id w h)
  generalize kyE l id = ke at *
  go_enter Try.func13, Try.ntmps13
  go_wp2_with fail
  with_reducible refine HC.out.mono ?_
  rintro e w1 ⟨v1, rfl, ho1, hb1⟩
  go_wp2
  go_ret2
  exact ⟨_, rfl, ho1, hb1⟩

set_option maxRecDepth 100000 in
set_option maxHeartbeats 1000000 in
theorem changeT_any (A : Option Addr) (n c : Nat) (l : List Rtk) (id key : Int) (gl gk : Nat) (w : World) (h : Sl lay_RootKey w (· < w.heap.size) A n c l) (hkey : (Lit.int .u64 key).wf = true)
    (hl : w.cell? ⟨gl, 0, none⟩ = some (.slice A n c)) (hk : w.cell? ⟨gk, 0, none⟩ = some (.int .u64 key)) (hgl : gl < w.heap.size) (hgk : gk < w.heap.size) :
    Calls Try.prog 27 #[.slice A n c, .int .u64 id, .func (.func 28) #[] #[.pointer (some ⟨gl, 0, none⟩), .pointer (some ⟨gk, 0, none⟩)]] w fun e w' => ∃ v', e = .returned (.tuple #[v', .int .i64 (tnE l id key)]) ∧ OwnL lay_RootKey w' w.heap.size (some w.heap.size) 34 v' (tnL l id key) ∧ Below w.heap.size w w' := by
  have HL := hid h.len
  have HC := hid (live8r_any A n c l id w h)
  have HLC := hid hl
  have HKC := hid hk
  clear hl hk
  by_cases he : kyE l id = 0
  · have HN := hid (show n ≤ 64 from by rw [← HL.out]; exact (ky_ok he).1.1)
    have HT := hid (show tnE l id key = if hasK l key = true then 6 else 0 from by unfold tnE; rw [if_neg (by simpa using he)])
    have HV := hid (fun (hz : tnE l id key = 0) (k : Nat) (hk : AtF Rtk.Id l id k ∧ hitF Rtk.Id l id k = true) => tn_set hz hk.1 hk.2)
    have HX := hid (fun (k : Nat) (hk : AtF Rtk.Id l id k ∧ hitF Rtk.Id l id k = true) => (hk.1.find hk.2).1)
    rw [he] at HC
    clear he
    go_enter Try.func27, Try.ntmps27
    go_wp2_with fail
    with_reducible refine HC.out.mono ?_
    rintro e w1 ⟨k, rfl, hk, hb1⟩
    have HK := hid (hk (by simp))
    have hkl := HX.out k HK.out
    have hkn : k < n := by rw [← HL.out]; exact hkl
    clear hk
    go_wp2_with fail
    with_reducible refine (cloneR_any _ _ _ l w1 (Sl.call h hb1) (Nat.le_trans HN.out (by decide))).mono ?_
    rintro e w2 ⟨v2, rfl, ho2, hb2⟩
    have ho := ho2.flat rtk_flat (some w.heap.size)
    obtain ⟨g, cap, rfl⟩ := ho.shape (by omega)
    rw [HL.out] at ho ho2 ⊢
    have HB := bel_call hb1 hb2
    have hg2 := ho.ownG.2
    have HG := hid (Nat.le_trans hb1.size ho.ownG.1)
    obtain ⟨cs, hrep, hcs, hfz⟩ := ho.elem hkl
    obtain ⟨rfl, hw⟩ := rep_RootKey.1 hrep
    have q2 : w2.cell? ⟨g, k * 3 + 1, none⟩ = some (.int .u64 l[k].Key) := hcs 1 (by decide)
    have hf2 := hfz (k * 3 + 1)
    have HRY := hid (fun hh => turn1_yes A n c l key gl gk g (k * 3) w2 hh (Sl.call h HB) ((HB.cell (p := ⟨gl, 0, none⟩) hgl).trans HLC.out) ((HB.cell (p := ⟨gk, 0, none⟩) hgk).trans HKC.out))
    have HRN := hid (fun hh => turn1_no A n c l key gl gk g (k * 3) _ w2 hh (Sl.call h HB) ((HB.cell (p := ⟨gl, 0, none⟩) hgl).trans HLC.out) ((HB.cell (p := ⟨gk, 0, none⟩) hgk).trans HKC.out) (Nat.lt_of_lt_of_le hgk HB.size) hg2 q2 hf2)
    have HOW := hid ho
    clear hcs hfz hrep hw ho ho2 q2 hf2
    cases hh : hasK l key with
    | true =>
      have HR := hid (HRY.out hh)
      rw [hh] at HT
      have HV0 := hid (show tnL l id key = [] from if_neg (by rw [HT.out]; simp))
      clear hh HRY HRN
      go_wp2_with fail
      with_reducible refine HR.out.mono ?_
      rintro e w3 ⟨rfl, hb4⟩
      have HB3 := bel_call HB hb4
      go_wp2
      go_ret2
      exact ⟨_, by rw [HT.out]; rfl, by rw [HV0.out]; exact OwnL.nil _ _ _ _ _, HB3⟩
    | false =>
      have HR := hid (HRN.out hh)
      rw [hh] at HT
      have hz : tnE l id key = 0 := by rw [HT.out]; rfl
      have HZ := hid hz
      obtain ⟨hkl2, hkv⟩ := HV.out hz k HK.out
      have HKV := hid hkv
      clear hh hkv hz HRY HRN
      go_wp2_with fail
      with_reducible refine HR.out.mono ?_
      rintro e w3 ⟨rfl, w4, hb4, rfl⟩
      have HB3 := bel_call HB hb4
      have HO := hid (((HOW.out.keep hb4).put (i := 1) (u := .int .u64 key) (by decide) hkl (fun w S c => rtk_put1 hkey w S c)).low hb1.size)
      have HB4 := HB3.setCell (p := ⟨g, k * 3 + 1, none⟩) HG.out (.int .u64 key)
      go_wp2
      go_ret2
      exact ⟨_, by rw [HZ.out]; rfl, by rw [HKV.out]; exact HO.out, HB4⟩
  · have HT := hid (show tnE l id key = kyE l id from if_pos he)
    have HV := hid (show tnL l id key = [] from if_neg (by rw [HT.out]; exact he))
    have hne : (kyE l id != 0) = true := by simpa using he
    generalize kyE l id = ke at *
    clear he
    go_enter Try.func27, Try.ntmps27
    go_wp2_with fail
    with_reducible refine HC.out.mono ?_
    rintro e w1 ⟨k, rfl, hk, hb1⟩
    clear hk
    go_wp2
    go_ret2
    exact ⟨_, by rw [HT.out]; rfl, by rw [HV.out]; exact OwnL.nil _ _ _ _ _, hb1⟩

set_option maxRecDepth 100000 in
set_option maxHeartbeats 1000000 in
theorem rTurn_any (A : Option Addr) (n c : Nat) (l : List Rtk) (id key : Int) (w : World) (h : Sl lay_RootKey w (· < w.heap.size) A n c l) (hkey : (Lit.int .u64 key).wf = true) :
    Calls Try.prog 11 #[.slice A n c, .int .u64 id, .int .u64 key] w fun e w' => ∃ v', e = .returned (.tuple #[v', .int .i64 (tnE l id key)]) ∧ OwnL lay_RootKey w' w.heap.size (some w.heap.size) 34 v' (tnL l id key) ∧ Below w.heap.size w w' := by
  have hb0 : Below w.heap.size w ((w.alloc (Obj.cells #[.slice A n c] 22)).alloc (Obj.cells #[.int .u64 key] 23)) := bel_alloc (bel_alloc (Below.refl _ _) _) _
  have hz : ((w.alloc (Obj.cells #[.slice A n c] 22)).alloc (Obj.cells #[.int .u64 key] 23)).heap.size = w.heap.size + 2 := by simp
  have v0 : Var1 ((w.alloc (Obj.cells #[.slice A n c] 22)).alloc (Obj.cells #[.int .u64 key] 23)) w.heap.size 22 (.slice A n c) := (Var1.new w _ _).call (bel_alloc (Below.refl _ _) _)
  have v1 : Var1 ((w.alloc (Obj.cells #[.slice A n c] 22)).alloc (Obj.cells #[.int .u64 key] 23)) (w.heap.size + 1) 23 (.int .u64 key) := by
    have := Var1.new (w.alloc (Obj.cells #[.slice A n c] 22)) 23 (.int .u64 key)
    simpa using this
  have c0 := v0.c0
  have c1 := v1.c0
  have HC := hid (changeT_any A n c l id key w.heap.size (w.heap.size + 1) _ (Sl.call h hb0) hkey c0 c1 (by rw [hz]; omega) (by rw [hz]; omega))
  clear v0 v1 hz
  generalize tnE l id key = ke at *
  go_enter Try.func11, Try.ntmps11
  go_wp2_with fail
  with_reducible refine HC.out.mono ?_
  rintro e w1 ⟨v1, rfl, ho1, hb1⟩
  have HO := hid (ho1.lows (base' := w.heap.size) (lo' := w.heap.size) hb0.size hb0.size)
  have HB := bel_call hb0 hb1
  clear ho1
  go_wp2
  go_ret2
  exact ⟨_, rfl, HO.out, HB⟩
end Go.Proofs.Ytlenoiaepanejaa
