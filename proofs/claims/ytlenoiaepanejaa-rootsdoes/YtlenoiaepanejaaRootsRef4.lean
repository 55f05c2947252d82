/-
  The contracts of the document's Key, Add, Turn and Revoke of layer 8, over that of its Check.
-/
import Derived.Test.YtlenoiaepanejaaRootsRef3
namespace Go.Proofs.Ytlenoiaepanejaa
open Go.RowKit Go.WalkArith

/-- What the document's Check answers. -/
def Chk8 : Prop := ∀ (A : Option Addr) (n c : Nat) (l : List Rtk) (w : World), Sl lay_RootKey w (· < w.heap.size) A n c l →
  Calls Try.prog 19 #[.slice A n c] w fun e w' => e = .returned (.int .i64 (rkE l)) ∧ Below w.heap.size w w'
theorem rk_is {l : List Rtk} : (rkE l = 0 ∧ RtOk l) ∨ (rkE l = 1 ∧ ¬ RtOk l) := by
  unfold rkE
  by_cases h : RtOk l
  · exact .inl ⟨if_pos h, h⟩
  · exact .inr ⟨if_neg h, h⟩

set_option maxRecDepth 100000 in
set_option maxHeartbeats 2000000 in
theorem refKey8_any (HC : Chk8) (A : Option Addr) (n c : Nat) (l : List Rtk) (id : Int) (w : World) (h : Sl lay_RootKey w (· < w.heap.size) A n c l)  :
    Calls Try.prog 16 #[.slice A n c, .int .u64 id] w fun e w' => e = .returned (.tuple #[.int .u64 (kyV l id), .int .i64 (kyE l id)]) ∧ Below w.heap.size w w' := by
  have HS := hid (fun (W : World) (h' : Below w.heap.size w W) => Sl.call h h')
  go_enter Try.func16, Try.ntmps16
  go_wp2_with fail
  refine (HC _ _ _ l w h).mono ?_
  rintro e w1 ⟨rfl, hb1⟩
  have HB := hb1
  clear hb1 h
  rcases rk_is (l := l) with ⟨hE, hok⟩ | ⟨hE, hok⟩
  rotate_left
  · have HN := hid (show kyE l id = 1 from if_neg hok)
    have HV := hid (show kyV l id = 0 from if_neg (by rw [HN.out]; decide))
    rw [hE]
    clear hE hok
    go_wp2
    go_ret2
    exact ⟨by rw [HN.out, HV.out]; rfl, HB⟩
  rw [hE]
  have HK : Hid (kyE l id = (match rootF l id with | none => 5 | some r => if r.Gone = true then 13 else 0)) := hid (if_pos hok)
  have HKV : Hid (kyV l id = if kyE l id = 0 then (match rootF l id with | none => 0 | some r => r.Key) else 0) := hid rfl
  clear hE hok
  have HF := hid (refFind8_any _ _ _ l id _ (HS.out _ HB))
  go_wp2_with fail
  refine HF.out.mono ?_
  cases hf : rootF l id with
  | none =>
    rw [hf] at HK HKV
    rintro e w2 ⟨rfl, hb2⟩
    have HN := hid (show kyE l id = 5 from HK.out)
    have HV := hid (show kyV l id = 0 from by rw [HKV.out, if_neg (by rw [HN.out]; decide)])
    clear HK HKV hf HF
    simp only [Option.getD_none, Option.isSome_none]
    go_wp2
    go_ret2
    exact ⟨by rw [HN.out, HV.out]; rfl, bel_alloc (bel_call HB hb2) _⟩
  | some r =>
    rw [hf] at HK HKV
    obtain ⟨ri, rk, rg⟩ := r
    rintro e w2 ⟨rfl, hb2⟩
    simp only [Option.getD_some, Option.isSome_some]
    cases rg with
    | true =>
      have HN := hid (show kyE l id = 13 from by rw [HK.out]; rfl)
      have HV := hid (show kyV l id = 0 from by rw [HKV.out, if_neg (by rw [HN.out]; decide)])
      clear HK HKV hf HF
      go_wp2
      go_ret2
      exact ⟨by rw [HN.out, HV.out]; rfl, bel_alloc (bel_call HB hb2) _⟩
    | false =>
      have HN := hid (show kyE l id = 0 from by rw [HK.out]; rfl)
      have HV := hid (show kyV l id = rk from by rw [HKV.out, if_pos HN.out])
      clear HK HKV hf HF
      go_wp2
      go_ret2
      exact ⟨by rw [HN.out, HV.out]; rfl, bel_alloc (bel_call HB hb2) _⟩

set_option maxRecDepth 100000 in
set_option maxHeartbeats 2000000 in
theorem refAdd8_any (HC : Chk8) (A : Option Addr) (n c : Nat) (l : List Rtk) (id key : Int) (w : World) (h : Sl lay_RootKey w (· < w.heap.size) A n c l) (hid1 : (Lit.int .u64 id).wf = true) (hkey : (Lit.int .u64 key).wf = true) :
    Calls Try.prog 10 #[.slice A n c, .int .u64 id, .int .u64 key] w fun e w' => ∃ v', e = .returned (.tuple #[v', .int .i64 (adE l id key)]) ∧ OwnL lay_RootKey w' w.heap.size (some w.heap.size) 34 v' (adL l id key) ∧ Below w.heap.size w w' := by
  have HS := hid (fun (W : World) (h' : Below w.heap.size w W) => Sl.call h h')
  have HL := hid h.len
  have hc0 := h.cap
  unfold maxLen at hc0
  go_enter Try.func10, Try.ntmps10
  go_wp2_with fail
  refine (HC _ _ _ l w h).mono ?_
  rintro e w1 ⟨rfl, hb1⟩
  have HB := hb1
  clear hb1 h
  rcases rk_is (l := l) with ⟨hE, hok⟩ | ⟨hE, hok⟩
  rotate_left
  · have HN := hid (show adE l id key = 1 from if_neg hok)
    have HV := hid (show adL l id key = [] from if_neg (by rw [HN.out]; decide))
    rw [hE]
    clear hE hok
    go_wp2
    go_ret2
    exact ⟨_, by rw [HN.out]; rfl, by rw [HV.out]; exact OwnL.nil _ _ _ _ _, HB⟩
  rw [hE]
  have HK := hid (show adE l id key = (if ((rootF l id).isSome || hasK l key) = true then 6 else if l.length = 64 then 7 else 0) from if_pos hok)
  have h64 := hok.1
  rw [HL.out] at h64
  clear hE hok
  have HF := hid (refFind8_any _ _ _ l id _ (HS.out _ HB))
  go_wp2_with fail
  refine HF.out.mono ?_
  cases hf : rootF l id with
  | some r =>
    rw [hf] at HK
    rintro e w2 ⟨rfl, hb2⟩
    have HN := hid (show adE l id key = 6 from HK.out)
    have HV := hid (show adL l id key = [] from if_neg (by rw [HN.out]; decide))
    clear HK hf HF
    simp only [Option.getD_some, Option.isSome_some]
    go_wp2
    go_ret2
    exact ⟨_, by rw [HN.out]; rfl, by rw [HV.out]; exact OwnL.nil _ _ _ _ _, bel_alloc (bel_call HB hb2) _⟩
  | none =>
    rw [hf] at HK
    rintro e w2 ⟨rfl, hb2⟩
    simp only [Option.isSome_none, Bool.false_or] at HK
    simp only [Option.getD_none, Option.isSome_none]
    replace HB := bel_alloc (bel_call HB hb2) (Obj.cells #[.int .u64 0, .int .u64 0, .bool false] 34)
    clear hf HF hb2
    have HH := hid (refHas8_any _ _ _ _ l key _ (HS.out _ HB) (fun _ h => h))
    cases hq : hasK l key with
    | true =>
      rw [hq] at HK HH
      have HN := hid (show adE l id key = 6 from HK.out)
      have HV := hid (show adL l id key = [] from if_neg (by rw [HN.out]; decide))
      clear HK hq
      go_wp2_with fail
      refine HH.out.mono ?_
      rintro e w3 ⟨rfl, hb3⟩
      go_wp2
      go_ret2
      exact ⟨_, by rw [HN.out]; rfl, by rw [HV.out]; exact OwnL.nil _ _ _ _ _, bel_call HB hb3⟩
    | false =>
      rw [hq, HL.out] at HK
      rw [hq] at HH
      clear hq
      by_cases hn : n = 64
      · have HN := hid (show adE l id key = 7 from by rw [HK.out, if_neg (by decide), if_pos hn])
        have HV := hid (show adL l id key = [] from if_neg (by rw [HN.out]; decide))
        subst hn
        clear HK
        go_wp2_with fail
        refine HH.out.mono ?_
        rintro e w3 ⟨rfl, hb3⟩
        go_wp2
        go_ret2
        exact ⟨_, by rw [HN.out]; rfl, by rw [HV.out]; exact OwnL.nil _ _ _ _ _, bel_call HB hb3⟩
      · have HN := hid (show adE l id key = 0 from by rw [HK.out, if_neg (by decide), if_neg hn])
        have HV := hid (show adL l id key = withK l ⟨id, key, false⟩ from if_pos HN.out)
        have dn : ((n : Int) == 64) = false := by simp; omega
        clear HK hn
        go_wp2_with fail
        refine HH.out.mono ?_
        rintro e w3 ⟨rfl, hb3⟩
        replace HB := bel_call HB hb3
        clear hb3 HH
        have HWT := hid (refWith8_any _ _ _ l #[.int .u64 id, .int .u64 key, .bool false] ⟨id, key, false⟩ _ (HS.out _ HB) (by omega) (rep_RootKey.2 ⟨rfl, hid1, hkey⟩))
        go_wp2_with fail
        refine HWT.out.mono ?_
        rintro e w4 ⟨v4, rfl, ho4, hb4⟩
        go_wp2
        go_ret2
        exact ⟨_, by rw [HN.out]; rfl, by rw [HV.out]; exact ho4.lows HB.size HB.size, bel_call HB hb4⟩

set_option maxRecDepth 100000 in
set_option maxHeartbeats 2000000 in
theorem refTurn8_any (HC : Chk8) (A : Option Addr) (n c : Nat) (l : List Rtk) (id key : Int) (w : World) (h : Sl lay_RootKey w (· < w.heap.size) A n c l) (hid1 : (Lit.int .u64 id).wf = true) (hkey : (Lit.int .u64 key).wf = true) :
    Calls Try.prog 12 #[.slice A n c, .int .u64 id, .int .u64 key] w fun e w' => ∃ v', e = .returned (.tuple #[v', .int .i64 (tnE l id key)]) ∧ OwnL lay_RootKey w' w.heap.size (some w.heap.size) 34 v' (tnL l id key) ∧ Below w.heap.size w w' := by
  have HS := hid (fun (W : World) (h' : Below w.heap.size w W) => Sl.call h h')
  have HL := hid h.len
  have HKY := hid (refKey8_any HC A n c l id w h)
  clear h
  by_cases hE : kyE l id = 0
  rotate_left
  · have HN := hid (show tnE l id key = kyE l id from if_pos hE)
    have HV := hid (show tnL l id key = [] from if_neg (by rw [HN.out]; exact hE))
    have hne : (kyE l id != 0) = true := by simpa using hE
    clear hE
    generalize kyE l id = ke at *
    generalize kyV l id = kv at *
    go_enter Try.func12, Try.ntmps12
    go_wp2_with fail
    refine HKY.out.mono ?_
    rintro e w1 ⟨rfl, hb1⟩
    go_wp2
    go_ret2
    exact ⟨_, by rw [HN.out]; rfl, by rw [HV.out]; exact OwnL.nil _ _ _ _ _, hb1⟩
  have h64 := (ky_ok hE).1.1
  rw [HL.out] at h64
  rw [hE] at HKY
  have HK := hid (show tnE l id key = (if hasK l key = true then 6 else 0) from if_neg (by simpa using hE))
  clear hE
  generalize kyV l id = kv at *
  go_enter Try.func12, Try.ntmps12
  go_wp2_with fail
  refine HKY.out.mono ?_
  rintro e w1 ⟨rfl, hb1⟩
  have HB := hb1
  clear hb1 HKY
  have HH := hid (refHas8_any _ _ _ _ l key _ (HS.out _ HB) (fun _ h => h))
  cases hq : hasK l key with
  | true =>
    rw [hq] at HK HH
    have HN := hid (show tnE l id key = 6 from HK.out)
    have HV := hid (show tnL l id key = [] from if_neg (by rw [HN.out]; decide))
    clear HK hq
    go_wp2_with fail
    refine HH.out.mono ?_
    rintro e w3 ⟨rfl, hb3⟩
    go_wp2
    go_ret2
    exact ⟨_, by rw [HN.out]; rfl, by rw [HV.out]; exact OwnL.nil _ _ _ _ _, bel_call HB hb3⟩
  | false =>
    rw [hq] at HK HH
    have HN := hid (show tnE l id key = 0 from HK.out)
    have HV := hid (show tnL l id key = withK l ⟨id, key, false⟩ from if_pos HN.out)
    clear HK hq
    go_wp2_with fail
    refine HH.out.mono ?_
    rintro e w3 ⟨rfl, hb3⟩
    replace HB := bel_call HB hb3
    clear hb3 HH
    have HWT := hid (refWith8_any _ _ _ l #[.int .u64 id, .int .u64 key, .bool false] ⟨id, key, false⟩ _ (HS.out _ HB) (by omega) (rep_RootKey.2 ⟨rfl, hid1, hkey⟩))
    go_wp2_with fail
    refine HWT.out.mono ?_
    rintro e w4 ⟨v4, rfl, ho4, hb4⟩
    go_wp2
    go_ret2
    exact ⟨_, by rw [HN.out]; rfl, by rw [HV.out]; exact ho4.lows HB.size HB.size, bel_call HB hb4⟩

set_option maxRecDepth 100000 in
set_option maxHeartbeats 2000000 in
theorem refRevoke8_any (HC : Chk8) (A : Option Addr) (n c : Nat) (l : List Rtk) (id : Int) (w : World) (h : Sl lay_RootKey w (· < w.heap.size) A n c l) (hid1 : (Lit.int .u64 id).wf = true) (hkv : (Lit.int .u64 (kyV l id)).wf = true) :
    Calls Try.prog 14 #[.slice A n c, .int .u64 id] w fun e w' => ∃ v', e = .returned (.tuple #[v', .int .i64 (kyE l id)]) ∧ OwnL lay_RootKey w' w.heap.size (some w.heap.size) 34 v' (rvL l id) ∧ Below w.heap.size w w' := by
  have HS := hid (fun (W : World) (h' : Below w.heap.size w W) => Sl.call h h')
  have HL := hid h.len
  have HKY := hid (refKey8_any HC A n c l id w h)
  clear h
  by_cases hE : kyE l id = 0
  rotate_left
  · have HV := hid (show rvL l id = [] from if_neg hE)
    have hne : (kyE l id != 0) = true := by simpa using hE
    obtain ⟨ke, hke⟩ : ∃ z, kyE l id = z := ⟨_, rfl⟩
    rw [hke] at HKY hne ⊢
    clear hE hke
    generalize kyV l id = kv at *
    go_enter Try.func14, Try.ntmps14
    go_wp2_with fail
    refine HKY.out.mono ?_
    rintro e w1 ⟨rfl, hb1⟩
    go_wp2
    go_ret2
    exact ⟨_, rfl, by rw [HV.out]; exact OwnL.nil _ _ _ _ _, hb1⟩
  have h64 := (ky_ok hE).1.1
  rw [HL.out] at h64
  rw [hE] at HKY ⊢
  have HV := hid (show rvL l id = withK l ⟨id, kyV l id, true⟩ from if_pos hE)
  clear hE
  generalize kyV l id = kv at *
  go_enter Try.func14, Try.ntmps14
  go_wp2_with fail
  refine HKY.out.mono ?_
  rintro e w1 ⟨rfl, hb1⟩
  have HB := hb1
  clear hb1 HKY
  have HWT := hid (refWith8_any _ _ _ l #[.int .u64 id, .int .u64 kv, .bool true] ⟨id, kv, true⟩ _ (HS.out _ HB) (by omega) (rep_RootKey.2 ⟨rfl, hid1, hkv⟩))
  go_wp2_with fail
  refine HWT.out.mono ?_
  rintro e w4 ⟨v4, rfl, ho4, hb4⟩
  go_wp2
  go_ret2
  exact ⟨_, rfl, by rw [HV.out]; exact ho4.lows HB.size HB.size, bel_call HB hb4⟩
end Go.Proofs.Ytlenoiaepanejaa
