/-
  The contracts of package roots' live and Key.
-/
import Derived.Test.YtlenoiaepanejaaRoots2
import Derived.Test.YtlenoiaepanejaaRootsRef4
namespace Go.Proofs.Ytlenoiaepanejaa
open Go.RowKit Go.WalkArith

theorem ky_none {l : List Rtk} {id : Int} {k : Nat} (h : RtOk l) (ha : AtF Rtk.Id l id k) (hh : hitF Rtk.Id l id k = false) : kyE l id = 5 := by
  have h1 : rootF l id = none := ha.none h.2.1 hh
  unfold kyE
  rw [if_pos h, h1]
theorem ky_some {l : List Rtk} {id : Int} {k : Nat} (h : RtOk l) (ha : AtF Rtk.Id l id k) (hh : hitF Rtk.Id l id k = true) : ∃ hk : k < l.length, l[k].Id = id ∧ rootF l id = some l[k] ∧ kyE l id = if l[k].Gone = true then 13 else 0 := by
  obtain ⟨hk, h1, h2⟩ := ha.find hh
  have h2 : rootF l id = some l[k] := h2
  refine ⟨hk, h1, h2, ?_⟩
  unfold kyE
  rw [if_pos h, h2]

set_option maxRecDepth 100000 in
set_option maxHeartbeats 1000000 in
theorem live8r_any (A : Option Addr) (n c : Nat) (l : List Rtk) (id : Int) (w : World) (h : Sl lay_RootKey w (· < w.heap.size) A n c l) :
    Calls Try.prog 30 #[.slice A n c, .int .u64 id] w fun e w' => ∃ k : Nat, e = .returned (.tuple #[.int .i64 k, .int .i64 (kyE l id)]) ∧ (kyE l id = 0 → AtF Rtk.Id l id k ∧ hitF Rtk.Id l id k = true) ∧ Below w.heap.size w w' := by
  have HL := hid h.len
  rcases rk_is (l := l) with ⟨he, hok⟩ | ⟨he, hok⟩
  case inr =>
    have HK := hid (show kyE l id = 1 from if_neg hok)
    have HC := hid (rCheck_any A n c l w h)
    rw [he] at HC
    clear he hok
    go_enter Try.func30, Try.ntmps30
    go_wp2_with (go_at_call 18; go_must (refine HC.out.mono ?_; rintro e w1 ⟨rfl, hb1⟩))
    go_ret2
    exact ⟨0, by rw [HK.out]; rfl, (fun h => by rw [HK.out] at h; cases h), hb1⟩
  have HC := hid (rCheck_any A n c l w h)
  rw [he] at HC
  have HO := hid hok
  have HU := hid hok.2.1
  have hn : n ≤ 64 := by rw [← HL.out]; exact hok.1
  clear he hok
  go_enter Try.func30, Try.ntmps30
  go_wp2_with (go_at_call 18; go_must (refine HC.out.mono ?_; rintro e w1 ⟨rfl, hb1⟩))
  with_reducible refine (placeOf_any _ _ _ l id _ (Sl.call h hb1) hn HU.out).mono ?_
  rintro e w2 ⟨k, rfl, hk, hb2⟩
  have HB := bel_call hb1 hb2
  have HK := hid hk
  clear hk
  cases hh : hitF Rtk.Id l id k with
  | false =>
    have HE := hid (ky_none HO.out HK.out hh)
    clear hh
    go_wp2
    go_ret2
    exact ⟨0, by rw [HE.out]; rfl, (fun h => by rw [HE.out] at h; cases h), HB⟩
  | true =>
    have HH := hid hh
    obtain ⟨hkl, h1, h2, h3⟩ := ky_some HO.out HK.out hh
    have hkn : k < n := by rw [← HL.out]; exact hkl
    obtain ⟨b1, o1, hx1, rfl, hb1', t1, t2, t3, hw⟩ := rtk_at h hkn
    have q3 := (HB.cell (p := ⟨b1, o1 + k * 3 + 2, none⟩) hb1').trans t3
    have HE := hid h3
    clear h1 h2 h3 t1 t2 t3 hw hh
    cases hg : l[k].Gone with
    | true =>
      rw [hg] at HE q3
      go_wp2
      go_ret2
      exact ⟨0, by rw [HE.out]; rfl, (fun h => by rw [HE.out] at h; cases h), HB⟩
    | false =>
      rw [hg] at HE q3
      go_wp2
      go_ret2
      exact ⟨k, by rw [HE.out]; rfl, fun _ => ⟨HK.out, HH.out⟩, HB⟩

set_option maxRecDepth 100000 in
set_option maxHeartbeats 1000000 in
theorem rKey_any (A : Option Addr) (n c : Nat) (l : List Rtk) (id : Int) (w : World) (h : Sl lay_RootKey w (· < w.heap.size) A n c l) :
    Calls Try.prog 15 #[.slice A n c, .int .u64 id] w fun e w' => e = .returned (.tuple #[.int .u64 (kyV l id), .int .i64 (kyE l id)]) ∧ Below w.heap.size w w' := by
  have HL := hid h.len
  have HC := hid (live8r_any A n c l id w h)
  by_cases he : kyE l id = 0
  · have hv : ∀ k, AtF Rtk.Id l id k ∧ hitF Rtk.Id l id k = true → ∃ hk : k < l.length, kyV l id = l[k].Key := fun k hk => by
      obtain ⟨h1, r, h2, -, -, -, h3⟩ := ky_ok he
      obtain ⟨hk, h4, h5⟩ := hk.1.find hk.2
      have h5 : rootF l id = some l[k] := h5
      rw [h2] at h5
      injection h5 with h5
      exact ⟨hk, by rw [h3, h5]⟩
    have HV := hid hv
    rw [he] at HC ⊢
    clear he hv
    go_enter Try.func15, Try.ntmps15
    go_wp2_with fail
    with_reducible refine HC.out.mono ?_
    rintro e w1 ⟨k, rfl, hk, hb1⟩
    obtain ⟨hkl, hkv⟩ := HV.out k (hk (by simp))
    have hkn : k < n := by rw [← HL.out]; exact hkl
    obtain ⟨b1, o1, hx1, rfl, hb1', t1, t2, t3, hw⟩ := rtk_at h hkn
    have q2 := (hb1.cell (p := ⟨b1, o1 + k * 3 + 1, none⟩) hb1').trans t2
    have HKV := hid hkv
    clear hkv hk t1 t2 t3 hw
    go_wp2
    go_ret2
    exact ⟨by rw [HKV.out]; rfl, hb1⟩
  · have HV := hid (show kyV l id = 0 from if_neg he)
    have hne : (kyE l id != 0) = true := by simpa using he
    generalize kyE l id = ke at *
    clear he
    go_enter Try.func15, Try.ntmps15
    go_wp2_with (go_at_call 30; go_must (refine HC.out.mono ?_; rintro e w1 ⟨k, rfl, hk, hb1⟩))
    clear hk
    go_wp2
    go_ret2
    exact ⟨by rw [HV.out]; rfl, hb1⟩
end Go.Proofs.Ytlenoiaepanejaa
