/-
  The contract of package token's Mint.
  The contracts of package token's own types, and of Verify.
-/
import Derived.Deep.RegionHeld3
import Derived.Deep.Cut
import Derived.Test.YtgiapfenalhleaaPack1
import Derived.Test.YtgiapfenalhleaaPack2
import Derived.Test.YtgiapfenalhleaaPack3
import Derived.Test.YtgiapfenalhleaaPack4
import Derived.Test.YtgiapfenalhleaaPack5
import Derived.Test.YtgiapfenalhleaaPack6
import Derived.Test.YtgiapfenalhleaaPack7
import Derived.Test.YtgiapfenalhleaaPack8
import Derived.Test.YtgiapfenalhleaaPack9
import Derived.Test.YtgiapfenalhleaaPack10
import Derived.Test.YtgiapfenalhleaaPack11
import Derived.Test.YtgiapfenalhleaaPack12
import Derived.Test.YtgiapfenalhleaaPack13
import Derived.Test.YtgiapfenalhleaaPack14
import Derived.Test.YtgiapfenalhleaaPack15
import Derived.Test.YtgiapfenalhleaaPack16
import Derived.Test.YtgiapfenalhleaaPack17
import Derived.Test.YtgiapfenalhleaaPack18
import Derived.Test.YtgiapfenalhleaaPack19
import Derived.Test.YtgiapfenalhleaaPack20
import Derived.Test.YtgiapfenalhleaaPack21
import Derived.Test.YtgiapfenalhleaaPack22
import Derived.Test.YtgiapfenalhleaaPack23
import Derived.Test.YtgiapfenalhleaaPack24
namespace Go.Proofs.Ytgiapfenalhleaa
open Go.RowKit Go.WalkArith

set_option maxRecDepth 100000 in
set_option maxHeartbeats 4000000 in
theorem tMint_any (s1 : Array Value) (l : List Trm) (root key : Int) (w : World) (g1 : lay_Arena.rep w (· < w.heap.size) l s1.toList) (hr : (Lit.int .u64 root).wf = true) (hk : (Lit.int .u64 key).wf = true) :
    Calls Try.prog 13 #[.agg s1, .int .u64 root, .int .u64 key] w fun e w' => ∃ v' vt, e = .returned (.tuple #[.agg #[v'], vt, .int .i64 (mtE l root key)]) ∧ OwnL lay_Term w' w.heap.size (some w.heap.size) 62 v' (mtL l root key) ∧ OwnT w' w.heap.size vt (mtT l root key) ∧ Below w.heap.size w w' := by
  obtain ⟨A1, n1, c1, rfl, hA⟩ := agg_Arena g1
  clear g1
  have hb0 : Below w.heap.size w (((w.alloc (Obj.cells #[.slice A1 n1 c1] 24)).alloc (Obj.cells #[.slice none 0 0] 24)).alloc (Obj.cells #[.int .u64 0, .slice none 0 0, .int .i64 0] 28)) := bel_alloc (bel_alloc (bel_alloc (Below.refl _ _) _) _) _
  have hB3 := fun (W : World) (h : Below (w.heap.size + 3) (((w.alloc (Obj.cells #[.slice A1 n1 c1] 24)).alloc (Obj.cells #[.slice none 0 0] 24)).alloc (Obj.cells #[.int .u64 0, .slice none 0 0, .int .i64 0] 28)) W) => three_blocks h
  have hz3 : (((w.alloc (Obj.cells #[.slice A1 n1 c1] 24)).alloc (Obj.cells #[.slice none 0 0] 24)).alloc (Obj.cells #[.int .u64 0, .slice none 0 0, .int .i64 0] 28)).heap.size = w.heap.size + 3 := by simp
  have PA := hid (fun (W : World) (h : Below w.heap.size w W) => (show lay_Arena.rep W (· < W.heap.size) l #[.slice A1 n1 c1].toList from rep_Arena.2 ⟨_, _, _, rfl, Sl.call hA h⟩))
  clear hA
  go_enter Try.func13, Try.ntmps13
  go_upto_region 1 with (fail)
  generalize (((w.alloc (Obj.cells #[.slice A1 n1 c1] 24)).alloc (Obj.cells #[.slice none 0 0] 24)).alloc (Obj.cells #[.int .u64 0, .slice none 0 0, .int .i64 0] 28)) = W0 at *
  obtain ⟨q0, q1, q2⟩ := hB3 W0 (Below.refl _ _)
  have HZ3 := hid hz3
  clear hz3 hB3
  have KK := hid (fun (W : World) (h : Below W0.heap.size W0 W) => (show W.cell? ⟨w.heap.size, 0, none⟩ = some (.slice A1 n1 c1) from cell_of_one ((h.block _ (lt_of_block q0)).trans q0)))
  obtain ⟨we, hwe⟩ : ∃ z, withE l (rootT key (oct root)) = z := ⟨_, rfl⟩
  obtain ⟨wi, hwi⟩ : ∃ z, withI l (rootT key (oct root)) = z := ⟨_, rfl⟩
  obtain ⟨wl, hwl⟩ : ∃ z, withL l (rootT key (oct root)) = z := ⟨_, rfl⟩
  have WE := hid hwe
  have WI := hid hwi
  have WL := hid hwl
  clear hwe hwi hwl
  go_cut [9, 10, 11] from 12 to 21 (fun p i e wc => ∃ g v, p = .pointer (some ⟨g, 0, none⟩) ∧ i = .int .i64 wi ∧ e = .int .i64 we ∧ Var1 wc g 24 v ∧ W0.heap.size ≤ g ∧ OwnL lay_Term wc W0.heap.size (some W0.heap.size) 62 v wl ∧ Below W0.heap.size W0 wc)
  case first =>
    have HH := Below.refl W0.heap.size W0
    have k0 := KK.out _ HH
    have hbR : Below W0.heap.size W0 (W0.alloc (Obj.cells #[.int .u64 root] 25)).drew := (bel_alloc HH _).drew
    have hbV : Below W0.heap.size W0 (W0.alloc (Obj.cells #[.slice none 0 0] 24)).drew := (bel_alloc HH _).drew
    have hbVR : Below W0.heap.size W0 ((W0.alloc (Obj.cells #[.slice none 0 0] 24)).alloc (Obj.cells #[.int .u64 root] 25)).drew := (bel_alloc (bel_alloc HH _) _).drew
    have hbRV : Below W0.heap.size W0 ((W0.alloc (Obj.cells #[.int .u64 root] 25)).alloc (Obj.cells #[.slice none 0 0] 24)).drew := (bel_alloc (bel_alloc HH _) _).drew
    have R1 := rd_nums1 (w := W0) (t := 25) hr
    have R2 := rd_nums1 (w := W0.alloc (Obj.cells #[.slice none 0 0] 24)) (t := 25) hr
    have R3 := R1.kept (bel_alloc (Below.refl _ _) (Obj.cells #[.slice none 0 0] 24))
    have P1 := hid (put_any _ _ _ _ _ (R1.kept (Below.refl _ _).drew) (by decide))
    have P2 := hid (put_any _ _ _ _ _ (R2.kept (Below.refl _ _).drew) (by decide))
    have P3 := hid (put_any _ _ _ _ _ (R3.kept (Below.refl _ _).drew) (by decide))
    rw [octs_one] at P1 P2 P3
    rw [show (W0.alloc (Obj.cells #[.slice none 0 0] 24)).heap.size = W0.heap.size + 1 from by simp] at P2
    have TV : Var1 ((W0.alloc (Obj.cells #[.slice none 0 0] 24)).alloc (Obj.cells #[.int .u64 root] 25)).drew W0.heap.size 24 (.slice none 0 0) := ((Var1.new W0 24 (.slice none 0 0)).call (bel_alloc (Below.refl _ _) _)).call (Below.refl _ _).drew
    have TW : Var1 ((W0.alloc (Obj.cells #[.int .u64 root] 25)).alloc (Obj.cells #[.slice none 0 0] 24)).drew (W0.heap.size + 1) 24 (.slice none 0 0) := by
      have := (Var1.new (W0.alloc (Obj.cells #[.int .u64 root] 25)) 24 (.slice none 0 0)).call (Below.refl _ _).drew
      simpa using this
    have HTV := hid TV
    have HTW := hid TW
    clear R1 R2 R3 TV TW
    go_region_held3 (fun W => W.cell? ⟨w.heap.size, 0, none⟩ = some (.slice A1 n1 c1))
      (first | exact KK.out _ HH | exact KK.out _ HH.drew | exact KK.out _ hbR | exact KK.out _ hbV | exact KK.out _ hbVR | exact KK.out _ hbRV | exact KK.out _ HBB | exact KK.out _ (bel_alloc HBB _) | exact KK.out _ (HBB.setCell (p := ⟨W0.heap.size, 0, none⟩) (Nat.le_refl _) _) | exact KK.out _ (HBB.setCell (p := ⟨W0.heap.size + 1, 0, none⟩) (Nat.le_succ _) _) | exact KK.out _ (HBB.setCell (p := ⟨wA.heap.size, 0, none⟩) HBA.size _) | exact KK.out _ HBA | exact KK.out _ (bel_alloc HBA _) | go_keep)
      (first
        | (go_at_call 34; (with_reducible refine P1.out.mono ?_); rintro e wA ⟨vA, rfl, hoA, hbA⟩; obtain ⟨A7, n7, c7, rfl, hs7⟩ := hoA.formN; have HBA := bel_call hbR hbA)
        | (go_at_call 34; (with_reducible refine P2.out.mono ?_); rintro e wA ⟨vA, rfl, hoA, hbA⟩; obtain ⟨A7, n7, c7, rfl, hs7⟩ := hoA.formN; have HBA := bel_call hbVR hbA; have TA := HTV.out.call hbA; have tag := TA.lt)
        | (go_at_call 34; (with_reducible refine P3.out.mono ?_); rintro e wA ⟨vA, rfl, hoA, hbA⟩; obtain ⟨A7, n7, c7, rfl, hs7⟩ := hoA.formN; have HBA := bel_call hbRV hbA; have TA := HTW.out.call hbA; have tag := TA.lt)
        | (go_at_call 33; (refine (aRoot_any _ l key _ _ _ (oct root) wA (PA.out _ (bel_call hb0 HBA)) hk hs7).mono ?_); rw [WI.out, WE.out, WL.out]; rintro e wB ⟨vB, rfl, hoB, hbB⟩; obtain ⟨A8, n8, c8, rfl, hs8⟩ := hoB.read; have HBB := bel_call HBA hbB; have TB := TA.call hbB; have tb0 := TB.c0; have tbf := free_of_one TB)
        | (go_at_call 33; (refine (aRoot_any _ l key _ _ _ (oct root) wA (PA.out _ (bel_call hb0 HBA)) hk hs7).mono ?_); rw [WI.out, WE.out, WL.out]; rintro e wB ⟨vB, rfl, hoB, hbB⟩; obtain ⟨A8, n8, c8, rfl, hs8⟩ := hoB.read; have HBB := bel_call HBA hbB)
        | (go_at_call 33; (refine (aRoot_any _ l key _ _ _ (oct root) _ (PA.out _ (bel_call hb0 (bel_alloc HBA _))) hk (hs7.kept (bel_alloc (Below.refl _ _) _))).mono ?_); rw [WI.out, WE.out, WL.out]; rintro e wB ⟨vB, rfl, hoB, hbB⟩; obtain ⟨A8, n8, c8, rfl, hs8⟩ := hoB.read; have HBB := bel_call (bel_alloc HBA _) hbB; have TB := (Var1.new wA 24 (.slice none 0 0)).call hbB; have tb0 := TB.c0; have tbf := free_of_one TB))
    all_goals
      go_wp2_with fail
      go_meet
      case rel =>
        first
          | exact ⟨_, _, rfl, rfl, rfl, Var1.new _ _ _, HBB.size, (hoB.lows HBA.size HBA.size).keep (bel_alloc (Below.refl _ _) _), bel_alloc HBB _⟩
          | exact ⟨_, _, rfl, rfl, rfl, TB.set _, Nat.le_refl _, (hoB.setLow tag tag 0 _).lows HBA.size HBA.size, HBB.setCell (p := ⟨_, 0, none⟩) (Nat.le_refl _) _⟩
          | exact ⟨_, _, rfl, rfl, rfl, TB.set _, Nat.le_succ _, (hoB.setLow tag tag 0 _).lows HBA.size HBA.size, HBB.setCell (p := ⟨_, 0, none⟩) (Nat.le_succ _) _⟩
          | exact ⟨_, _, rfl, rfl, rfl, TB.set _, HBA.size, (hoB.setLow (by simp) (by simp) 0 _).lows (bel_alloc HBA _).size (bel_alloc HBA _).size, HBB.setCell (p := ⟨_, 0, none⟩) HBA.size _⟩
  case rest =>
  obtain ⟨g, v, rfl, rfl, rfl, TB, hg, ho, hb⟩ := hcut
  obtain ⟨A8, n8, c8, rfl, hs8⟩ := ho.read
  have V1 : Var1 wc (w.heap.size + 1) 24 (.slice none 0 0) := (hb.block _ (lt_of_block q1)).trans q1
  have V2 : Var3 wc (w.heap.size + 1 + 1) 28 (.int .u64 0) (.slice none 0 0) (.int .i64 0) := (hb.block _ (lt_of_block q2)).trans q2
  have hgz : w.heap.size + 3 ≤ g := by rw [← HZ3.out]; exact hg
  have HB := bel_call hb0 hb
  have a0 := V1.c0
  have af := V1.f
  have t0 := V2.c0
  have t1 := V2.c1
  have t2 := V2.c2
  have f0 := V2.f 0
  have f1 := V2.f 1
  have f2 := V2.f 2
  have z0 := TB.c0
  clear q0 q1 q2 hb0 hb hg
  by_cases he : we = 0
  · subst he
    have HT := hid (show mtT l root key = ⟨root, [], wi⟩ from by unfold mtT mtE; rw [WE.out, if_pos rfl, WI.out])
    have V1' := hid (((((V1.set (.slice A8 n8 c8)).setOther (b := w.heap.size + 1 + 1) (by omega) 0 (.int .u64 root)).setOther (b := w.heap.size + 1 + 1) (by omega) 1 (.slice none 0 0)).setOther (b := w.heap.size + 1 + 1) (by omega) 2 (.int .i64 wi)))
    have V2' := hid ((V2.setOther (b := w.heap.size + 1) (by omega) 0 (.slice A8 n8 c8)).set (.int .u64 root) (.slice none 0 0) (.int .i64 wi))
    have HO := hid (((((ho.setLow (b := w.heap.size + 1) (by rw [HZ3.out]; omega) (by rw [HZ3.out]; omega) 0 (.slice A8 n8 c8)).setLow (b := w.heap.size + 1 + 1) (by rw [HZ3.out]; omega) (by rw [HZ3.out]; omega) 0 (.int .u64 root)).setLow (b := w.heap.size + 1 + 1) (by rw [HZ3.out]; omega) (by rw [HZ3.out]; omega) 1 (.slice none 0 0)).setLow (b := w.heap.size + 1 + 1) (by rw [HZ3.out]; omega) (by rw [HZ3.out]; omega) 2 (.int .i64 wi)).lows (base' := w.heap.size) (lo' := w.heap.size) (by rw [HZ3.out]; omega) (by rw [HZ3.out]; omega))
    have HBE := hid ((((HB.setCell (p := ⟨w.heap.size + 1, 0, none⟩) (by show w.heap.size ≤ w.heap.size + 1; omega) (.slice A8 n8 c8)).setCell (p := ⟨w.heap.size + 1 + 1, 0, none⟩) (by show w.heap.size ≤ w.heap.size + 1 + 1; omega) (.int .u64 root)).setCell (p := ⟨w.heap.size + 1 + 1, 1, none⟩) (by show w.heap.size ≤ w.heap.size + 1 + 1; omega) (.slice none 0 0)).setCell (p := ⟨w.heap.size + 1 + 1, 2, none⟩) (by show w.heap.size ≤ w.heap.size + 1 + 1; omega) (.int .i64 wi))
    clear V1 V2 TB ho HB
    go_wp2
    refine bodyPost_ret_by (results_cct rfl _ _ (w.heap.size + 1) 0 rfl [.slice A8 n8 c8] _ (range1 V1'.out.c0) Try.underlying24 rfl (by kernel_rfl) (w.heap.size + 1 + 1) 0 rfl [.int .u64 root, .slice none 0 0, .int .i64 wi] _ (range3 V2'.out.c0 V2'.out.c1 V2'.out.c2) Try.underlying28 rfl (by kernel_rfl)) rfl ?_
    exact ⟨_, _, by unfold mtE; rw [WE.out]; rfl, by unfold mtL; rw [WL.out]; exact HO.out, by rw [HT.out]; exact ⟨_, rfl, OwnL.nil _ _ _ _ _⟩, HBE.out⟩
  · have HT := hid (show mtT l root key = zeroT from by unfold mtT mtE; rw [WE.out, if_neg he])
    have HWL := hid (show wl = [] from by rw [← WL.out]; unfold withL; rw [if_neg (by rw [WE.out]; exact he)])
    have hne : (we != 0) = true := by simpa using he
    have V1' := hid (((((V1.set (.slice none 0 0)).setOther (b := w.heap.size + 1 + 1) (by omega) 0 (.int .u64 0)).setOther (b := w.heap.size + 1 + 1) (by omega) 1 (.slice none 0 0)).setOther (b := w.heap.size + 1 + 1) (by omega) 2 (.int .i64 0)))
    have V2' := hid ((V2.setOther (b := w.heap.size + 1) (by omega) 0 (.slice none 0 0)).set (.int .u64 0) (.slice none 0 0) (.int .i64 0))
    have HBE := hid ((((HB.setCell (p := ⟨w.heap.size + 1, 0, none⟩) (by show w.heap.size ≤ w.heap.size + 1; omega) (.slice none 0 0)).setCell (p := ⟨w.heap.size + 1 + 1, 0, none⟩) (by show w.heap.size ≤ w.heap.size + 1 + 1; omega) (.int .u64 0)).setCell (p := ⟨w.heap.size + 1 + 1, 1, none⟩) (by show w.heap.size ≤ w.heap.size + 1 + 1; omega) (.slice none 0 0)).setCell (p := ⟨w.heap.size + 1 + 1, 2, none⟩) (by show w.heap.size ≤ w.heap.size + 1 + 1; omega) (.int .i64 0))
    clear V1 V2 TB ho HB he
    go_wp2
    refine bodyPost_ret_by (results_cct rfl _ _ (w.heap.size + 1) 0 rfl [.slice none 0 0] _ (range1 V1'.out.c0) Try.underlying24 rfl (by kernel_rfl) (w.heap.size + 1 + 1) 0 rfl [.int .u64 0, .slice none 0 0, .int .i64 0] _ (range3 V2'.out.c0 V2'.out.c1 V2'.out.c2) Try.underlying28 rfl (by kernel_rfl)) rfl ?_
    exact ⟨_, _, by unfold mtE; rw [WE.out]; rfl, by unfold mtL; rw [WL.out, HWL.out]; exact OwnL.nil _ _ _ _ _, by rw [HT.out]; exact ⟨_, rfl, OwnL.nil _ _ _ _ _⟩, HBE.out⟩
end Go.Proofs.Ytgiapfenalhleaa
namespace Go.Proofs.Ytgiapfenalhleaa
open Go.RowKit Go.WalkArith

/-- The type of a token's record, by its place. -/
def tyAt (i : Nat) : Int := if i < 2 then 1 + (i : Int) else 16 + ((i : Int) - 2)
set_option maxHeartbeats 1000000 in
theorem tyAt_any (i b : Nat) (w : World) (hc : w.cell? ⟨b, 0, none⟩ = some (.int .i64 2)) (hi : i ≤ 1000) :
    Calls Try.prog 78 #[.int .i64 (i : Int), .pointer (some ⟨b, 0, none⟩)] w fun e w' => e = .returned (.int .u64 (tyAt i)) ∧ w = w' := by
  by_cases h : i < 2
  · have HE := hid (show tyAt i = 1 + (i : Int) from if_pos h)
    have d : decide ((i : Int) < 2) = true := decide_eq_true (by omega)
    have w1 : IntKind.u64.wrap (i : Int) = (i : Int) := IntWalk.u64_in _ (by omega)
    have w2 : IntKind.u64.wrap (1 + (i : Int)) = 1 + (i : Int) := IntWalk.u64_in _ (by omega)
    go_enter Try.func78, Try.ntmps78
    go_wp2
    go_ret
    exact ⟨ret_num HE.out.symm, rfl⟩
  · have HE := hid (show tyAt i = 16 + ((i : Int) - 2) from if_neg h)
    have d : decide ((i : Int) < 2) = false := decide_eq_false (by omega)
    have w0 : IntKind.i64.wrap ((i : Int) - 2) = (i : Int) - 2 := IntWalk.i64_in _ (by omega)
    have w1 : IntKind.u64.wrap ((i : Int) - 2) = (i : Int) - 2 := IntWalk.u64_in _ (by omega)
    have w2 : IntKind.u64.wrap (16 + ((i : Int) - 2)) = 16 + ((i : Int) - 2) := IntWalk.u64_in _ (by omega)
    go_enter Try.func78, Try.ntmps78
    go_wp2
    go_ret
    exact ⟨ret_num HE.out.symm, rfl⟩
abbrev tyF (b : Nat) : Value := .func (.func 78) #[] #[.pointer (some ⟨b, 0, none⟩)]
set_option maxHeartbeats 1000000 in
theorem types_any (w : World) :
    Calls Try.prog 50 #[.int .i64 2] w fun e w' => e = .returned (tyF w.heap.size) ∧ w' = w.alloc (Obj.cells #[.int .i64 2] 3) := by
  go_enter Try.func50, Try.ntmps50
  go_wp2
  go_ret
  exact ⟨rfl, rfl⟩

theorem find_errs {l : List Trm} {key : Int} {t : Tok} : (ArOk l ∧ (findE l key (oct t.Root) (txts t.L) = 0 ∨ findE l key (oct t.Root) (txts t.L) = 5)) ∨ (¬ ArOk l ∧ findE l key (oct t.Root) (txts t.L) = 1) := by
  unfold findE
  by_cases h : ArOk l
  · refine .inl ⟨h, ?_⟩
    have hs : shortT (oct t.Root :: txts t.L) := fun x hx => by
      rw [List.mem_cons] at hx
      rcases hx with rfl | hx
      · have := oct_len9 t.Root; omega
      · unfold txts at hx
        rw [List.mem_map] at hx
        obtain ⟨c, -, rfl⟩ := hx
        have := putC_len8 c; omega
    rw [if_pos h, if_pos hs]
    by_cases q : 0 ≤ goTo l (seat l (rootT key (oct t.Root))) (txts t.L)
    · exact .inl (if_pos q)
    · exact .inr (if_neg q)
  · exact .inr ⟨h, if_neg h⟩

set_option maxRecDepth 100000 in
set_option maxHeartbeats 4000000 in
theorem tVerify_any (s1 s2 : Array Value) (l : List Trm) (key : Int) (t : Tok) (w : World) (g1 : lay_Arena.rep w (· < w.heap.size) l s1.toList) (hk : (Lit.int .u64 key).wf = true) (g2 : lay_Token.rep w (· < w.heap.size) t s2.toList) :
    Calls Try.prog 17 #[.agg s1, .int .u64 key, .agg s2] w fun e w' => e = .returned (.tuple #[.bool (vfV l key t), .int .i64 (vfE l t)]) ∧ Below w.heap.size w w' := by
  obtain ⟨A1, n1, c1, rfl, hA⟩ := agg_Arena g1
  obtain ⟨A2, n2, c2, rfl, hR, hT, hL⟩ := agg_Token g2
  clear g1 g2
  have HL := hid hL.len
  have hcap := hL.cap
  unfold maxLen at hcap
  have hb0 : Below w.heap.size w ((w.alloc (Obj.cells #[.slice A1 n1 c1] 24)).alloc (Obj.cells #[.int .u64 t.Root, .slice A2 n2 c2, .int .i64 t.Tag] 28)) := bel_alloc (bel_alloc (Below.refl _ _) _) _
  have v0 : Var1 ((w.alloc (Obj.cells #[.slice A1 n1 c1] 24)).alloc (Obj.cells #[.int .u64 t.Root, .slice A2 n2 c2, .int .i64 t.Tag] 28)) w.heap.size 24 (.slice A1 n1 c1) := heap_alloc2_old _ _ _
  have v1 : Var3 ((w.alloc (Obj.cells #[.slice A1 n1 c1] 24)).alloc (Obj.cells #[.int .u64 t.Root, .slice A2 n2 c2, .int .i64 t.Tag] 28)) (w.heap.size + 1) 28 (.int .u64 t.Root) (.slice A2 n2 c2) (.int .i64 t.Tag) := alloc2_new _ _ _
  have hz0 : ((w.alloc (Obj.cells #[.slice A1 n1 c1] 24)).alloc (Obj.cells #[.int .u64 t.Root, .slice A2 n2 c2, .int .i64 t.Tag] 28)).heap.size = w.heap.size + 2 := by simp
  have PA := hid (fun (W : World) (h : Below w.heap.size w W) => (show lay_Arena.rep W (· < W.heap.size) l #[.slice A1 n1 c1].toList from rep_Arena.2 ⟨_, _, _, rfl, Sl.call hA h⟩))
  have PT := hid (fun (W : World) (h : Below w.heap.size w W) => (show lay_Token.rep W (· < W.heap.size) t #[.int .u64 t.Root, .slice A2 n2 c2, .int .i64 t.Tag].toList from rep_Token.2 ⟨_, _, _, rfl, hR, hT, Sl.call hL h⟩))
  clear hA
  go_enter Try.func17, Try.ntmps17
  go_wp2_with fail
  generalize ((w.alloc (Obj.cells #[.slice A1 n1 c1] 24)).alloc (Obj.cells #[.int .u64 t.Root, .slice A2 n2 c2, .int .i64 t.Tag] 28)) = W0 at *
  have KK := hid (fun (W : World) (h : Below W0.heap.size W0 W) => (show W.cell? ⟨w.heap.size, 0, none⟩ = some (.slice A1 n1 c1) ∧ W.cell? ⟨w.heap.size + 1, 0, none⟩ = some (.int .u64 t.Root) ∧ W.cell? ⟨w.heap.size + 1, 1, none⟩ = some (.slice A2 n2 c2) ∧ W.cell? ⟨w.heap.size + 1, 2, none⟩ = some (.int .i64 t.Tag) from ⟨(v0.call h).c0, (v1.call h).c0, (v1.call h).c1, (v1.call h).c2⟩))
  clear v0 v1
  refine (ttexts_any _ t W0 (PT.out _ hb0)).mono ?_
  rintro e w1 ⟨vl, rfl, hol, hb1⟩
  obtain ⟨A6, n6, c6, rfl, hs6⟩ := hol.read
  clear hol
  rcases tk_is (t := t) with ⟨hE, hok⟩ | ⟨hE, hok⟩
  rotate_left
  · rw [hE]
    have HN := hid (show vfE l t = 1 ∧ vfV l key t = false from by
      rcases vf_is (l := l) (key := key) (t := t) with ⟨-, -, k⟩ | ⟨a, b, -⟩
      · exact absurd k.1 hok
      · exact ⟨a, b⟩)
    clear hE hok
    go_wp2
    go_ret2
    exact ⟨by rw [HN.out.1, HN.out.2]; rfl, bel_call hb0 hb1⟩
  rw [hE]
  rw [show ttL t = txts t.L from if_pos hok] at hs6
  have hn6 : n6 ≤ 1000 := by rw [← hs6.len]; unfold txts; rw [List.length_map]; have := hok.1.1; omega
  have HS6 := hid hs6
  clear hE hs6
  obtain ⟨fi, hfi⟩ : ∃ z, findI l key (oct t.Root) (txts t.L) = z := ⟨_, rfl⟩
  obtain ⟨fe, hfe⟩ : ∃ z, findE l key (oct t.Root) (txts t.L) = z := ⟨_, rfl⟩
  have HFE := find_errs (l := l) (key := key) (t := t)
  rw [hfe] at HFE
  have HRB := hid (show rightB l key t = decide (fe = 0 ∧ fi = t.Tag) from by unfold rightB; rw [hfi, hfe])
  have HX := hid HFE
  have HOK := hid hok
  have FI := hid hfi
  have FE := hid hfe
  clear hfi hfe HFE hok
  have KW := hid (fun (W : World) (h : Below w1.heap.size w1 W) => KK.out _ (bel_call hb1 h))
  have HH := Below.refl w1.heap.size w1
  obtain ⟨k0, k1, k2, k3⟩ := KK.out _ hb1
  have HPU := hid (put_any _ _ _ _ _ (rd_nums1 (w := w1.drewN 1) (t := 25) hR) (by decide))
  rw [octs_one] at HPU
  have hbw := bel_call hb0 hb1
  have hbx : Below w1.heap.size w1 ((w1.drewN 1).alloc (Obj.cells #[.int .u64 t.Root] 25)) := bel_alloc (bel_drewN (Below.refl _ _) 1) _
  go_upto_region 4 with (fail)
  go_region_held3 (fun W => W.cell? ⟨w.heap.size, 0, none⟩ = some (.slice A1 n1 c1) ∧ W.cell? ⟨w.heap.size + 1, 0, none⟩ = some (.int .u64 t.Root) ∧ W.cell? ⟨w.heap.size + 1, 1, none⟩ = some (.slice A2 n2 c2) ∧ W.cell? ⟨w.heap.size + 1, 2, none⟩ = some (.int .i64 t.Tag))
    (first | exact KW.out _ HH | exact KW.out _ HH.drew | exact KW.out _ hbx | exact KW.out _ HBA | exact KW.out _ HBB | go_keep)
    (first
      | (go_at_call 34; go_must (refine HPU.out.mono ?_; rintro e wA ⟨vA, rfl, hoA, hbA⟩; obtain ⟨A7, n7, c7, rfl, hs7⟩ := hoA.formN; have HBA := bel_call hbx hbA))
      | (go_at_call 45; go_must (refine (aFind_any _ l key _ _ _ (oct t.Root) _ _ _ (txts t.L) wA (PA.out _ (bel_call hbw HBA)) hk hs7.sl (Sl.call HS6.out HBA) hn6).mono ?_; rw [FI.out, FE.out]; rintro e wB ⟨rfl, hbB⟩; have HBB := bel_call HBA hbB)))
  all_goals
    have HBE := hid (bel_call hbw HBB)
    obtain ⟨i0, i1, i2, i3⟩ := KW.out _ HBB
    clear k0 k1 k2 k3
    rcases HX.out with ⟨har, h0 | h5⟩ | ⟨har, h1⟩
    · have HR := hid (show vfE l t = 0 ∧ vfV l key t = (fi == t.Tag) from by
        rcases vf_is (l := l) (key := key) (t := t) with ⟨a, b, -⟩ | ⟨-, -, k⟩
        · refine ⟨a, ?_⟩
          rw [b, HRB.out, h0, Bool.eq_iff_iff]
          simp
        · exact absurd ⟨HOK.out, har⟩ k)
      clear har
      subst h0
      generalize t.Tag = tg at *
      go_wp2
      go_ret2
      exact ⟨by rw [HR.out.1, HR.out.2]; rfl, HBE.out⟩
    · have HR := hid (show vfE l t = 0 ∧ vfV l key t = false from by
        rcases vf_is (l := l) (key := key) (t := t) with ⟨a, b, -⟩ | ⟨-, -, k⟩
        · refine ⟨a, ?_⟩
          rw [b, HRB.out, h5]
          exact decide_eq_false fun k => absurd k.1 (by decide)
        · exact absurd ⟨HOK.out, har⟩ k)
      clear har
      subst h5
      go_wp2
      go_ret2
      exact ⟨by rw [HR.out.1, HR.out.2]; rfl, HBE.out⟩
    · have HR := hid (show vfE l t = 1 ∧ vfV l key t = false from by
        rcases vf_is (l := l) (key := key) (t := t) with ⟨-, -, k⟩ | ⟨a, b, -⟩
        · exact absurd k.2 har
        · exact ⟨a, b⟩)
      clear har
      subst h1
      go_wp2
      go_ret2
      exact ⟨by rw [HR.out.1, HR.out.2]; rfl, HBE.out⟩
end Go.Proofs.Ytgiapfenalhleaa
