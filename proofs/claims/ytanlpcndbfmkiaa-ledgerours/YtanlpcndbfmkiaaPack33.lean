/-
  Package ledger: Open; all that the package answers.
  The walk of the law: 'ledgerOurs_walk', on the program as it landed.
  From a reading of an argument to my own words: what every row's proof uses.
-/
import Derived.Deep.QuietTactic
import Derived.Test.YtanlpcndbfmkiaaRows
import Derived.ProofKit
import Derived.OpenShut
import Derived.ShutString
import Derived.ChangeOld
import Derived.Test.YtanlpcndbfmkiaaPack1
import Derived.Test.YtanlpcndbfmkiaaPack2
import Derived.Test.YtanlpcndbfmkiaaPack3
import Derived.Test.YtanlpcndbfmkiaaPack4
import Derived.Test.YtanlpcndbfmkiaaPack5
import Derived.Test.YtanlpcndbfmkiaaPack6
import Derived.Test.YtanlpcndbfmkiaaPack7
import Derived.Test.YtanlpcndbfmkiaaPack8
import Derived.Test.YtanlpcndbfmkiaaPack9
import Derived.Test.YtanlpcndbfmkiaaPack10
import Derived.Test.YtanlpcndbfmkiaaPack11
import Derived.Test.YtanlpcndbfmkiaaPack12
import Derived.Test.YtanlpcndbfmkiaaPack13
import Derived.Test.YtanlpcndbfmkiaaPack14
import Derived.Test.YtanlpcndbfmkiaaPack15
import Derived.Test.YtanlpcndbfmkiaaPack16
import Derived.Test.YtanlpcndbfmkiaaPack17
import Derived.Test.YtanlpcndbfmkiaaPack18
import Derived.Test.YtanlpcndbfmkiaaPack19
import Derived.Test.YtanlpcndbfmkiaaPack20
import Derived.Test.YtanlpcndbfmkiaaPack21
import Derived.Test.YtanlpcndbfmkiaaPack22
import Derived.Test.YtanlpcndbfmkiaaPack23
import Derived.Test.YtanlpcndbfmkiaaPack24
import Derived.Test.YtanlpcndbfmkiaaPack25
import Derived.Test.YtanlpcndbfmkiaaPack26
import Derived.Test.YtanlpcndbfmkiaaPack27
import Derived.Test.YtanlpcndbfmkiaaPack28
import Derived.Test.YtanlpcndbfmkiaaPack29
import Derived.Test.YtanlpcndbfmkiaaPack30
import Derived.Test.YtanlpcndbfmkiaaPack31
import Derived.Test.YtanlpcndbfmkiaaPack32
namespace Go.Proofs.Ytanlpcndbfmkiaa
open Go.RowKit Go.WalkArith

/-- A slice of nothing reaches nothing. -/
theorem sl_none {α : Type} {L : Lay α} {w w' : World} {S S' : Nat → Prop} {A : Option Addr} {n c : Nat} {xs : List α} (hx : xs = []) (h : Sl L w S A n c xs) : Sl L w' S' A n c xs :=
  ⟨h.len, h.cap.1, h.cap.2, h.no, fun q => absurd q (by rw [← h.len, hx]; simp)⟩
/-- How Open ends. -/
theorem op_ways {l : List Chn} {c : Chn} : (opE l c ≠ 0 → opL l c = []) := fun h => if_neg h

set_option maxRecDepth 100000 in
set_option maxHeartbeats 4000000 in
theorem lOpen_any (A : Option Addr) (n k : Nat) (l : List Chn) (s : Array Value) (c : Chn) (w : World) (h : Sl lay_Channel w (· < w.heap.size) A n k l) (r : lay_Channel.rep w (· < w.heap.size) c s.toList) :
    Calls Try.prog 12 #[.slice A n k, .agg s] w fun e w' => ∃ v, e = .returned (.tuple #[v, .int .i64 (opE l c)]) ∧ OwnL lay_Channel w' w.heap.size (some w.heap.size) 26 v (opL l c) ∧ Below w.heap.size w w' := by
  obtain ⟨Ac, nc, kc, rfl, hw, hs⟩ := agg_Channel r
  have HL := hid h.len
  have hcap := h.cap
  unfold maxLen at hcap
  have HLC0 := hid hs.len
  have hcc := hs.cap
  unfold maxLen at hcc
  have HW := hid hw
  have HSL := hid (fun (W : World) (h' : Below w.heap.size w W) => Sl.call h h')
  have HS0 := hid (fun (W : World) (h' : Below w.heap.size w W) => Sl.call hs h')
  have HWL := hid (sl_chns h)
  have hb0 := bel_alloc (Below.refl w.heap.size w) (Obj.cells #[.int .u64 c.Id, .int .u64 c.Local, .int .u64 c.Remote, .int .u64 c.Reserve, .int .u64 c.Most, .slice Ac nc kc, .bool c.Open] 26)
  have BC := BoxC.new w c Ac nc kc
  have hz0 : (w.alloc (Obj.cells #[.int .u64 c.Id, .int .u64 c.Local, .int .u64 c.Remote, .int .u64 c.Reserve, .int .u64 c.Most, .slice Ac nc kc, .bool c.Open] 26)).heap.size = w.heap.size + 1 := by simp
  have HNO : Hid (¬ (LgOk l ∧ ChOk c ∧ c.Open = true ∧ c.Holds = []) → opE l c = 1 ∧ opL l c = []) := hid fun q => by
    have e : opE l c = 1 := if_neg q
    exact ⟨e, if_neg (by rw [e]; decide)⟩
  clear r hs h hw
  go_enter Try.func12, Try.ntmps12
  go_upto_region 1 with (fail)
  generalize w.alloc (Obj.cells #[.int .u64 c.Id, .int .u64 c.Local, .int .u64 c.Remote, .int .u64 c.Reserve, .int .u64 c.Most, .slice Ac nc kc, .bool c.Open] 26) = W0 at *
  go_wp2_with fail
  with_reducible refine (lCheck_any A n k l W0 (HSL.out _ hb0)).mono ?_
  rcases lg_two (l := l) with ⟨g, e⟩ | ⟨g, e⟩
  rotate_left
  · rw [e]
    have HE := hid (HNO.out fun q => g q.1)
    clear e g
    rintro e w1 ⟨rfl, hb1⟩
    go_wp2
    go_ret2
    exact ⟨_, by rw [HE.out.1]; rfl, by rw [HE.out.2]; exact OwnL.nil _ _ _ _ _, bel_call hb0 hb1⟩
  rw [e]
  clear e
  rintro e w1 ⟨rfl, hb1⟩
  have HB1 := bel_call hb0 hb1
  have BC1 := BC.call hb1
  have hz1 := hb1.size
  obtain ⟨p0, p1, p2, p3, p4, p5, p6⟩ := BC1.all
  clear hb1
  have HG := hid g
  clear g
  go_wp2_with fail
  with_reducible refine (cCheck_any _ c w1 (chan_in HW.out (HS0.out _ HB1) (Below.refl _ _))).mono ?_
  rcases ch_is (c := c) with ⟨ok, e⟩ | ⟨ok, e⟩
  rotate_left
  · rw [e]
    have HE := hid (HNO.out fun q => ok q.2.1)
    clear e ok
    rintro e w2 ⟨rfl, hb2⟩
    have HB2 := bel_call HB1 hb2
    obtain ⟨q0, q1, q2, q3, q4, q5, q6⟩ := (BC1.call hb2).all
    clear p0 p1 p2 p3 p4 p5 p6
    go_wp2
    go_ret2
    exact ⟨_, by rw [HE.out.1]; rfl, by rw [HE.out.2]; exact OwnL.nil _ _ _ _ _, HB2⟩
  rw [e]
  clear e
  have HOK := hid ok
  clear ok
  rintro e w2 ⟨rfl, hb2⟩
  have HB2 := bel_call HB1 hb2
  have BC2 := BC1.call hb2
  have hz2 := hb2.size
  clear p0 p1 p2 p3 p4 p5 p6 hb2
  obtain ⟨p0, p1, p2, p3, p4, p5, p6⟩ := BC2.all
  obtain ⟨o, ho⟩ : ∃ o, c.Open = o := ⟨_, rfl⟩
  rw [ho] at p6
  have HO := hid ho
  clear ho
  cases o
  · have HE := hid (HNO.out fun q => by rw [HO.out] at q; cases q.2.2.1)
    go_wp2
    go_ret2
    exact ⟨_, by rw [HE.out.1]; rfl, by rw [HE.out.2]; exact OwnL.nil _ _ _ _ _, HB2⟩
  by_cases hnc : 0 < nc
  · have HE := hid (HNO.out fun q => by have := HLC0.out; rw [q.2.2.2] at this; simp at this; omega)
    have d1 : decide ((0 : Int) < (nc : Int)) = true := by simp; omega
    have d2 : decide (0 < nc) = true := by simp; omega
    go_wp2
    go_ret2
    exact ⟨_, by rw [HE.out.1]; rfl, by rw [HE.out.2]; exact OwnL.nil _ _ _ _ _, HB2⟩
  have d1 : decide ((0 : Int) < (nc : Int)) = false := by simp; omega
  have d2 : decide (0 < nc) = false := by simp; omega
  have HNIL := hid (show c.Holds = [] from List.eq_nil_of_length_eq_zero (by rw [HLC0.out]; omega))
  have HYES := hid (show opE l c = (if (chanF l c.Id).isSome = true then 6 else if l.length = 32 then 7 else if mMax < sumC (withC l c) then 8 else 0) from if_pos ⟨HG.out, HOK.out, HO.out, HNIL.out⟩)
  clear hnc HNO
  have HU := hid (show UpF Chn.Id l from HG.out.2.2.1)
  have hn32 : n ≤ 32 := by have := HG.out.1; rw [HL.out] at this; exact this
  have hn64 : n ≤ 64 := by omega
  go_wp2_with fail
  with_reducible refine (placeC_any A n k l c.Id w2 (HSL.out _ HB2) hn64 HU.out).mono ?_
  rintro e w3 ⟨j, rfl, hat, hb3⟩
  have HB3 := bel_call HB2 hb3
  have BC3 := BC2.call hb3
  have hz3 := hb3.size
  obtain ⟨d, hd⟩ : ∃ d, hitF Chn.Id l c.Id j = d := ⟨_, rfl⟩
  rw [hd]
  clear p0 p1 p2 p3 p4 p5 p6 hb3 BC2 BC1
  cases d
  rotate_left
  · have HE := hid (show opE l c = 6 ∧ opL l c = [] from by
      obtain ⟨hjk, hfe, hf⟩ := hat.find hd
      have hf2 : (chanF l c.Id).isSome = true := by
        have : chanF l c.Id = some _ := hf
        rw [this]; rfl
      have e : opE l c = 6 := by rw [HYES.out, if_pos hf2]
      exact ⟨e, if_neg (by rw [e]; decide)⟩)
    clear hat hd
    go_wp2
    go_ret2
    exact ⟨_, by rw [HE.out.1]; rfl, by rw [HE.out.2]; exact OwnL.nil _ _ _ _ _, HB3⟩
  have HNONE := hid (show ¬ (chanF l c.Id).isSome = true from by
    have : chanF l c.Id = none := hat.none HU.out hd
    rw [this]; simp)
  have hjl : j ≤ l.length := hat.1
  have HWC := hid (hat.with_new HU.out hd c)
  have hjc : (j : Int) ≤ 4096 := by have := HL.out; omega
  clear hat hd
  by_cases h32 : n = 32
  · have HE := hid (show opE l c = 7 ∧ opL l c = [] from by
      have e : opE l c = 7 := by rw [HYES.out, if_neg HNONE.out, if_pos (by rw [HL.out]; exact h32)]
      exact ⟨e, if_neg (by rw [e]; decide)⟩)
    have d3 : ((n : Int) == 32) = true := by simp; omega
    go_wp2
    go_ret2
    exact ⟨_, by rw [HE.out.1]; rfl, by rw [HE.out.2]; exact OwnL.nil _ _ _ _ _, HB3⟩
  have d3 : ((n : Int) == 32) = false := by simp; omega
  have HYE := hid (show opE l c = (if mMax < sumC (withC l c) then 8 else 0) from by rw [HYES.out, if_neg HNONE.out, if_neg (by rw [HL.out]; exact h32)])
  have hn20 : n ≤ 1048576 := by omega
  have hl32 : l.length ≤ 32 := by rw [HL.out]; omega
  have HH20 := hid (show ∀ x ∈ l, x.Holds.length ≤ 1048576 from fun x hx => by have := (HG.out.2.1 x hx).2.2.1; omega)
  have HLC := hid (show c.Holds.length ≤ 1048576 from by rw [HNIL.out]; simp)
  have HZ3 := hid (show w.heap.size ≤ w3.heap.size from HB3.size)
  have HSC := hid (HS0.out _ HB3)
  have HALL := hid (show ∀ x ∈ withC l c, ChOk x from fun x hx => by
    rcases cwith_mem.1 hx with ⟨q, -⟩ | q
    · exact HG.out.2.1 x q
    · rw [q]; exact HOK.out)
  clear h32
  go_upto_region 8 with (fail)
  refine wp_region_held (S := fun W => Below w3.heap.size w3 W) (by kernel_rfl) ?_
  have hS0 : (fun W => Below w3.heap.size w3 W) (w3.drewN 1) := bel_drewN (Below.refl _ _) _
  change wpAnyH _ _ _ _ _ 8 (Array.replicate 8 false) _ (w3.drewN 1)
  rw [show Array.replicate 8 false = #[false, false, false, false, false, false, false, false] from rfl]
  refine wpAnyH_yes 0 (some 43) (.slice A n k) rfl rfl (by kernel_rfl) (by kernel_rfl) (by kernel_rfl) (fun _ _ _ h => h) (by rfl) (fun w' hS => by go_simp) hS0 ?_
  try simp only [Act.put, List.setIfInBounds_toArray, List.set_cons_zero, List.set_cons_succ]
  refine wpAnyH_yes 2 (some 45) (.int .i64 (j : Nat)) rfl rfl (by kernel_rfl) (by kernel_rfl) (by kernel_rfl) (fun _ _ _ h => h) (by rfl) (fun w' hS => by go_simp) hS0 ?_
  try simp only [Act.put, List.setIfInBounds_toArray, List.set_cons_zero, List.set_cons_succ]
  refine wpAnyH_yes 3 (some 46) (.agg #[.int .u64 c.Id, .int .u64 c.Local, .int .u64 c.Remote, .int .u64 c.Reserve, .int .u64 c.Most, .slice Ac nc kc, .bool c.Open]) rfl rfl (by kernel_rfl) (by kernel_rfl) (by kernel_rfl) (fun _ _ _ h => h) (by rfl) (fun w' hS => by obtain ⟨p0, p1, p2, p3, p4, p5, p6⟩ := (BC3.call hS).all; go_simp) hS0 ?_
  try simp only [Act.put, List.setIfInBounds_toArray, List.set_cons_zero, List.set_cons_succ]
  refine wpAnyH_step 1 _ (by kernel_rfl) rfl (by rfl) ?_
  go_simp
  with_reducible refine (copies_any A n k l _ (HSL.out _ (HB3.trans (hS0.mono HZ3.out))) hn20 HH20.out).mono ?_
  rintro e wA ⟨vL, rfl, hoL, hbL⟩
  have hSwA := hS0.trans (hbL.mono hS0.size)
  refine ⟨hSwA, ?_⟩
  try simp only [Act.put, List.setIfInBounds_toArray, List.set_cons_zero, List.set_cons_succ]
  refine wpAnyH_step 4 _ (by kernel_rfl) rfl (by rfl) ?_
  go_simp
  with_reducible refine (copyOf_any _ c _ (chan_in HW.out HSC.out (hSwA)) HLC.out).mono ?_
  rintro e wB ⟨v2, rfl, ⟨u, rfl, ho⟩, hbC⟩
  obtain ⟨Au, nu, cu, rfl, hsu⟩ := ho.read
  have hSwB := hSwA.trans (hbC.mono hSwA.size)
  refine ⟨hSwB, ?_⟩
  try simp only [Act.put, List.setIfInBounds_toArray, List.set_cons_zero, List.set_cons_succ]
  refine wpAnyH_step 5 _ (by kernel_rfl) rfl (by rfl) ?_
  go_simp
  have hSwC := hSwB.alloc hSwB.size (Obj.cells #[.int .u64 c.Id, .int .u64 c.Local, .int .u64 c.Remote, .int .u64 c.Reserve, .int .u64 c.Most, .slice Au nu cu, .bool c.Open] 26)
  refine ⟨hSwC, ?_⟩
  try simp only [Act.put, List.setIfInBounds_toArray, List.set_cons_zero, List.set_cons_succ]
  refine wpAnyH_step 6 _ (by kernel_rfl) rfl (by rfl) ?_
  go_simp
  have hgL : ∀ g, vL.ownBlock = some g → g < wB.heap.size := fun g hg => by
    obtain ⟨cs, q1, -⟩ := hoL
    have q := q1.lt g hg
    exact Nat.lt_of_lt_of_le q.2 hbC.size
  have HI := hid (insertC_any vL j wB.heap.size w3.heap.size l c #[.int .u64 c.Id, .int .u64 c.Local, .int .u64 c.Remote, .int .u64 c.Reserve, .int .u64 c.Most, .slice Au nu cu, .bool c.Open] (wB.alloc (Obj.cells #[.int .u64 c.Id, .int .u64 c.Local, .int .u64 c.Remote, .int .u64 c.Reserve, .int .u64 c.Most, .slice Au nu cu, .bool c.Open] 26)) ((hoL.keep hbC).keep (bel_alloc (Below.refl _ _) _)) hjl hl32 hSwC.size (heap_alloc_new wB _) (rep_Channel.2 ⟨Au, nu, cu, rfl, HW.out, sl_none HNIL.out hsu⟩) (fun e => by have := hgL _ e; omega))
  with_reducible refine HI.out.mono ?_
  rintro e wI ⟨vI, rfl, hoI, hbI⟩
  have hSI := hSwC.trans hbI
  have hBI := HB3.trans (hSI.mono HZ3.out)
  have HOI := hid (hoI.lows (base' := w.heap.size) (lo' := w.heap.size) HZ3.out HZ3.out)
  have HSI := hid hSI
  have HBI := hid hBI
  clear hoI hbI hSI hBI
  clear hoL
  refine ⟨HSI.out, ?_⟩
  try simp only [Act.put, List.setIfInBounds_toArray, List.set_cons_zero, List.set_cons_succ]
  refine wpAnyH_step 7 _ (by kernel_rfl) rfl (by rfl) ?_
  go_simp
  refine ⟨HSI.out, ?_⟩
  try simp only [Act.put, List.setIfInBounds_toArray, List.set_cons_zero, List.set_cons_succ]
  refine wpAnyH_done (by kernel_rfl) ?_ _
  obtain ⟨AI, nI, cI, rfl, hsI⟩ := HOI.out.read
  have hlI : nI ≤ 1048576 := by
    have := hsI.len
    simp at this
    omega
  have HWI := hid hsI
  clear hsI
  go_wp2_with fail
  with_reducible refine (lAll_any AI nI cI _ wI HWI.out hlI).mono ?_
  rintro e w9 ⟨v9, x9, rfl, h9, -, hb9⟩
  rw [← show withC l c = l.take j ++ [c] ++ l.drop j from HWC.out] at h9 HOI
  have hx9 := h9 HALL.out
  have HB9 := bel_call HBI.out hb9
  by_cases hsum : mMax < sumC (withC l c)
  · have HE := hid (show opE l c = 8 ∧ opL l c = [] from by
      have e : opE l c = 8 := by rw [HYE.out, if_pos hsum]
      exact ⟨e, if_neg (by rw [e]; decide)⟩)
    rw [if_neg (by omega)] at hx9
    subst hx9
    clear h9 hsum
    go_wp2
    go_ret2
    exact ⟨_, by rw [HE.out.1]; rfl, by rw [HE.out.2]; exact OwnL.nil _ _ _ _ _, HB9⟩
  · have HE := hid (show opE l c = 0 ∧ opL l c = withC l c from by
      have e : opE l c = 0 := by rw [HYE.out, if_neg hsum]
      exact ⟨e, if_pos e⟩)
    rw [if_pos (by omega)] at hx9
    subst hx9
    clear h9 hsum
    have HO9 := hid (HOI.out.keep hb9)
    go_wp2
    go_ret2
    exact ⟨_, by rw [HE.out.1]; rfl, by rw [HE.out.2]; exact HO9.out, HB9⟩
theorem chan_two : ChanTwo where
  same := fun s t c o w r1 r2 => cSame_any s t c o w r1 r2
  all := fun s c w r => cAll_any s c w r
theorem ledger_spec : LedgerSpec where
  check := fun A n k l w h => lCheck_any A n k l w h
  same := fun A A' n k n' k' l o w h1 h2 => lSame_any A A' n k n' k' l o w h1 h2
  get := fun A n k l id w h _ => lGet_any A n k l id w h
  where_ := fun A n k l hold w h hh => lWhere_any A n k l hold w h hh
  ours := fun A n k l w h => lOurs_any A n k l w h
  open_ := fun A n k l s c w h r => lOpen_any A n k l s c w h r
  close := fun A n k l id w h _ => lClose_any A n k l id w h
  push := fun A n k l id m w h _ hm => lPush_any A n k l id m w h hm
  hold := fun A n k l id hold m w h _ hh hm => lHold_any A n k l id hold m w h hh hm
  end_ := fun A n k l hold paid w h hh => lEnd_any A n k l hold paid w h hh
end Go.Proofs.Ytanlpcndbfmkiaa
namespace Go.Proofs.Ytanlpcndbfmkiaa
open Go.RowKit Go.WalkArith

theorem ledgerOurs_walk (A0 : Option Addr) (n0 c0 : Nat) (x0 : List Chn) (a1 a2 a3 : Int) (w : World) (r0 : Sl lay_Channel w (· < w.heap.size) A0 n0 c0 x0) (b1 : 0 ≤ a1 ∧ a1 ≤ 18446744073709551615) (b2 : 0 ≤ a2 ∧ a2 ≤ 18446744073709551615) (b3 : 0 ≤ a3 ∧ a3 ≤ 18446744073709551615) :
    Calls Try.prog 7 #[.slice A0 n0 c0, .int .u64 a1, .int .u64 a2, .int .u64 a3] w fun e w' => e = .returned (.bool true) ∧ Below w.heap.size w w' :=
  ledgerOurs_walkH ledger_spec A0 n0 c0 x0 a1 a2 a3 w r0 b1 b2 b3
end Go.Proofs.Ytanlpcndbfmkiaa
namespace Go.Proofs.Ytanlpcndbfmkiaa
open Go.ChangeShapes Go.WideShapes Go.ChangeAt Go.RowKit

theorem Try.own : ownKnob Try.prog.godebug = none := by kernel_rfl
theorem Try.laidOut : laidOutB Try.prog = true := by kernel_rfl

theorem rd_of_trod {H : Type} {enc : TypeId × Value → H} {P : Program} {W : World} {t e : TypeId} {k : IntKind} {a : Option Addr} {len cap : Nat} {d : DataW H} {p : List MemPlace} (ht : P.underlying t = some (.slice e)) (he : P.underlying e = some (.int k)) (hc : P.cellsOf e = 1)
    (h : DataW.Trod enc P W 0 (fun _ => true) true t (.slice a len cap) d p) : ∃ zs, Rd W W.heap.size k a len cap zs := by
  obtain ⟨fuel, hf⟩ := h
  rcases open_ints ht he hc hf with ⟨hcs, _⟩ | ⟨x, l, c, zs, hcs, _, hl, hm, hz, _, hcell, hwz⟩
  · simp [Value.cells] at hcs
    obtain ⟨rfl, rfl, rfl⟩ := hcs
    exact ⟨[], Rd.nil _ _ _⟩
  · simp [Value.cells] at hcs
    obtain ⟨rfl, rfl, rfl⟩ := hcs
    have hz' : zs.length = cap := by simpa using hz
    refine ⟨zs.take len, by rw [List.length_take]; omega, hl, hm, fun y hy => hwz y (List.mem_of_mem_take hy), by simp, fun hn => ?_⟩
    obtain ⟨b, off, spot⟩ := x
    have h0 := hcell 0 (by omega)
    have hspot : spot = none := by simpa [Addr.add] using World.cell?_spot h0
    subst hspot
    refine ⟨b, off, rfl, by simpa [Addr.add] using World.block_lt_of_cell? W _ h0, fun j hj => ?_⟩
    have := hcell j (by omega)
    rw [Addr.add_lit] at this
    rw [this, nth_take _ _ _ hj]
    rfl

end Go.Proofs.Ytanlpcndbfmkiaa
