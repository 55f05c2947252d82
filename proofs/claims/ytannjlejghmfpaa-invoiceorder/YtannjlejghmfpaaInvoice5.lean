/-
  Package invoice: what is taken out; Sweep; all that the package answers.
-/
import Derived.Test.YtannjlejghmfpaaInvoice4
namespace Go.Proofs.Ytannjlejghmfpaa
open Go.RowKit Go.WalkArith

set_option maxRecDepth 100000 in
set_option maxHeartbeats 2000000 in
theorem indexFn1I_any (K : Nat) (p1 : Value) (hE : ∀ (args : Array Value) (w : World), (callFunc K args).run Try.prog w = .ok (.enter K args) w) (C : World → Prop) (hC : ∀ W W', C W → Below W.heap.size W W' → C W') (del : Inv → Bool)
    (A : Option Addr) (n c : Nat) (l : List Inv) (w : World) (h : Sl lay_Invoice w (· < w.heap.size) A n c l) (hCw : C w)
    (hK : ∀ x ∈ l, ∀ W, C W → Calls Try.prog K #[.agg #[.int .u64 x.Hash, .int .u64 x.N, .int .u64 x.Till, .int .i64 x.State], p1] W fun e w' => e = .returned (.bool (del x)) ∧ Below W.heap.size W w') :
    Calls Try.prog 48 #[.slice A n c, .func (.func K) #[] #[p1]] w fun e w' => ∃ r : Int, e = .returned (.int .i64 r) ∧ IdxF del l r ∧ Below w.heap.size w w' := by
  have HL := hid h.len
  have hcap := h.cap
  unfold maxLen at hcap
  have HC := hid hC
  have HK := hid hK
  have HCW := hid hCw
  clear hC hK hCw
  go_enter Try.func48, Try.ntmps48
  go_wp2
  go_loopw [8] (fun i wr => ∃ j : Nat, j ≤ n ∧ i = .int .i64 j ∧ Hid (∀ x ∈ l.take j, del x = false) ∧ Below w.heap.size w wr) (fun i _ => n - (intOf i).toNat)
  case atStart => exact ⟨0, Nat.zero_le _, rfl, hid (by simp), Below.refl _ _⟩
  case round =>
    obtain ⟨j, hj, rfl, HP, hbel⟩ := hrel
    by_cases hlt : j < n
    · obtain ⟨b1, o1, hx1, rfl, hb1, t0, t1, t2, t3, hw⟩ := at_Invoice h hlt
      have q0 := (hbel.cell (p := ⟨b1, o1 + j * 4, none⟩) hb1).trans t0
      have q1 := (hbel.cell (p := ⟨b1, o1 + j * 4 + 1, none⟩) hb1).trans t1
      have q2 := (hbel.cell (p := ⟨b1, o1 + j * 4 + 2, none⟩) hb1).trans t2
      have q3 := (hbel.cell (p := ⟨b1, o1 + j * 4 + 3, none⟩) hb1).trans t3
      have HKJ := hid (HK.out _ (List.getElem_mem hx1) wr (HC.out _ _ HCW.out hbel))
      have ij : (0 : Int) ≤ (j : Int) ∧ (j : Int) < (n : Int) := by omega
      clear t0 t1 t2 t3 hw
      by_cases hd : del l[j] = true
      · have HN := hid (show IdxF del l (j : Int) from .inr ⟨j, rfl, hx1, hd, HP.out⟩)
        rw [hd] at HKJ
        clear hd
        go_wp2_with fail
        with_reducible refine HKJ.out.mono ?_
        rintro e w2 ⟨rfl, hb2⟩
        have HB := hbel.trans (hb2.mono hbel.size)
        go_wp2
        go_ret
        exact ⟨_, rfl, HN.out, HB⟩
      · have hd' : del l[j] = false := by simpa using hd
        have HN := hid (show ∀ x ∈ l.take (j + 1), del x = false from fun x hx => by
          rw [List.take_succ_eq_append_getElem hx1, List.mem_append, List.mem_singleton] at hx
          rcases hx with hx | rfl
          · exact HP.out x hx
          · exact hd')
        rw [hd'] at HKJ
        clear hd hd'
        go_wp2_with fail
        with_reducible refine HKJ.out.mono ?_
        rintro e w2 ⟨rfl, hb2⟩
        have HB := hbel.trans (hb2.mono hbel.size)
        go_wp2
        go_roundw
        case rel => exact ⟨j + 1, by omega, by go_num, HN, HB⟩
        case measure => simp [intOf]; omega
    · have HN := hid (show IdxF del l (-1) from .inl ⟨rfl, fun x hx => HP.out x (by rw [List.take_of_length_le (by rw [HL.out]; omega)]; exact hx)⟩)
      go_wp2
      go_ret
      exact ⟨_, rfl, HN.out, hbel⟩

set_option maxRecDepth 100000 in
set_option maxHeartbeats 4000000 in
theorem deleteFn1I_any (K : Nat) (p1 : Value) (hE : ∀ (args : Array Value) (w : World), (callFunc K args).run Try.prog w = .ok (.enter K args) w) (B : Nat) (C : World → Prop) (hC : ∀ W W', C W → Below B W W' → C W') (del : Inv → Bool) (lo : Option Nat)
    (A : Option Addr) (n c : Nat) (l : List Inv) (w : World) (ho : OwnL lay_Invoice w B lo 37 (.slice A n c) l) (hB : B ≤ w.heap.size) (hCw : C w)
    (hK : ∀ x ∈ l, ∀ W, C W → B ≤ W.heap.size → Calls Try.prog K #[.agg #[.int .u64 x.Hash, .int .u64 x.N, .int .u64 x.Till, .int .i64 x.State], p1] W fun e w' => e = .returned (.bool (del x)) ∧ Below W.heap.size W w') :
    Calls Try.prog 37 #[.slice A n c, .func (.func K) #[] #[p1]] w fun e w' => ∃ v', e = .returned v' ∧ OwnL lay_Invoice w' B lo 37 v' (l.filter fun x => !del x) ∧ Below B w w' := by
  have HC := hid hC
  have HK := hid hK
  have HCW := hid hCw
  clear hC hK hCw
  have hsl : Sl lay_Invoice w (· < w.heap.size) A n c l := by
    obtain ⟨A', n', c', e, hs'⟩ := ho.read
    injection e with e1 e2 e3
    subst e1 e2 e3
    exact hs'
  have hcap := hsl.cap
  unfold maxLen at hcap
  have HIX := hid (indexFn1I_any K p1 hE (fun W => C W ∧ B ≤ W.heap.size) (fun W W' q hb => ⟨HC.out _ _ q.1 (hb.mono q.2), Nat.le_trans q.2 hb.size⟩) del A n c l w hsl ⟨HCW.out, hB⟩ (fun x hx W q => HK.out x hx W q.1 q.2))
  have HLn := hsl.len
  clear hsl
  have HO := hid ho
  clear ho
  go_enter Try.func37, Try.ntmps37
  go_wp2_with fail
  with_reducible refine HIX.out.mono ?_
  rintro e w1 ⟨r, rfl, hi, hb1⟩
  have HO1 := hid (HO.out.keep hb1)
  have HB1 := hb1.mono hB
  rcases hi with ⟨rfl, hall⟩ | ⟨k, rfl, hk, hpk, hbef⟩
  · have HF := hid (show l.filter (fun x => !del x) = l from List.filter_eq_self.2 fun x hx => by rw [hall x hx]; rfl)
    clear hall
    go_wp2
    go_ret
    exact ⟨_, rfl, by rw [HF.out]; exact HO1.out, HB1⟩
  obtain ⟨g, cap, hv⟩ := HO1.out.shape (Nat.lt_of_le_of_lt (Nat.zero_le _) hk)
  simp only [Value.slice.injEq] at hv
  obtain ⟨rfl, -, rfl⟩ := hv
  have HD0 := hid (DelAt.start hk hpk hbef)
  have hkn : k < n := by omega
  have dk : ((k : Int) == -1) = false := by simp <;> omega
  have wk : IntKind.i64.wrap ((k : Int) + 1) = ((k + 1 : Nat) : Int) := IntWalk.i64_in _ (by omega)
  have hg := HO1.out.ownG
  have HSZ := hid (show B ≤ w1.heap.size from Nat.le_trans hB hb1.size)
  have HC1 := hid (HC.out _ _ HCW.out HB1)
  clear hk hpk hbef hb1
  go_wp2
  go_loopw [5, 6] (fun u v wr => ∃ (i j : Nat) (ys : List Inv), u = .int .i64 i ∧ v = .int .i64 j ∧ Hid (DelAt del l ys i j) ∧ Hid (OwnL lay_Invoice wr B lo 37 (.slice (some ⟨g, 0, none⟩) n c) ys) ∧ Below B w1 wr) (fun _ v _ => n - (intOf v).toNat)
  case atStart => exact ⟨k, k + 1, l, rfl, by first | rfl | go_num, HD0, HO1, Below.refl _ _⟩
  case round =>
    obtain ⟨i, j, ys, rfl, rfl, HD, HOR, hbel⟩ := hrel
    have hyl := HD.out.1
    have hij := HD.out.2.1
    have hjl := HD.out.2.2.1
    have HSR := hid (Nat.le_trans HSZ.out hbel.size)
    have HCR := hid (HC.out _ _ HC1.out hbel)
    by_cases hlt : j < n
    · have hjl2 : j < l.length := by omega
      obtain ⟨hy, hye⟩ := HD.out.elem hjl2
      obtain ⟨cs4, hr4, hc4, hf4⟩ := HOR.out.elem hy
      rw [hye] at hr4
      have hrw := rep_Invoice.1 hr4
      obtain ⟨rfl, hwx⟩ := hrw
      have y0 : wr.cell? ⟨g, j * 4, none⟩ = some (.int .u64 l[j].Hash) := hc4 0 (by decide)
      have y1 : wr.cell? ⟨g, j * 4 + 1, none⟩ = some (.int .u64 l[j].N) := hc4 1 (by decide)
      have y2 : wr.cell? ⟨g, j * 4 + 2, none⟩ = some (.int .u64 l[j].Till) := hc4 2 (by decide)
      have y3 : wr.cell? ⟨g, j * 4 + 3, none⟩ = some (.int .i64 l[j].State) := hc4 3 (by decide)
      have HWX := hid hwx
      have ij : (0 : Int) ≤ (j : Int) ∧ (j : Int) < (n : Int) := by omega
      have ii : (0 : Int) ≤ (i : Int) ∧ (i : Int) < (n : Int) := by omega
      have hba := bel_alloc (Below.refl wr.heap.size wr) (Obj.cells #[.int .u64 l[j].Hash, .int .u64 l[j].N, .int .u64 l[j].Till, .int .i64 l[j].State] 37)
      have V : Box (wr.alloc (Obj.cells #[.int .u64 l[j].Hash, .int .u64 l[j].N, .int .u64 l[j].Till, .int .i64 l[j].State] 37)) wr.heap.size 37 [.int .u64 l[j].Hash, .int .u64 l[j].N, .int .u64 l[j].Till, .int .i64 l[j].State] := Box.new wr _ _
      have hgr : g < wr.heap.size := HOR.out.ownG.2
      have HKJ := hid (fun (W : World) (q : C W) (z : B ≤ W.heap.size) => HK.out _ (List.getElem_mem hjl2) W q z)
      clear hc4 hf4 hr4 hwx hye
      have HOA := hid (HOR.out.keep hba)
      have HBA := hid (hbel.trans (hba.mono HSR.out))
      have HSA := hid (Nat.le_trans HSR.out hba.size)
      have HNEXT := hid (fun hp => HD.out.skip hjl2 hp)
      have HPUT := hid (fun hp => HD.out.put hjl2 hp)
      go_upto_region 8 with (fail)
      generalize wr.alloc (Obj.cells #[.int .u64 l[j].Hash, .int .u64 l[j].N, .int .u64 l[j].Till, .int .i64 l[j].State] 37) = W0 at *
      generalize wr.heap.size = gb at *
      have HCA := hid (HC.out _ _ HC1.out HBA.out)
      have p0 := V.at_ 0 rfl
      have p1 := V.at_ 1 rfl
      have p2 := V.at_ 2 rfl
      have p3 := V.at_ 3 rfl
      by_cases hd : del l[j] = true
      · have HN := hid (HNEXT.out hd)
        have HK1 := hid (HKJ.out _ HCA.out HSA.out)
        rw [hd] at HK1
        clear hd HNEXT HPUT HKJ
        go_wp2_with fail
        with_reducible refine HK1.out.mono ?_
        rintro e w3 ⟨rfl, hb3⟩
        have HO3 := hid (HOA.out.keep hb3)
        have HB3 := HBA.out.trans (hb3.mono HSA.out)
        go_wp2
        go_roundw
        case rel => exact ⟨i, j + 1, ys, rfl, by go_num, HN, HO3, HB3⟩
        case measure => simp [intOf]; omega
      · have hd' : del l[j] = false := by simpa using hd
        have HN := hid (HPUT.out hd')
        have HK1 := hid (HKJ.out _ HCA.out HSA.out)
        rw [hd'] at HK1
        clear hd hd' HNEXT HPUT HKJ
        go_wp2_with fail
        with_reducible refine HK1.out.mono ?_
        rintro e w3 ⟨rfl, hb3⟩
        have HO3 := hid (HOA.out.keep hb3)
        have HB3 := HBA.out.trans (hb3.mono HSA.out)
        replace V := V.call hb3
        clear p0 p1 p2 p3
        have p0 := V.at_ 0 rfl
        have p1 := V.at_ 1 rfl
        have p2 := V.at_ 2 rfl
        have p3 := V.at_ 3 rfl
        have hiy : i < ys.length := by omega
        obtain ⟨csi, hri, hci, hfi⟩ := HO3.out.elem hiy
        obtain ⟨rfl, -⟩ := rep_Invoice.1 hri
        have z0 : w3.cell? ⟨g, i * 4, none⟩ = some (.int .u64 ys[i].Hash) := hci 0 (by decide)
        have z1 : w3.cell? ⟨g, i * 4 + 1, none⟩ = some (.int .u64 ys[i].N) := hci 1 (by decide)
        have z2 : w3.cell? ⟨g, i * 4 + 2, none⟩ = some (.int .u64 ys[i].Till) := hci 2 (by decide)
        have z3 : w3.cell? ⟨g, i * 4 + 3, none⟩ = some (.int .i64 ys[i].State) := hci 3 (by decide)
        have f0 := hfi (i * 4)
        have f1 := hfi (i * 4 + 1)
        have f2 := hfi (i * 4 + 2)
        have f3 := hfi (i * 4 + 3)
        have HO9 := hid (HO3.out.putAll (y := l[j]) (c := [.int .u64 l[j].Hash, .int .u64 l[j].N, .int .u64 l[j].Till, .int .i64 l[j].State]) hiy (rep_Invoice.2 ⟨rfl, HWX.out⟩))
        have HB9 := hid (Below.all_ (show B ≤ g from hg.1) [.int .u64 l[j].Hash, .int .u64 l[j].N, .int .u64 l[j].Till, .int .i64 l[j].State] (i * 4) w3 HB3)
        have hsf : ∀ (w0 : World) (g0 i0 : Nat) (a0 b0 c0 d0 : Value), setFrom w0 g0 i0 [a0, b0, c0, d0] = (((w0.setCell ⟨g0, i0, none⟩ a0).setCell ⟨g0, i0 + 1, none⟩ b0).setCell ⟨g0, i0 + 2, none⟩ c0).setCell ⟨g0, i0 + 3, none⟩ d0 := fun _ _ _ _ _ _ _ => rfl
        rw [show lay_Invoice.size = 4 from rfl, hsf] at HO9
        rw [hsf] at HB9
        clear hci hfi hri hsf V hb3
        go_wp2
        go_roundw
        case rel => exact ⟨i + 1, j + 1, _, by go_num, by go_num, HN, HO9, HB9.out⟩
        case measure => simp [intOf]; omega
    · have hjn : j = n := by omega
      have HDN := hid (HD.out.done (by omega))
      have hin : i < n := by omega
      obtain ⟨vs, hcl⟩ := clear_own (c := c - i) HOR.out 22 Try.underlying22 Try.infoInv (by decide) rfl hin
      have HO9 := hid (HOR.out.cutPut (k := i) (by omega) vs)
      have HB9 := hid (Below.all_ (show B ≤ g from hg.1) vs (i * 4) wr hbel)
      rw [show lay_Invoice.size = 4 from rfl] at hcl HO9
      rw [HDN.out] at HO9
      have hne : ¬ (c = i) := by omega
      have ii : (0 : Int) ≤ (i : Int) ∧ (i : Int) ≤ (n : Int) := by omega
      have hic : i ≤ c := by omega
      go_wp2
      go_ret
      exact ⟨_, rfl, HO9.out, HB1.trans HB9.out⟩

set_option maxHeartbeats 1000000 in
theorem sweep1_any (x : Inv) (t : Int) (g1 : Nat) (w : World) (hx : x.State ≤ 3) (hc : Box w g1 23 [.int .u64 t]) :
    Calls Try.prog 35 #[.agg #[.int .u64 x.Hash, .int .u64 x.N, .int .u64 x.Till, .int .i64 x.State], .pointer (some ⟨g1, 0, none⟩)] w fun e w' => e = .returned (.bool (!keepI t x)) ∧ Below w.heap.size w w' := by
  have hb0 : Below w.heap.size w (w.alloc (Obj.cells #[.int .u64 x.Hash, .int .u64 x.N, .int .u64 x.Till, .int .i64 x.State] 37)) := bel_alloc (Below.refl _ _) _
  have V : Box (w.alloc (Obj.cells #[.int .u64 x.Hash, .int .u64 x.N, .int .u64 x.Till, .int .i64 x.State] 37)) w.heap.size 37 [.int .u64 x.Hash, .int .u64 x.N, .int .u64 x.Till, .int .i64 x.State] := Box.new w _ _
  replace hc := hc.call hb0
  have HS := hid (fun W => stateOf_any x t W)
  have HK : ((stateI x t = 4 ∧ (!keepI t x) = true) ∨ (stateI x t = 3 ∧ (!keepI t x) = true)) ∨ (stateI x t ≠ 4 ∧ stateI x t ≠ 3 ∧ (!keepI t x) = false) := by
    unfold keepI stateI
    by_cases q : lateI x t = true
    · rw [if_pos q, q]; exact .inl (.inl ⟨rfl, rfl⟩)
    · have q' : lateI x t = false := by simpa using q
      rw [if_neg q, q']
      by_cases s : x.State = 3
      · rw [s]; exact .inl (.inr ⟨rfl, rfl⟩)
      · exact .inr ⟨by omega, s, by simpa using s⟩
  obtain ⟨z, hz⟩ : ∃ z, stateI x t = z := ⟨_, rfl⟩
  rw [hz] at HK HS
  have HP := hid (show (!keepI t x) = (!keepI t x) from rfl)
  rcases HK with (⟨rfl, hk⟩ | ⟨rfl, hk⟩) | ⟨h4, h3, hk⟩
  · rw [hk]
    clear hk hz HP
    go_enter Try.func35, Try.ntmps35
    go_upto_region 1 with (fail)
    generalize w.alloc (Obj.cells #[.int .u64 x.Hash, .int .u64 x.N, .int .u64 x.Till, .int .i64 x.State] 37) = W0 at *
    have c0 := hc.at_ 0 rfl
    have p0 := V.at_ 0 rfl
    have p1 := V.at_ 1 rfl
    have p2 := V.at_ 2 rfl
    have p3 := V.at_ 3 rfl
    go_wp2_with fail
    with_reducible refine (HS.out _).mono ?_
    rintro e w2 ⟨rfl, hb2⟩
    go_wp2
    go_ret
    exact ⟨rfl, bel_call hb0 hb2⟩
  · rw [hk]
    clear hk hz HP
    go_enter Try.func35, Try.ntmps35
    go_upto_region 1 with (fail)
    generalize w.alloc (Obj.cells #[.int .u64 x.Hash, .int .u64 x.N, .int .u64 x.Till, .int .i64 x.State] 37) = W0 at *
    have c0 := hc.at_ 0 rfl
    have p0 := V.at_ 0 rfl
    have p1 := V.at_ 1 rfl
    have p2 := V.at_ 2 rfl
    have p3 := V.at_ 3 rfl
    go_wp2_with fail
    with_reducible refine (HS.out _).mono ?_
    rintro e w2 ⟨rfl, hb2⟩
    go_wp2
    go_ret
    exact ⟨rfl, bel_call hb0 hb2⟩
  · rw [hk]
    have d4 : (z == 4) = false := by simpa using h4
    have d3 : (z == 3) = false := by simpa using h3
    clear hk hz HP h4 h3
    go_enter Try.func35, Try.ntmps35
    go_upto_region 1 with (fail)
    generalize w.alloc (Obj.cells #[.int .u64 x.Hash, .int .u64 x.N, .int .u64 x.Till, .int .i64 x.State] 37) = W0 at *
    have c0 := hc.at_ 0 rfl
    have p0 := V.at_ 0 rfl
    have p1 := V.at_ 1 rfl
    have p2 := V.at_ 2 rfl
    have p3 := V.at_ 3 rfl
    go_wp2_with fail
    with_reducible refine (HS.out _).mono ?_
    rintro e w2 ⟨rfl, hb2⟩
    go_wp2
    go_ret
    exact ⟨rfl, bel_call hb0 hb2⟩

set_option maxRecDepth 100000 in
set_option maxHeartbeats 4000000 in
theorem iSweep_any (A : Option Addr) (n k : Nat) (l : List Inv) (t : Int) (w : World) (hs : Sl lay_Invoice w (· < w.heap.size) A n k l) :
    Calls Try.prog 17 #[.slice A n k, .int .u64 t] w fun e w' => ∃ v, e = .returned (.tuple #[v, .int .i64 (inE l)]) ∧ OwnL lay_Invoice w' w.heap.size (some w.heap.size) 37 v (swL l t) ∧ Below w.heap.size w w' := by
  have HL := hid hs.len
  have hcap := hs.cap
  unfold maxLen at hcap
  have hb0 : Below w.heap.size w (w.alloc (Obj.cells #[.int .u64 t] 23)) := bel_alloc (Below.refl _ _) _
  have V : Box (w.alloc (Obj.cells #[.int .u64 t] 23)) w.heap.size 23 [.int .u64 t] := Box.new w _ _
  have HSL := hid (fun (W : World) (h' : Below w.heap.size w W) => Sl.call hs h')
  have HZ := hid (show (w.alloc (Obj.cells #[.int .u64 t] 23)).heap.size = w.heap.size + 1 from by simp)
  rcases in_two (l := l) with ⟨g, e⟩ | ⟨g, e⟩
  rotate_left
  · have HE := hid (show swL l t = [] from if_neg g)
    have HC := hid (fun (W : World) (h' : Below w.heap.size w W) => iCheck_any A n k l W (HSL.out _ h'))
    rw [e] at HC ⊢
    clear e g
    go_enter Try.func17, Try.ntmps17
    go_upto_region 1 with (fail)
    generalize w.alloc (Obj.cells #[.int .u64 t] 23) = W0 at *
    go_wp2_with fail
    with_reducible refine (HC.out _ hb0).mono ?_
    rintro e w1 ⟨rfl, hb1⟩
    have HB1 := bel_call hb0 hb1
    go_wp2
    go_ret2
    exact ⟨_, rfl, by rw [HE.out]; exact OwnL.nil _ _ _ _ _, HB1⟩
  have HE := hid (show swL l t = l.filter fun x => !(!keepI t x) from by rw [swL, if_pos g]; congr 1; funext x; simp)
  have HC := hid (fun (W : World) (h' : Below w.heap.size w W) => iCheck_any A n k l W (HSL.out _ h'))
  rw [e] at HC ⊢
  have HM := hid (fun x (hx : x ∈ l) => (g.2.2 x hx).2.2.2)
  have hn : n ≤ 256 := by rw [← HL.out]; exact g.1
  clear e g
  go_enter Try.func17, Try.ntmps17
  go_upto_region 1 with (fail)
  generalize w.alloc (Obj.cells #[.int .u64 t] 23) = W0 at *
  go_wp2_with fail
  with_reducible refine (HC.out _ hb0).mono ?_
  rintro e w1 ⟨rfl, hb1⟩
  have HB1 := bel_call hb0 hb1
  have hz1 := hb1.size
  rw [HZ.out] at hz1
  replace V := V.call hb1
  clear hb1
  go_wp2_with fail
  with_reducible refine (cloneI_any A n k l _ (HSL.out _ HB1) (by omega)).mono ?_
  rintro e w2 ⟨v2, rfl, ho2, hb2⟩
  have HB2 := bel_call HB1 hb2
  obtain ⟨A2, n2, c2, rfl, -⟩ := ho2.read
  replace V := V.call hb2
  have HD := hid (fun W q => (deleteFn1I_any 35 (.pointer (some ⟨w.heap.size, 0, none⟩)) (fun args w => enter_any Try.func35 (by kernel_rfl) (by rfl) args w) w1.heap.size (fun W => Box W w.heap.size 23 [.int .u64 t]) (fun W W' q hb => q.keep hb (by omega)) (fun x => !keepI t x) none A2 n2 c2 l W q))
  have HD2 := hid (HD.out _ ho2 hb2.size V (fun x hx W q _ => sweep1_any x t w.heap.size W (HM.out x hx) q))
  clear HD V ho2
  go_wp2_with fail
  with_reducible refine HD2.out.mono ?_
  rintro e w3 ⟨v3, rfl, ho3, hb3⟩
  have HB3 := HB2.trans (hb3.mono (by omega))
  go_wp2
  go_ret2
  exact ⟨_, rfl, by rw [HE.out]; exact (ho3.flat flat_Inv (some w.heap.size)).low (by omega), HB3⟩

theorem invoice_spec : InvoiceSpec where
  check := fun A n k l w h => iCheck_any A n k l w h
  same := fun A A' n k n' k' l o w h1 h2 => sameI_any A A' n k n' k' l o w h1 h2
  state := fun A n k l h t w hs _ _ => iState_any A n k l h t w hs
  create := fun A n k l h m t w hs a b c => iCreate_any A n k l h m t w hs a b c
  cancel := fun A n k l h t w hs _ _ => iCancel_any A n k l h t w hs
  pay := fun A n k l h m t w hs _ _ _ => iPay_any A n k l h m t w hs
  sweep := fun A n k l t w hs _ => iSweep_any A n k l t w hs
end Go.Proofs.Ytannjlejghmfpaa
