/-
  The contract of the document's own With of layer 2 (its records' octets may be those handed in).
-/
import Derived.Test.YtajgjalcomhhcaaTlvRefFind
import Derived.Test.YtajgjalcomhhcaaTlvRefGet
import Derived.Test.YtajgjalcomhhcaaStep
namespace Go.Proofs.Ytajgjalcomhhcaa
open Go.RowKit Go.WalkArith

set_option maxRecDepth 100000 in
set_option maxHeartbeats 1000000 in
theorem refWith_any (A : Option Addr) (n c : Nat) (l : List Rec) (s : Array Value) (r : Rec) (w : World) (hr : Sl lay_Record w (· < w.heap.size) A n c l) (hs : lay_Record.rep w (· < w.heap.size) r s.toList) :
    Calls Try.prog 25 #[.slice A n c, .agg s] w fun e w' => ∃ v', e = .returned (.tuple #[v', .int .i64 (wE l r)]) ∧ OwnL lay_Record w' w.heap.size none 36 v' (wL l r) ∧ Below w.heap.size w w' := by
  have hcap := hr.cap
  unfold maxLen at hcap
  have HL := hid hr.len
  obtain ⟨A1, n1, c1, hcs, hT, hV⟩ := rep_Record.1 hs
  obtain rfl : s = #[.int .u64 r.T, .slice A1 n1 c1] := Array.ext' hcs
  have R := hV.rd (B := w.heap.size) fun _ h => h
  have hVl := hid hV.len
  have hcap1 := hV.cap
  unfold maxLen at hcap1
  have hb0 : Below w.heap.size w (w.alloc (Obj.cells #[.int .u64 r.T, .slice A1 n1 c1] 36)) := bel_alloc (Below.refl _ _) _
  have hr0 := hr.call hb0
  have R0 := (R.below hb0).more hb0.size
  have q0 : (w.alloc (Obj.cells #[.int .u64 r.T, .slice A1 n1 c1] 36)).cell? ⟨w.heap.size, 0, none⟩ = some (.int .u64 r.T) := by rw [World.cell?_alloc_at _ _ _ _ rfl]; rfl
  have q1 : (w.alloc (Obj.cells #[.int .u64 r.T, .slice A1 n1 c1] 36)).cell? ⟨w.heap.size, 1, none⟩ = some (.slice A1 n1 c1) := by rw [World.cell?_alloc_at _ _ _ _ rfl]; rfl
  have hg0 : w.heap.size < (w.alloc (Obj.cells #[.int .u64 r.T, .slice A1 n1 c1] 36)).heap.size := by simp
  clear hs R hV hr
  by_cases hm : MayBe l
  case neg =>
    have HC := hid (chk_no hm)
    have HE := hid (show wE l r = 1 from if_neg fun h => hm h.1)
    have HW := hid (show wL l r = [] from if_neg fun h => hm h.1)
    rw [HE.out, HW.out]
    clear hm
    go_enter Try.func25, Try.ntmps25
    go_wp2_with fail
    generalize w.alloc (Obj.cells #[.int .u64 r.T, .slice A1 n1 c1] 36) = W0 at *
    with_reducible refine (check_any _ _ _ _ _ hr0).mono ?_
    rw [HC.out]
    rintro e w1 ⟨rfl, hb1⟩
    have q1' := (hb1.cell (p := ⟨w.heap.size, 1, none⟩) hg0).trans q1
    go_wp2
    go_ret2
    exact ⟨_, rfl, OwnL.nil _ _ _ _ _, bel_call hb0 hb1⟩
  have HC := hid (chk_ok hm)
  have hn64 : n ≤ 64 := by rw [← HL.out]; exact hm.1
  by_cases hbig : 4096 < n1
  case pos =>
    have HE := hid (show wE l r = 1 from if_neg fun h => by have := hVl.out; omega)
    have HW := hid (show wL l r = [] from if_neg fun h => by have := hVl.out; omega)
    rw [HE.out, HW.out]
    have hbig' : (4096 : Int) < (n1 : Int) := by omega
    clear hm
    go_enter Try.func25, Try.ntmps25
    go_wp2_with fail
    generalize w.alloc (Obj.cells #[.int .u64 r.T, .slice A1 n1 c1] 36) = W0 at *
    with_reducible refine (check_any _ _ _ _ _ hr0).mono ?_
    rw [HC.out]
    rintro e w1 ⟨rfl, hb1⟩
    have q1' := (hb1.cell (p := ⟨w.heap.size, 1, none⟩) hg0).trans q1
    go_wp2
    go_ret2
    exact ⟨_, rfl, OwnL.nil _ _ _ _ _, bel_call hb0 hb1⟩
  have HE := hid (show wE l r = woE l r from if_pos ⟨hm, by have := hVl.out; omega⟩)
  have HW := hid (show wL l r = woL l r from if_pos ⟨hm, by have := hVl.out; omega⟩)
  rw [HE.out, HW.out]
  have hbig' : decide ((4096 : Int) < (n1 : Int)) = false := by simp; omega
  clear hm
  go_enter Try.func25, Try.ntmps25
  go_wp2_with fail
  generalize w.alloc (Obj.cells #[.int .u64 r.T, .slice A1 n1 c1] 36) = W0 at *
  with_reducible refine (check_any _ _ _ _ _ hr0).mono ?_
  rw [HC.out]
  rintro e w1 ⟨rfl, hb1⟩
  have q1' := (hb1.cell (p := ⟨w.heap.size, 1, none⟩) hg0).trans q1
  go_wp2
  clear q1'
  go_loopw [6, 22] (fun u i wr => ∃ j : Nat, j ≤ n ∧ i = .int .i64 j ∧ OwnL lay_Record wr W0.heap.size none 36 u (ltT (l.take j) r.T) ∧ Below W0.heap.size W0 wr) (fun _ i _ => n - (intOf i).toNat)
  case atStart => exact ⟨0, Nat.zero_le _, rfl, OwnL.nil _ _ _ _ _, hb1⟩
  case round =>
    obtain ⟨j, hj, rfl, hown, hbel⟩ := hrel
    have hsz := hbel.size
    have p0 := (hbel.cell (p := ⟨w.heap.size, 0, none⟩) hg0).trans q0
    have hgw : w.heap.size < wr.heap.size := by omega
    have p0a : ∀ o, (wr.alloc o).cell? ⟨w.heap.size, 0, none⟩ = some (.int .u64 r.T) := fun o => (World.cell?_alloc_past _ _ _ hgw).trans p0
    have hll : (ltT (l.take j) r.T).length ≤ 64 := Nat.le_trans (ltT_len _ _) (Nat.le_trans (List.length_take_le _ _) (by omega))
    by_cases hlt : j < n
    · obtain ⟨b, off, A', n', c', hx, rfl, hb, h1, h2, hTb, hV⟩ := rec_at hr0 hlt
      have p1 := (hbel.cell (p := ⟨b, off + j * 2, none⟩) hb).trans h1
      have p2 := (hbel.cell (p := ⟨b, off + j * 2 + 1, none⟩) hb).trans h2
      clear h1 h2
      by_cases ht : l[j].T < r.T
      · have HS := hid (ltT_yes hx ht)
        have hWW : Below wr.heap.size wr ((wr.alloc (Obj.cells #[.int .u64 l[j].T, .slice A' n' c'] 36)).alloc (Obj.cells #[.int .u64 l[j].T, .slice A' n' c'] 36)) := bel_alloc (bel_alloc (Below.refl _ _) _) _
        have hWS := rep_Record.2 ⟨A', n', c', rfl, wf_u64 hTb, hV.keep fun _ hp => hbel.cell hp⟩
        have hEl : ∀ b, b < W0.heap.size → Els wr none u6 b := fun b hb => ⟨trivial, Nat.lt_of_lt_of_le hb hsz, fun he => by have := hown.ge he.symm; omega⟩
        go_wp2_with (at_builtin; go_must (refine wpList_pushG rfl (.tmp 31) (.tmp 33) 22 rfl W0.heap.size none 36 _ 32 Try.underlying22 Try.infoRec rfl (by decide) u6 (ltT (l.take j) r.T) l[j] #[.int .u64 l[j].T, .slice A' n' c'] (· < W0.heap.size) (wr.heap.size + 1) rfl rfl hWW (alloc2_new _ _ _) hown hWS hEl hsz (by omega) (by unfold maxLen; omega) ?_; intro v3 w3 hown3 hext3))
        go_roundw
        case rel => exact ⟨j + 1, by omega, by go_num, by rw [HS.out]; exact hown3, (hbel.trans (hWW.mono hsz)).trans ((hown.keep hWW).below hext3 (Nat.le_trans hsz hWW.size))⟩
        case measure => simp [intOf]; omega
      · have HS := hid (ltT_no hx ht)
        have hd : decide (l[j].T < r.T) = false := by simpa using ht
        clear ht
        go_wp2
        go_roundw
        case rel => exact ⟨j + 1, by omega, by go_num, by rw [HS.out]; exact hown.keep (bel_alloc (Below.refl _ _) _), by (repeat (first | exact Below.refl _ _ | refine Below.drew ?_ | refine bel_drewN ?_ _ | refine bel_alloc ?_ _ | refine bel_call ?_ (by assumption)))⟩
        case measure => simp [intOf]; omega
    · have HTE := hid (show l.take j = l from List.take_of_length_le (by rw [HL.out]; omega))
      rw [HTE.out] at hown hll
      have p1 := (hbel.cell (p := ⟨w.heap.size, 1, none⟩) hg0).trans q1
      have R1 := R0.below hbel
      have hn1 : n1 ≤ 4096 := by omega
      have hElF : ∀ (w5 : World) (b : Nat), From w5 wr.heap.size b → Els w5 none u6 b := fun w5 b hb => ⟨trivial, hb.2.1, fun he => by have h1 := hown.lt he.symm; have h2 := hb.1; omega⟩
      have hll1 : ((ltT l r.T).length + 1) * 32 ≤ 140737488355328 := by omega
      have hll2 : (ltT l r.T).length + 1 ≤ maxLen := by unfold maxLen; omega
      go_wp2_with fail
      go_region_held3 (fun w' => w'.cell? ⟨w.heap.size, 0, none⟩ = some (.int .u64 r.T) ∧ w'.cell? ⟨w.heap.size, 1, none⟩ = some (.slice A1 n1 c1)) (first | exact ⟨p0, p1⟩ | exact ⟨P0, P1⟩ | exact ⟨Q0, Q1⟩ | exact ⟨(World.cell?_alloc_past _ _ _ hz5).trans P0, (World.cell?_alloc_past _ _ _ hz5).trans P1⟩)
        (first
          | (refine step_cat (by rfl) (.const (.slice none 0 0)) (.tmp 40) 23 (by rfl) wr.heap.size 5 .u8 1 Try.underlying23 Try.infoU8 (.slice none 0 0) [] W0.heap.size A1 n1 c1 r.V (by rfl) (by rfl) (Own.nil _ _ _ _) R1 (Nat.le_refl _) (by simp; omega) (by simp; omega) ?_; intro v5 w5 hown5 hext5; obtain ⟨A5, n5, c5, rfl, hs5⟩ := hown5.slI; have hb5 : Below wr.heap.size wr w5 := (Below.refl wr.heap.size wr).drew.trans hext5.of_nil; have P0 := (hb5.cell (p := ⟨w.heap.size, 0, none⟩) hgw).trans p0; have P1 := (hb5.cell (p := ⟨w.heap.size, 1, none⟩) hgw).trans p1; have hz5 : w.heap.size < w5.heap.size := Nat.lt_of_lt_of_le hgw hb5.size)
          | (refine step_pushL (w := w5) (by rfl) (.tmp 36) (.tmp 43) 22 (by rfl) W0.heap.size none 36 _ 32 Try.underlying22 Try.infoRec rfl (by decide) u6 (ltT l r.T) r #[.int .u64 r.T, .slice A5 n5 c5] (From w5 wr.heap.size) w5.heap.size (by rfl) (by rfl) (bel_alloc (Below.refl _ _) _) (heap_alloc_new _ _) (hown.keep hb5) (rep_Record.2 ⟨A5, n5, c5, rfl, hT, hs5⟩) (hElF w5) (Nat.le_trans hsz hb5.size) hll1 hll2 ?_; intro v6 w6 hown6 hext6; have hb6 : Below W0.heap.size W0 w6 := ((hbel.trans (hb5.mono hsz)).alloc (Nat.le_trans hsz hb5.size) _).trans (((hown.keep hb5).keep (bel_alloc (Below.refl _ _) _)).below hext6 (Nat.le_trans (Nat.le_trans hsz hb5.size) (bel_alloc (Below.refl _ _) _).size)); have Q0 := (hb6.cell (p := ⟨w.heap.size, 0, none⟩) hg0).trans q0; have Q1 := (hb6.cell (p := ⟨w.heap.size, 1, none⟩) hg0).trans q1))
      have hll6 : (ltT l r.T).length ≤ 64 := hll
      clear hll hown p0 p0a p1 P0 P1 Q0 Q1 hsz hgw hElF hll1 hll2 hown5 hs5 hext5 hext6 hz5 hb5 R1 hbel HTE
      go_wp2
      go_loopw [6, 47] (fun u i wr => ∃ j : Nat, j ≤ n ∧ i = .int .i64 j ∧ OwnL lay_Record wr W0.heap.size none 36 u (ltT l r.T ++ [r] ++ gtT (l.take j) r.T) ∧ Below W0.heap.size W0 wr) (fun _ i _ => n - (intOf i).toNat)
      case atStart => exact ⟨0, Nat.zero_le _, rfl, by rw [List.take_zero, show gtT [] r.T = [] from rfl, List.append_nil]; exact hown6, hb6⟩
      case round =>
        obtain ⟨j, hj, rfl, hown, hbel⟩ := hrel
        have hsz := hbel.size
        have p0 := (hbel.cell (p := ⟨w.heap.size, 0, none⟩) hg0).trans q0
        have hgw : w.heap.size < wr.heap.size := by omega
        have p0a : ∀ o, (wr.alloc o).cell? ⟨w.heap.size, 0, none⟩ = some (.int .u64 r.T) := fun o => (World.cell?_alloc_past _ _ _ hgw).trans p0
        have hll : (ltT l r.T ++ [r] ++ gtT (l.take j) r.T).length ≤ 129 := by
          have h1 := gtT_len (l.take j) r.T
          have h2 := List.length_take_le j l
          simp only [List.length_append, List.length_singleton]
          omega
        by_cases hlt : j < n
        · obtain ⟨b, off, A', n', c', hx, rfl, hb, h1, h2, hTb, hV⟩ := rec_at hr0 hlt
          have p1 := (hbel.cell (p := ⟨b, off + j * 2, none⟩) hb).trans h1
          have p2 := (hbel.cell (p := ⟨b, off + j * 2 + 1, none⟩) hb).trans h2
          clear h1 h2
          by_cases ht : r.T < l[j].T
          · have HS := hid (show ltT l r.T ++ [r] ++ gtT (l.take (j + 1)) r.T = (ltT l r.T ++ [r] ++ gtT (l.take j) r.T) ++ [l[j]] from by rw [gtT_yes hx ht]; simp only [List.append_assoc])
            have hWW : Below wr.heap.size wr ((wr.alloc (Obj.cells #[.int .u64 l[j].T, .slice A' n' c'] 36)).alloc (Obj.cells #[.int .u64 l[j].T, .slice A' n' c'] 36)) := bel_alloc (bel_alloc (Below.refl _ _) _) _
            have hWS := rep_Record.2 ⟨A', n', c', rfl, wf_u64 hTb, hV.keep fun _ hp => hbel.cell hp⟩
            have hEl : ∀ b, b < W0.heap.size → Els wr none u6 b := fun b hb => ⟨trivial, Nat.lt_of_lt_of_le hb hsz, fun he => by have := hown.ge he.symm; omega⟩
            generalize hG : ltT l r.T ++ [r] ++ gtT (l.take j) r.T = ac at *
            have HG := hid hG
            clear hG
            go_wp2_with (at_builtin; go_must (refine wpList_pushG rfl (.tmp 56) (.tmp 58) 22 rfl W0.heap.size none 36 _ 32 Try.underlying22 Try.infoRec rfl (by decide) u6 ac l[j] #[.int .u64 l[j].T, .slice A' n' c'] (· < W0.heap.size) (wr.heap.size + 1) rfl rfl hWW (alloc2_new _ _ _) hown hWS hEl hsz (by omega) (by unfold maxLen; omega) ?_; intro v3 w3 hown3 hext3))
            go_roundw
            case rel => exact ⟨j + 1, by omega, by go_num, by rw [HS.out]; exact hown3, (hbel.trans (hWW.mono hsz)).trans ((hown.keep hWW).below hext3 (Nat.le_trans hsz hWW.size))⟩
            case measure => simp [intOf]; omega
          · have HS := hid (gtT_no hx ht)
            have hd : decide (r.T < l[j].T) = false := by simpa using ht
            clear ht
            go_wp2
            go_roundw
            case rel => exact ⟨j + 1, by omega, by go_num, by rw [HS.out]; exact hown.keep (bel_alloc (Below.refl _ _) _), by (repeat (first | exact Below.refl _ _ | refine Below.drew ?_ | refine bel_drewN ?_ _ | refine bel_alloc ?_ _ | refine bel_call ?_ (by assumption)))⟩
            case measure => simp [intOf]; omega
        · have HTE := hid (show l.take j = l from List.take_of_length_le (by rw [HL.out]; omega))
          rw [HTE.out] at hown hll
          rw [show ltT l r.T ++ [r] ++ gtT l r.T = putIn l r from rfl] at hown hll
          obtain ⟨Au, nu, cu, rfl, hu⟩ := hown.read
          have hul := hu.len
          by_cases h64 : (putIn l r).length ≤ 64
          · have HO := hid (show woL l r = putIn l r from if_pos h64)
            have HO2 := hid (show woE l r = 0 from if_pos h64)
            have hd : decide ((64 : Int) < (nu : Int)) = false := by simp; omega
            clear h64 hul
            go_wp2
            go_ret2
            exact ⟨_, by rw [HO2.out]; rfl, by rw [HO.out]; exact hown.low (by omega), bel_call hb0 hbel⟩
          · have HO := hid (show woL l r = [] from if_neg h64)
            have HO2 := hid (show woE l r = 7 from if_neg h64)
            have hd : (64 : Int) < (nu : Int) := by omega
            clear h64 hul
            go_wp2
            go_ret2
            exact ⟨_, by rw [HO2.out]; rfl, by rw [HO.out]; exact OwnL.nil _ _ _ _ _, bel_call hb0 hbel⟩
end Go.Proofs.Ytajgjalcomhhcaa
