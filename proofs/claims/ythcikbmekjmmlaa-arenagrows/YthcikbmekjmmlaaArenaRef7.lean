/-
  The contract of the document's Path.
-/
import Derived.Test.YthcikbmekjmmlaaArenaRef6
namespace Go.Proofs.Ythcikbmekjmmlaa
open Go.RowKit Go.WalkArith

theorem pthT_len {l : List Trm} : ∀ {i : Nat}, i < l.length → (pthT l i).length ≤ i + 1 := by
  intro i
  induction i using Nat.strongRecOn with
  | _ i ih =>
    intro hi
    rw [pthT_eq hi, List.length_append]
    by_cases hu : 0 ≤ l[i].Up ∧ l[i].Up < i
    · rw [if_pos hu]
      have := ih l[i].Up.toNat (by omega) (by omega)
      simp
      omega
    · rw [if_neg hu]
      simp

theorem path_no {l : List Trm} {u : Int} (h : ¬ (ArOk l ∧ 0 ≤ u ∧ u < l.length)) : pathE l u = 1 ∧ pathK l u = 0 ∧ pathT l u = [] := by
  rcases path_cases l u with ⟨_, h1, h2, h3, _⟩ | ⟨h1, h2, h3, _⟩
  · exact absurd ⟨h1, h2, h3⟩ h
  · exact ⟨h1, h2, h3⟩
theorem path_ok {l : List Trm} {u : Int} (h : ArOk l) (h0 : 0 ≤ u) (h1 : u < l.length) : pathE l u = 0 ∧ pathK l u = pthK l u.toNat ∧ pathT l u = pthT l u.toNat := by
  rcases path_cases l u with ⟨e, _, _, _, h2, h3⟩ | ⟨_, _, _, hn⟩
  · exact ⟨e, h2, h3⟩
  · exact absurd ⟨h, h0, h1⟩ hn

set_option maxRecDepth 100000 in
set_option maxHeartbeats 2000000 in
theorem refPathA_any (l : List Trm) : ∀ (m : Nat) (s1 : Array Value) (u : Int) (w : World), u.toNat < m → lay_Arena.rep w (· < w.heap.size) l s1.toList → (Lit.int .i64 u).wf = true →
    Calls Try.prog 23 #[.agg s1, .int .i64 u] w fun e w' => ∃ v', e = .returned (.tuple #[.int .u64 (pathK l u), v', .int .i64 (pathE l u)]) ∧ OwnL lay_Txt w' w.heap.size (some w.heap.size) 26 v' (pathT l u) ∧ Below w.heap.size w w' := by
  intro m
  induction m with
  | zero => intro s1 u w h; omega
  | succ m ih =>
  intro s1 u w hm g1 hu
  have IH := hid ih
  clear ih
  obtain ⟨A1, n1, c1, rfl, hA⟩ := agg_Arena g1
  clear g1
  have HL := hid hA.len
  have hc1 := hA.cap
  unfold maxLen at hc1
  have bU := bounds_i64 hu
  have hb0 : Below w.heap.size w (w.alloc (Obj.cells #[.slice A1 n1 c1] 24)) := bel_alloc (Below.refl _ _) _
  have hx0 := heap_alloc_new w (Obj.cells #[.slice A1 n1 c1] 24)
  have PA := hid (fun (W : World) (h : Below w.heap.size w W) => (hA.keep fun _ hp => h.cell hp).wide (S' := (· < W.heap.size)) fun b hb => Nat.lt_of_lt_of_le hb h.size)
  by_cases hok : ArOk l
  rotate_left
  · have HP := hid (path_no (u := u) fun k => hok k.1)
    have HAR := hid (show arE l = 1 from if_neg hok)
    go_enter Try.func23, Try.ntmps23
    go_wp2_with (go_at_call 18; go_must (refine (refCheckA_any _ l _ (rep_Arena.2 ⟨_, _, _, rfl, PA.out _ hb0⟩)).mono ?_; rw [HAR.out]; rintro e w1 ⟨rfl, hb1⟩))
    go_ret3
    exact ⟨_, by rw [HP.out.1, HP.out.2.1]; rfl, by rw [HP.out.2.2]; exact OwnL.nil _ _ _ _ _, bel_call hb0 hb1⟩
  have HAR := hid (show arE l = 0 from if_pos hok)
  by_cases h0 : u < 0
  · have HP := hid (path_no (l := l) (u := u) fun k => by have := k.2.1; omega)
    go_enter Try.func23, Try.ntmps23
    go_wp2_with (go_at_call 18; go_must (refine (refCheckA_any _ l _ (rep_Arena.2 ⟨_, _, _, rfl, PA.out _ hb0⟩)).mono ?_; rw [HAR.out]; rintro e w1 ⟨rfl, hb1⟩))
    go_ret3
    exact ⟨_, by rw [HP.out.1, HP.out.2.1]; rfl, by rw [HP.out.2.2]; exact OwnL.nil _ _ _ _ _, bel_call hb0 hb1⟩
  have d0 : decide (u < 0) = false := by simpa using h0
  by_cases h1 : (n1 : Int) ≤ u
  · have HP := hid (path_no (l := l) (u := u) fun k => by have := k.2.2; rw [HL.out] at this; omega)
    go_enter Try.func23, Try.ntmps23
    go_wp2_with (go_at_call 18; go_must (refine (refCheckA_any _ l _ (rep_Arena.2 ⟨_, _, _, rfl, PA.out _ hb0⟩)).mono ?_; rw [HAR.out]; rintro e w1 ⟨rfl, hb1⟩; have z1 := cell_of_one ((hb1.block _ (lt_of_block hx0)).trans hx0)))
    go_ret3
    exact ⟨_, by rw [HP.out.1, HP.out.2.1]; rfl, by rw [HP.out.2.2]; exact OwnL.nil _ _ _ _ _, bel_call hb0 hb1⟩
  have d1 : decide ((n1 : Int) ≤ u) = false := by simp; omega
  obtain ⟨i, rfl⟩ : ∃ i : Nat, u = i := ⟨u.toNat, by omega⟩
  have hi : i < n1 := by omega
  have hti : (i : Int).toNat = i := by omega
  rw [hti] at hm
  have HP := hid (path_ok hok (u := (i : Int)) (by omega) (by rw [HL.out]; omega))
  rw [hti] at HP
  obtain ⟨b1, o1, A', n', c', hx1, rfl, hb1', t1, u1, v1, e1, e2, hV1⟩ := trm_at hA hi
  have fi := hok.fit hx1
  have hnl : n' ≤ 4096 := by rw [← hV1.len]; exact fi.2.2.2
  have RV := hid (hV1.rd (B := w.heap.size) fun _ h => h)
  have hcm : n1 ≤ 1048576 := by rw [← HL.out]; exact hok.1
  clear h0 h1 hti hV1 hA
  have q1 := fun (W : World) (h : Below w.heap.size w W) => (h.cell (p := ⟨b1, o1 + i * 3, none⟩) hb1').trans t1
  have q2 := fun (W : World) (h : Below w.heap.size w W) => (h.cell (p := ⟨b1, o1 + i * 3 + 1, none⟩) hb1').trans u1
  have q3 := fun (W : World) (h : Below w.heap.size w W) => (h.cell (p := ⟨b1, o1 + i * 3 + 2, none⟩) hb1').trans v1
  have Q1 := hid q1
  have Q2 := hid q2
  have Q3 := hid q3
  clear q1 q2 q3 t1 u1 v1
  have d2 : decide (n1 ≤ i) = false := by simp; omega
  by_cases hup : l[i].Up < 0
  · have HK := hid (pthK_root hx1 hup)
    have HT := hid (pthT_root hx1 hup)
    go_enter Try.func23, Try.ntmps23
    go_wp2_with (first | (go_at_call 18; go_must (refine (refCheckA_any _ l _ (rep_Arena.2 ⟨_, _, _, rfl, PA.out _ hb0⟩)).mono ?_; rw [HAR.out]; rintro e w1 ⟨rfl, hb1⟩; have HB1 := bel_call hb0 hb1; have V1 := (hb1.block _ (lt_of_block hx0)).trans hx0; have z1 := cell_of_one V1; have y1 := Q1.out w1 HB1; have y2 := Q2.out w1 HB1; have y3 := Q3.out w1 HB1; have hlt1 := lt_of_block V1; have hbA : Below w1.heap.size w1 (w1.alloc (Obj.cells #[.int .u64 l[i].Key, .int .i64 l[i].Up, .slice A' n' c'] 39)) := bel_alloc (Below.refl _ _) _; have HBA := bel_call HB1 hbA; have VA := (hbA.block _ hlt1).trans V1; have VN := heap_alloc_new w1 (Obj.cells #[.int .u64 l[i].Key, .int .i64 l[i].Up, .slice A' n' c'] 39))) | (at_builtin; refine wpList_cat rfl (.const (.slice none 0 0)) (.tmp 32) 26 rfl (w1.alloc (Obj.cells #[.int .u64 l[i].Key, .int .i64 l[i].Up, .slice A' n' c'] 39)).heap.size 5 .u8 1 Try.underlying26 Try.infoU8 (.slice none 0 0) [] w.heap.size A' n' c' l[i].Text rfl rfl (Own.nil _ _ _ _) (RV.out.below HBA) (Nat.le_refl _) (by simp; omega) (by simp; omega) ?_; intro v5 w5 hown5 hext5; (simp only [List.nil_append] at hown5); obtain ⟨A5, n5, c5, rfl, hs5⟩ := hown5.slI; have hb5 := hext5.of_nil; have HB5 := bel_call HBA hb5; have hz5 := hb5.size; have V5 := (hb5.block _ (lt_of_block VA)).trans VA; have N5 := (hb5.block _ (lt_of_block VN)).trans VN; have x0 : w5.cell? ⟨w1.heap.size, 0, none⟩ = some (.int .u64 l[i].Key) := (by simp [World.cell?, N5]); have x1 : w5.cell? ⟨w1.heap.size, 1, none⟩ = some (.int .i64 l[i].Up) := (by simp [World.cell?, N5]); have x2 := cell_of_one V5))
    go_ret3
    refine ⟨_, by rw [HP.out.1, HP.out.2.1, HK.out]; rfl, ?_, bel_alloc HB5 _⟩
    rw [HP.out.2.2, HT.out]
    have hz := hbA.size
    have hw1 := HB1.size
    exact (OwnL.lit1 (L := lay_Txt) (S := From w5 (w1.alloc (Obj.cells #[.int .u64 l[i].Key, .int .i64 l[i].Up, .slice A' n' c'] 39)).heap.size) 26 (some w.heap.size) rfl ⟨A5, n5, c5, rfl, hs5⟩ (fun b hb => ⟨⟨by have := hb.1; omega, hb.2.2⟩, hb.2.1⟩)).lows (Nat.le_trans hw1 (Nat.le_trans hz hz5)) (Nat.le_refl _)
  · have hup' : decide (l[i].Up < 0) = false := by simpa using hup
    have HK := hid (pthK_next hok hx1 (by omega))
    have HT := hid (pthT_next hok hx1 (by omega))
    have hul : l[i].Up < i := fi.2.1
    have HPU := hid (path_ok hok (u := l[i].Up) (by omega) (by rw [HL.out]; omega))
    have hpl := pthT_len (l := l) (i := l[i].Up.toNat) (by rw [HL.out]; omega)
    have hlen1 : ((pthT l l[i].Up.toNat).length + 1) * 24 ≤ 140737488355328 := by omega
    have hlen2 : (pthT l l[i].Up.toNat).length + 1 ≤ maxLen := by unfold maxLen; omega
    have hmu : l[i].Up.toNat < m := by omega
    clear hup fi
    go_enter Try.func23, Try.ntmps23
    go_wp2_with (first | (go_at_call 18; go_must (refine (refCheckA_any _ l _ (rep_Arena.2 ⟨_, _, _, rfl, PA.out _ hb0⟩)).mono ?_; rw [HAR.out]; rintro e w1 ⟨rfl, hb1⟩; have HB1 := bel_call hb0 hb1; have V1 := (hb1.block _ (lt_of_block hx0)).trans hx0; have z1 := cell_of_one V1; have y1 := Q1.out w1 HB1; have y2 := Q2.out w1 HB1; have y3 := Q3.out w1 HB1; have hlt1 := lt_of_block V1; have hbA : Below w1.heap.size w1 (w1.alloc (Obj.cells #[.int .u64 l[i].Key, .int .i64 l[i].Up, .slice A' n' c'] 39)) := bel_alloc (Below.refl _ _) _; have HBA := bel_call HB1 hbA; have VA := (hbA.block _ hlt1).trans V1; have VN := heap_alloc_new w1 (Obj.cells #[.int .u64 l[i].Key, .int .i64 l[i].Up, .slice A' n' c'] 39))) | (at_builtin; refine wpList_cat rfl (.const (.slice none 0 0)) (.tmp 32) 26 rfl (w1.alloc (Obj.cells #[.int .u64 l[i].Key, .int .i64 l[i].Up, .slice A' n' c'] 39)).heap.size 5 .u8 1 Try.underlying26 Try.infoU8 (.slice none 0 0) [] w.heap.size A' n' c' l[i].Text rfl rfl (Own.nil _ _ _ _) (RV.out.below HBA) (Nat.le_refl _) (by simp; omega) (by simp; omega) ?_; intro v5 w5 hown5 hext5; (simp only [List.nil_append] at hown5); obtain ⟨A5, n5, c5, rfl, hs5⟩ := hown5.slI; have hb5 := hext5.of_nil; have HB5 := bel_call HBA hb5; have hz5 := hb5.size; have V5 := (hb5.block _ (lt_of_block VA)).trans VA; have N5 := (hb5.block _ (lt_of_block VN)).trans VN; have x0 : w5.cell? ⟨w1.heap.size, 0, none⟩ = some (.int .u64 l[i].Key) := (by simp [World.cell?, N5]); have x1 : w5.cell? ⟨w1.heap.size, 1, none⟩ = some (.int .i64 l[i].Up) := (by simp [World.cell?, N5]); have x2 := cell_of_one V5) | (go_at_call 23; go_must (refine (IH.out _ l[i].Up w5 hmu (rep_Arena.2 ⟨_, _, _, rfl, PA.out w5 HB5⟩) e2).mono ?_; rw [HPU.out.1, HPU.out.2.1, HPU.out.2.2]; rintro e w6 ⟨v6, rfl, ho6, hb6⟩; have hge : ∀ g, v6.ownBlock = some g → w5.heap.size ≤ g := fun g hg => ho6.ge hg; have hzA := hbA.size; have hw1 := HB1.size; have hz6 := hb6.size; have ho7 := ho6.lows (base' := w5.heap.size) (lo' := w.heap.size) (Nat.le_refl _) (Nat.le_trans hw1 (Nat.le_trans hzA hz5)); have hs6 : Sl (Lay.int .u8) w6 (fun b => From w5 (w1.alloc (Obj.cells #[.int .u64 l[i].Key, .int .i64 l[i].Up, .slice A' n' c'] 39)).heap.size b) A5 n5 c5 l[i].Text := hs5.keep fun p hp => hb6.cell hp.2.1)) | (at_builtin; refine wpList_pushL rfl (.tmp 50) (.tmp 52) 30 rfl w5.heap.size (some w.heap.size) 26 _ 24 Try.underlying30 Try.infoTxt rfl (by decide) v6 (pthT l l[i].Up.toNat) l[i].Text #[.slice A5 n5 c5] (fun b => From w5 (w1.alloc (Obj.cells #[.int .u64 l[i].Key, .int .i64 l[i].Up, .slice A' n' c'] 39)).heap.size b) rfl rfl ho7 ⟨A5, n5, c5, rfl, hs6⟩ (fun b hb => ⟨⟨by have := hb.1; omega, hb.2.2.of_block (hb6.block b hb.2.1)⟩, Nat.lt_of_lt_of_le hb.2.1 hz6, fun he => by have := hge b he.symm; have := hb.2.1; omega⟩) hz6 hlen1 hlen2 ?_; intro v7 w7 ho8 hext7))
    go_ret3
    refine ⟨_, by rw [HP.out.1, HP.out.2.1, HK.out]; rfl, ?_, (bel_call HB5 hb6).trans ((ho7.below hext7 hz6).mono HB5.size)⟩
    rw [HP.out.2.2, HT.out]
    exact ho8.lows HB5.size (Nat.le_refl _)
end Go.Proofs.Ythcikbmekjmmlaa
