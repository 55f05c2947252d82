/-
  The walk of BigsizeBack.
-/
import Derived.Test.YtfmlifdoibjogaaBigsizeLaws
import Derived.Test.YtfmlifdoibjogaaBigsizeLive
import Derived.Test.YtfmlifdoibjogaaBigsizeSame
import Derived.Deep.RegionHeld3
namespace Go.Proofs.Ytfmlifdoibjogaa
open Go.RowKit Go.WalkArith

set_option maxRecDepth 100000 in
set_option maxHeartbeats 2000000 in
theorem bigsizeBack_walk (a0 : Int) (A1 : Option Addr) (n1 c1 : Nat) (x1 : List Int) (A2 : Option Addr) (n2 c2 : Nat) (x2 : List Int) (w : World) (b0 : 0 ≤ a0 ∧ a0 ≤ 18446744073709551615) (r1 : Rd w w.heap.size .u64 A1 n1 c1 x1) (r2 : Rd w w.heap.size .u8 A2 n2 c2 x2) :
    Calls Try.prog 4 #[.int .u64 a0, .slice A1 n1 c1, .slice A2 n2 c2] w fun e w' => e = .returned (.bool true) ∧ Below w.heap.size w w' := by
  have hc1 := r1.cap
  have hc2 := r2.cap
  unfold maxLen at hc1 hc2
  by_cases g0 : 200 < n1
  · have g0' : (200 : Int) < n1 := by omega
    go_enter Try.func4, Try.ntmps4
    go_wp2_with (go_at_call 7; refine (live_any _).mono ?_; rintro e w1 ⟨rfl, hb1⟩)
    go_ret
    exact ⟨rfl, by (repeat (first | exact Below.refl _ _ | refine Below.drew ?_ | refine bel_drewN ?_ _ | refine bel_alloc ?_ _ | refine bel_call ?_ (by assumption)))⟩
  by_cases g1 : 200 < n2
  · have g1' : (200 : Int) < n2 := by omega
    go_enter Try.func4, Try.ntmps4
    go_wp2_with (go_at_call 7; refine (live_any _).mono ?_; rintro e w1 ⟨rfl, hb1⟩)
    go_ret
    exact ⟨rfl, by (repeat (first | exact Below.refl _ _ | refine Below.drew ?_ | refine bel_drewN ?_ _ | refine bel_alloc ?_ _ | refine bel_call ?_ (by assumption)))⟩
  have g0' : n1 ≤ 200 := by omega
  have g1' : n2 ≤ 200 := by omega
  have d0 : decide ((200 : Int) < (n1 : Int)) = false := by simp; omega
  have d1 : decide ((200 : Int) < (n2 : Int)) = false := by simp; omega
  have X0 := hid (show octs [a0] = oct a0 from by simp [octs])
  have W0 := wf_u64 b0
  have E1 := hid r1.len
  have E2 := hid r2.len
  obtain ⟨hg1, hg2⟩ := get_put b0.1 b0.2 x2
  have G1 := hid hg1
  have G2 := hid hg2
  have hall := all_put x1 (fun x hx => bounds_u64 (r1.wf x hx)) (by rw [E1.out]; omega)
  have HALL := hid hall
  have hol := oct_len a0
  have hb8 := bhd_le (fst a0)
  have hl0 : (oct a0).length ≤ 9 := by omega
  have hol1 := octs_len_le x1
  rw [E1.out] at hol1
  clear g0 g1 hg1 hg2 hall hol hb8
  go_enter Try.func4, Try.ntmps4
  go_wp2_with (go_at_call 7; refine (live_any _).mono ?_; rintro e w1 ⟨rfl, hb1⟩)
  with_reducible refine (put_any _ _ _ [a0] _ (Rd.lit1 ?_ W0) (by omega)).mono ?_
  · go_simp
  rintro e w2 ⟨v2, rfl, hown2, hb2⟩
  rw [X0.out] at hown2
  obtain ⟨A3, c3, rfl, hr3⟩ := hown2.form
  have HB2 : Below w.heap.size w w2 := by (repeat (first | exact Below.refl _ _ | refine Below.drew ?_ | refine bel_drewN ?_ _ | refine bel_alloc ?_ _ | refine bel_call ?_ (by assumption)))
  clear hb1 hb2 hown2
  have q2 := r2.below HB2
  go_wp2_with (first | (at_builtin; refine wpList_cat rfl (.const (.slice none 0 0)) _ 24 rfl w2.heap.size 5 .u8 1 Try.underlying24 Try.infoU8 (.slice none 0 0) [] _ A3 _ c3 (oct a0) rfl rfl (Own.nil _ _ _ _) hr3 (Nat.le_refl _) (by simp; omega) (by simp; omega) ?_; intro v4 w4 hown4 hext4; simp only [List.nil_append] at hown4) | (at_builtin; refine wpList_cat rfl (.tmp 31) _ 24 rfl w2.heap.size 5 .u8 1 Try.underlying24 Try.infoU8 v4 (oct a0) _ A2 n2 c2 x2 rfl rfl hown4 (q2.below (((Own.nil w2 w2.heap.size 5 .u8).below hext4 (Nat.le_refl _)).mono HB2.size)) hext4.size (by omega) (by omega) ?_; intro v5 w5 hown5 hext5; obtain ⟨A5, c5, rfl, hr5⟩ := hown5.form))
  have b5 := ((Own.nil w2 w2.heap.size 5 .u8).below hext4 (Nat.le_refl _)).trans (hown4.below hext5 hext4.size)
  have HB5 : Below w.heap.size w w5 := HB2.trans (b5.mono HB2.size)
  replace q2 := q2.below (b5.mono HB2.size)
  have z5 := b5.size
  clear hown4 hown5 hext4 hext5 b5 hr3 HB2
  rw [List.length_append] at hr5
  with_reducible refine (get_ok _ _ _ _ _ _ hr5 G1.out).mono ?_
  rw [G2.out]
  rintro e w6 ⟨rfl, hb6⟩
  have HB6 : Below w.heap.size w w6 := bel_call HB5 hb6
  replace q2 := q2.below (hb6.mono HB5.size)
  clear hr5 hb6 HB5
  have q1 := r1.below HB6
  go_wp2_with fail
  with_reducible refine (put_any _ _ _ _ _ (q1.more HB6.size) (by omega)).mono ?_
  rintro e w7 ⟨v7, rfl, hown7, hb7⟩
  obtain ⟨A7, c7, rfl, hr7⟩ := hown7.form
  have HB7 : Below w.heap.size w w7 := bel_call HB6 hb7
  replace q1 := q1.below (hb7.mono HB6.size)
  replace q2 := q2.below (hb7.mono HB6.size)
  clear hown7 hb7 HB6
  go_wp2_with fail
  with_reducible refine (all_any _ _ _ _ _ hr7).mono ?_
  rw [HALL.out]
  rintro e w8 ⟨v8, rfl, hown8, hb8⟩
  obtain ⟨A8, c8, rfl, hr8⟩ := hown8.form
  have HB8 : Below w.heap.size w w8 := bel_call HB7 hb8
  replace q1 := q1.below (hb8.mono HB7.size)
  replace q2 := q2.below (hb8.mono HB7.size)
  clear hown8 hb8 HB7 hr7
  go_wp2_with (go_at_call 15; go_must (refine (size_any _ _ b0.1).mono ?_; rintro e w9 ⟨rfl, rfl⟩))
  with_reducible refine (sameNumbers_any _ _ _ _ _ _ _ _ _ hr8 (q1.more HB8.size)).mono ?_
  rintro e w9 ⟨rfl, hb9⟩
  have HB9 : Below w.heap.size w w9 := bel_call HB8 hb9
  replace q2 := q2.below (hb9.mono HB8.size)
  clear hb9 HB8 hr8 q1
  have hd9 : decide (x1 = x1) = true := by simp
  by_cases he : getE x2 = 0
  · have hpg := put_get (fun x hx => bounds_u8 (r2.wf x hx)) he
    have hrb := rdN_bd x2 (by have := (getE_ok he).1; omega) fun x hx => bounds_u8 (r2.wf x hx)
    have hol := oct_len (rdN x2)
    have hb8 := bhd_le (fst (rdN x2))
    have hk1 : 1 ≤ (oct (rdN x2)).length := by omega
    have hk9 : (oct (rdN x2)).length ≤ 9 := by omega
    have hk2 := hpg.2
    rw [E2.out] at hk2
    have HP := hid hpg.1
    have HE := hid he
    have X1 := hid (show octs [rdN x2] = oct (rdN x2) from by simp [octs])
    have W1 := wf_u64 hrb
    clear hpg he hol hb8
    go_wp2_with (go_at_call 8; go_must (refine (get_ok _ _ _ _ x2 _ q2 HE.out).mono ?_; rintro e w10 ⟨rfl, hb10⟩))
    have HB10 : Below w.heap.size w w10 := by (repeat (first | exact Below.refl _ _ | refine Below.drew ?_ | refine bel_drewN ?_ _ | refine bel_alloc ?_ _ | refine bel_call ?_ (by assumption)))
    replace q2 := q2.below (hb10.mono HB9.size)
    have HQ := hid (q2.upto hk2)
    have hsl := run_upto (P := Try.prog) 24 5 Try.underlying24 Try.elemU8 Try.infoU8 A2 n2 c2 (oct (rdN x2)).length (by omega)
    have hz10 := HB10.size
    clear hb10 HB9
    generalize (oct (rdN x2)).length = m at *
    have hm1 : decide ((1 : Int) ≤ (m : Int)) = true := by simp; omega
    have hm2 : decide (m ≤ n2) = true := by simp; omega
    have hm3 : decide ((m : Int) ≤ (n2 : Int)) = true := by simp; omega
    have hS : w10.heap.size ≤ w10.heap.size := Nat.le_refl _
    go_region_held3 (fun w' => w10.heap.size ≤ w'.heap.size) (first | (simp; omega) | simp | (have := hb11.size; simp at this; omega)) (first | (go_at_call 13; go_must (refine (put_any _ _ _ [rdN x2] _ (Rd.lit1 ?_ W1) (by omega)).mono ?_; go_simp; rintro e w11 ⟨v11, rfl, hown11, hb11⟩; rw [X1.out] at hown11; obtain ⟨A11, n11, c11, rfl, hr11⟩ := hown11.formN; clear hown11)) | (go_at_call 12; go_must (refine (sameBytes_any _ _ _ _ _ _ _ _ _ _ _ hr11 (HQ.out.below ((((Below.refl w10.heap.size w10).drew.alloc (by simp) _).trans (hb11.mono (by simp))).mono hz10))).mono ?_; rintro e w12 ⟨rfl, rfl⟩)))
    all_goals (go_wp2; go_ret; exact ⟨ret_bool (decide_eq_true HP.out), by (repeat (first | exact Below.refl _ _ | refine Below.drew ?_ | refine bel_drewN ?_ _ | refine bel_alloc ?_ _ | refine bel_call ?_ (by assumption)))⟩)
  · have HE := hid he
    have hne : (getE x2 != 0) = true := by simpa using he
    clear he
    go_wp2_with (go_at_call 8; go_must (refine (get_bad _ _ _ _ x2 _ q2 HE.out).mono ?_; rintro e w10 ⟨rfl, hb10⟩))
    go_ret
    exact ⟨rfl, by (repeat (first | exact Below.refl _ _ | refine Below.drew ?_ | refine bel_drewN ?_ _ | refine bel_alloc ?_ _ | refine bel_call ?_ (by assumption)))⟩

end Go.Proofs.Ytfmlifdoibjogaa
