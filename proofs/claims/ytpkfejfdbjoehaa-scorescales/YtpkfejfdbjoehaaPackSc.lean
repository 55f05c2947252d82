/-
  The program's own contracts of layer 11: what is no number, Less, Weigh (a search by a function), the numbers of a row.
  The program's sort of layer 11: which one comes ahead, the library's sort laid at rows of numbers with scores, and what it leaves: the same ones, in order.
-/
import Derived.Test.YtpkfejfdbjoehaaScoreRef1
import Derived.Test.YtpkfejfdbjoehaaOwnPut
import Derived.Test.YtpkfejfdbjoehaaGen
import Derived.Test.YtpkfejfdbjoehaaSearch
import Derived.Shelf.SlSortCmp.WholeK
namespace Go.Proofs.Ytpkfejfdbjoehaa
open Go.RowKit Go.WalkArith

theorem isNaN64_any (a : Nat) (w : World) : Calls Try.prog 36 #[.float .f64 a] w fun e w' => e = .returned (.bool (nanB a)) ∧ w = w' := by
  have n0 := order_ne a
  generalize nanB a = b at *
  go_enter Try.func36, Try.ntmps36
  go_wp2
  go_ret
  exact ⟨rfl, rfl⟩
/-- What is a number is not below what is none. -/
theorem lt_right {a b : Nat} (h : nanB b = true) : ltK (scK a) (scK b) = false := by
  rw [nan_is h, ltK_no]
  have := key_ge a
  intro q
  rcases q with q | ⟨q, q2⟩
  · simp at q; omega
  · have hn := nan_is (nan_key.2 q)
    rw [hn] at q2
    simp at q2
theorem order_none {a b : Nat} (h : nanB a = true ∨ nanB b = true) : (dbl.order a b == some .lt) = false := by
  rw [order_is, if_pos h]; rfl
set_option maxHeartbeats 1000000 in
theorem sLess_any (a b : Nat) (w : World) : Calls Try.prog 17 #[.float .f64 a, .float .f64 b] w fun e w' => e = .returned (.bool (ltK (scK a) (scK b))) ∧ w = w' := by
  have lt0 := order_lt a b
  have HN := hid (@nan_lt a b)
  have H1 := hid (isNaN64_any a w)
  have H2 := hid (isNaN64_any b w)
  have HO := hid (@order_none a b)
  cases hn : nanB a with
  | true =>
    have l0 := HO.out (.inl hn)
    have HK := hid (HN.out hn)
    rw [hn] at H1
    clear lt0 HO HN
    generalize ltK (scK a) (scK b) = r at *
    generalize nanB b = nb at *
    clear hn
    go_enter Try.func17, Try.ntmps17
    go_wp2_with fail
    with_reducible refine H1.out.mono ?_
    rintro e w1 ⟨rfl, rfl⟩
    go_wp2_with fail
    with_reducible refine H2.out.mono ?_
    rintro e w1 ⟨rfl, rfl⟩
    go_wp2
    go_ret
    exact ⟨by rw [HK.out]; rfl, rfl⟩
  | false =>
    have l0 := lt0 hn
    rw [hn] at H1
    clear lt0 HO HN hn
    generalize ltK (scK a) (scK b) = r at *
    cases r with
    | true =>
      go_enter Try.func17, Try.ntmps17
      go_wp2
      go_ret
      exact ⟨rfl, rfl⟩
    | false =>
      go_enter Try.func17, Try.ntmps17
      go_wp2_with fail
      with_reducible refine H1.out.mono ?_
      rintro e w1 ⟨rfl, rfl⟩
      go_wp2
      go_ret
      exact ⟨rfl, rfl⟩

/-! ### Weigh -/
theorem weigh1_any (r : Wgt) (id : Int) (b : Nat) (w : World) (hc : w.cell? ⟨b, 0, none⟩ = some (.int .u64 id)) (hb : b < w.heap.size) :
    Calls Try.prog 38 #[.agg #[.int .u64 r.Id, .float .f64 r.W], .pointer (some ⟨b, 0, none⟩)] w fun e w' => e = .returned (.bool (r.Id == id)) ∧ Below w.heap.size w w' := by
  have hb0 : Below w.heap.size w (w.alloc (Obj.cells #[.int .u64 r.Id, .float .f64 r.W] 54)) := bel_alloc (Below.refl _ _) _
  have q := (hb0.cell (p := ⟨b, 0, none⟩) hb).trans hc
  go_enter Try.func38, Try.ntmps38
  go_wp2
  go_ret
  exact ⟨rfl, hb0⟩
/-- Where a weight of a channel is, or -1. -/
def FoundW (l : List Wgt) (id r : Int) : Prop := (r = -1 ∧ weighV l id = oneF) ∨ ∃ j : Nat, ∃ hj : j < l.length, r = j ∧ weighV l id = l[j].W
set_option maxHeartbeats 1000000 in
theorem indexW_any (A : Option Addr) (n c : Nat) (l : List Wgt) (id : Int) (b : Nat) (w : World) (h : Sl lay_Weight w (· < w.heap.size) A n c l) (hc : w.cell? ⟨b, 0, none⟩ = some (.int .u64 id)) (hb : b < w.heap.size) :
    Calls Try.prog 37 #[.slice A n c, .func (.func 38) #[] #[.pointer (some ⟨b, 0, none⟩)]] w fun e w' => (∃ r : Int, e = .returned (.int .i64 r) ∧ FoundW l id r) ∧ Below w.heap.size w w' := by
  have HL := hid h.len
  have hcap := h.cap
  unfold maxLen at hcap
  go_enter Try.func37, Try.ntmps37
  go_wp2
  go_loopw [8] (fun i wr => ∃ j : Nat, j ≤ n ∧ i = .int .i64 j ∧ Hid (∀ i (hi : i < l.length), i < j → l[i].Id ≠ id) ∧ Below w.heap.size w wr) (fun i _ => n - (intOf i).toNat)
  case atStart => exact ⟨0, Nat.zero_le _, rfl, hid fun i hi h => absurd h (by omega), Below.refl _ _⟩
  case round =>
    obtain ⟨j, hj, rfl, HP, hbel⟩ := hrel
    by_cases hlt : j < n
    · obtain ⟨b1, o1, hx1, rfl, hb1, t1, t2, hw⟩ := at_Weight h hlt
      have q1 := (hbel.cell (p := ⟨b1, o1 + j * 2, none⟩) hb1).trans t1
      have q2 := (hbel.cell (p := ⟨b1, o1 + j * 2 + 1, none⟩) hb1).trans t2
      have HC := hid (weigh1_any l[j] id b wr ((hbel.cell (p := ⟨b, 0, none⟩) hb).trans hc) (Nat.lt_of_lt_of_le hb hbel.size))
      clear t1 t2 hw
      by_cases he : l[j].Id = id
      · have d1 : (l[j].Id == id) = true := by simpa using he
        have HN := hid (show FoundW l id (j : Int) from .inr ⟨j, hx1, rfl, weigh_hit hx1 HP.out he⟩)
        rw [d1] at HC
        clear he d1
        go_wp2_with (go_at_call 38; go_must (refine HC.out.mono ?_; rintro e w1 ⟨rfl, hb1⟩))
        go_ret
        exact ⟨⟨_, rfl, HN.out⟩, bel_call hbel hb1⟩
      · have d1 : (l[j].Id == id) = false := by simpa using he
        have HN := hid (show ∀ i (hi : i < l.length), i < j + 1 → l[i].Id ≠ id from fun i hi h => by
          by_cases hij : i < j
          · exact HP.out i hi hij
          · have e : i = j := by omega
            subst e; exact he)
        rw [d1] at HC
        clear he d1
        go_wp2_with (go_at_call 38; go_must (refine HC.out.mono ?_; rintro e w1 ⟨rfl, hb1⟩))
        go_roundw
        case rel => exact ⟨j + 1, by omega, by go_num, HN, bel_call hbel hb1⟩
        case measure => simp [intOf]; omega
    · have HN := hid (show FoundW l id (-1) from .inl ⟨rfl, weigh_none fun i hi => HP.out i hi (by rw [HL.out] at hi; omega)⟩)
      go_wp2
      go_ret
      exact ⟨⟨_, rfl, HN.out⟩, hbel⟩
set_option maxHeartbeats 1000000 in
theorem sWeigh_any (A : Option Addr) (n c : Nat) (l : List Wgt) (id : Int) (w : World) (h : Sl lay_Weight w (· < w.heap.size) A n c l) :
    Calls Try.prog 20 #[.slice A n c, .int .u64 id] w fun e w' => e = .returned (.float .f64 (weighV l id)) ∧ Below w.heap.size w w' := by
  have HL := hid h.len
  have hba := bel_alloc (Below.refl w.heap.size w) (Obj.cells #[.int .u64 id] 24)
  have HC := hid (Sl.call h hba)
  have hv := (Var1.new w 24 (.int .u64 id)).c0
  have hlt := (Var1.new w 24 (.int .u64 id)).lt
  have HB := hid hba
  clear hba
  go_enter Try.func20, Try.ntmps20
  go_upto_region 1 with (fail)
  generalize w.alloc (Obj.cells #[.int .u64 id] 24) = W1 at *
  have HX := hid (indexW_any A n c l id w.heap.size W1 HC.out hv hlt)
  clear hv hlt
  go_wp2_with fail
  with_reducible refine HX.out.mono ?_
  rintro e w1 ⟨⟨r, rfl, hr⟩, hb⟩
  have HSL := hid (Sl.call HC.out hb)
  have HBE := hid (bel_call HB.out hb)
  clear hb
  rcases hr with ⟨rfl, hr⟩ | ⟨j, hj, rfl, hr⟩
  · have HR := hid hr
    clear hr
    go_wp2
    go_ret
    exact ⟨by rw [HR.out]; rfl, HBE.out⟩
  · have HR := hid hr
    clear hr
    have hlt : j < n := by rw [HL.out] at hj; exact hj
    obtain ⟨b1, o1, hx1, rfl, hb1, t1, t2, hw⟩ := at_Weight HSL.out hlt
    go_wp2
    go_ret
    exact ⟨by rw [HR.out]; rfl, HBE.out⟩

/-! ### The numbers of a row -/
theorem OwnL.numsOwn {w : World} {base : Nat} {lo : Option Nat} {e : TypeId} {k : IntKind} {v : Value} {xs : List Int} (h : OwnL (Lay.int k) w base lo e v xs) : Own w base e k v xs := by
  obtain ⟨cs, h1, h2⟩ := h
  obtain ⟨rfl, h3⟩ := repRow_ints.1 h2
  exact ⟨h1, h3⟩
theorem set_fill (xs : List Int) (m : Nat) (y : Int) : (xs ++ List.replicate (m + 1) 0).set xs.length y = xs ++ [y] ++ List.replicate m 0 := by
  rw [List.set_append_right _ _ (Nat.le_refl _), Nat.sub_self, List.replicate_succ, List.set_cons_zero, List.append_assoc]; rfl
theorem made_own (n : Nat) (hn : n ≤ 1048576) (w : World) (lo : Option Nat) : OwnL (Lay.int .u64) (w.alloc (.cells (madeCells #[.int .u64 0] n) 24)) w.heap.size lo 24 (.slice (some ⟨w.heap.size, 0, none⟩) n n) (List.replicate n 0) := by
  have e : madeCells #[Value.int .u64 0] n = ((List.replicate n (0 : Int)).map (Value.int .u64)).toArray := by
    apply Array.ext
    · simp [size_madeCells]
    · intro i h1 h2
      simp [madeCells, Nat.mod_one]
  refine ⟨(List.replicate n (0 : Int)).map (Value.int .u64), ⟨by simp [Lay.int], .inr ⟨w.heap.size, n, _, by simp, Nat.le_refl _, heap_alloc_new w _, by simp, by unfold maxLen; omega, ?_, ?_⟩⟩, repRow_ints.2 ⟨rfl, fun x hx => ?_⟩⟩
  · rw [e]; simp [Lay.int]
  · rw [e]
    simp [Lay.int]
  · rw [List.eq_of_mem_replicate hx]; decide
set_option maxRecDepth 100000 in
set_option maxHeartbeats 1000000 in
theorem idsOf_any (A : Option Addr) (n c : Nat) (l : List Wgt) (w : World) (h : Sl lay_Weight w (· < w.heap.size) A n c l) (hn : n ≤ 32) :
    Calls Try.prog 34 #[.slice A n c] w fun e w' => ∃ v, e = .returned v ∧ Own w' w.heap.size 24 .u64 v (l.map Wgt.Id) ∧ Below w.heap.size w w' := by
  have HL := hid h.len
  have HSL := hid (fun (W : World) (h' : Below w.heap.size w W) => Sl.call h h')
  have hsf : ∀ (a : Addr) (b : Nat) (m : Mode) (W : World), (store a (.float .f64 b) m).run Try.prog W = stored Try.prog W a (.float .f64 b) m := fun a b m W => run_store Try.prog W a _ m rfl
  have hmk := run_make_row' (P := Try.prog) 34 24 (.int .u64 0) 8 Try.underlying34 Try.infoU64 rfl .i64 .i64 n (by omega) (by omega) w
  have HO := hid (made_own n (by omega) w none)
  have hb1 := bel_alloc (Below.refl w.heap.size w) (.cells (madeCells #[.int .u64 0] n) 24)
  generalize w.alloc (.cells (madeCells #[.int .u64 0] n) 24) = W1 at *
  clear h
  go_enter Try.func34, Try.ntmps34
  go_wp2
  go_loopw [11] (fun i wr => ∃ j : Nat, j ≤ n ∧ i = .int .i64 j ∧ OwnL (Lay.int .u64) wr w.heap.size none 24 (.slice (some ⟨w.heap.size, 0, none⟩) n n) ((l.take j).map Wgt.Id ++ List.replicate (n - j) 0) ∧ Below w.heap.size w wr) (fun i _ => n - (intOf i).toNat)
  case atStart => exact ⟨0, Nat.zero_le _, rfl, by simpa using HO.out, hb1⟩
  case round =>
  obtain ⟨j, hj, rfl, ho, hbel⟩ := hrel
  have HOJ := hid ho
  by_cases hlt : j < n
  rotate_left
  · have hjn : j = n := by omega
    subst hjn
    have HE := hid (show (l.take j).map Wgt.Id ++ List.replicate (j - j) 0 = l.map Wgt.Id from by
      rw [List.take_of_length_le (by rw [HL.out]; exact Nat.le_refl _), Nat.sub_self]; simp)
    clear ho
    go_wp2
    go_ret
    exact ⟨_, rfl, by have q := HOJ.out; rw [HE.out] at q; exact q.numsOwn, hbel⟩
  obtain ⟨b1, o1, hx1, rfl, hb1', t0, t1, hw⟩ := at_Weight (HSL.out _ hbel) hlt
  have hba := bel_alloc (Below.refl wr.heap.size wr) (Obj.cells #[.int .u64 l[j].Id, .float .f64 l[j].W] 59)
  have ho2 := ho.keep hba
  have hbx := Box.new wr 59 [.int .u64 l[j].Id, .float .f64 l[j].W]
  have HB2 := hid (bel_call hbel hba)
  clear ho hba
  go_upto_region 5 with (fail)
  generalize wr.alloc (Obj.cells #[.int .u64 l[j].Id, .float .f64 l[j].W] 59) = W2 at *
  generalize wr.heap.size = gb at *
  have p0 := hbx.at_ 0 rfl
  have hlen : ((l.take j).map Wgt.Id ++ List.replicate (n - j) 0).length = n := by simp [HL.out]; omega
  obtain ⟨c, hr, hc, hf⟩ := ho2.elem (k := j) (by rw [hlen]; exact hlt)
  have s0 := hc 0 (by decide)
  rw [show (Lay.int .u64).size = 1 from rfl, Nat.mul_one, Nat.add_zero, show c = [.int .u64 _] from hr.1] at s0
  obtain ⟨x9, s9⟩ : ∃ x, W2.cell? ⟨w.heap.size, j, none⟩ = some (.int .u64 x) := ⟨_, s0⟩
  have f0 := hf j
  have ho3 := ho2.put (i := 0) (k := j) (y := l[j].Id) (u := .int .u64 l[j].Id) (by decide) (by rw [hlen]; exact hlt) (fun w S c hr => by obtain ⟨rfl, -⟩ := hr; exact ⟨rfl, hw.1⟩)
  rw [show (Lay.int .u64).size = 1 from rfl, Nat.mul_one, Nat.add_zero] at ho3
  have hfill : ((l.take j).map Wgt.Id ++ List.replicate (n - j) 0).set j l[j].Id = (l.take (j + 1)).map Wgt.Id ++ List.replicate (n - (j + 1)) 0 := by
    have h1 := set_fill ((l.take j).map Wgt.Id) (n - (j + 1)) l[j].Id
    rw [show n - (j + 1) + 1 = n - j by omega, show ((l.take j).map Wgt.Id).length = j by simp [HL.out]; omega] at h1
    rw [h1, List.take_succ_eq_append_getElem hx1, List.map_append]; rfl
  rw [hfill] at ho3
  have HO3 := hid ho3
  have HB3 := hid (HB2.out.setCell (p := ⟨w.heap.size, j, none⟩) (Nat.le_refl _) (.int .u64 l[j].Id))
  clear s0 hlen hr hc hf ho2 ho3 hfill hbx
  go_wp2
  go_roundw
  case rel => exact ⟨j + 1, by omega, by go_num, HO3.out, HB3.out⟩
  case measure => simp [intOf]; omega
end Go.Proofs.Ytpkfejfdbjoehaa
namespace Go.Proofs.Ytpkfejfdbjoehaa
open Go.RowKit Go.WalkArith

def sortS_ren : Go.Shelf.Ren := ⟨fun | 6 => 32 | 15 => 50 | 14 => 49 | 28 => 73 | 29 => 74 | 20 => 65 | 21 => 66 | 22 => 67 | 23 => 68 | 24 => 69 | 25 => 70 | 26 => 71 | 27 => 72 | 46 => 83 | 47 => 84 | 48 => 85 | 49 => 86 | 50 => 87 | 57 => 90 | n => n, fun | 22 => 57 | 24 => 59 | 25 => 61 | 3 => 3 | 39 => 80 | 0 => 0 | 53 => 104 | 55 => 24 | 4 => 4 | 46 => 98 | 45 => 97 | 50 => 89 | 5 => 5 | 9 => 9 | 66 => 114 | 70 => 118 | 76 => 121 | 77 => 122 | n => n, fun n => n⟩
theorem sortS : SlLaysF0.n6 Try.prog sortS_ren := {
  mixed := by kernel_rfl
  f6 := ⟨Try.f32.name, by decide, Try.func32.trans (congrArg some (by kernel_rfl))⟩
  f14 := ⟨Try.f49.name, by decide, Try.func49.trans (congrArg some (by kernel_rfl))⟩
  f15 := Try.func50.trans (congrArg some (by kernel_rfl))
  f20 := ⟨Try.f65.name, by decide, Try.func65.trans (congrArg some (by kernel_rfl))⟩
  f21 := ⟨Try.f66.name, by decide, Try.func66.trans (congrArg some (by kernel_rfl))⟩
  f22 := ⟨Try.f67.name, by decide, Try.func67.trans (congrArg some (by kernel_rfl))⟩
  f23 := ⟨Try.f68.name, by decide, Try.func68.trans (congrArg some (by kernel_rfl))⟩
  f24 := ⟨Try.f69.name, by decide, Try.func69.trans (congrArg some (by kernel_rfl))⟩
  f25 := ⟨Try.f70.name, by decide, Try.func70.trans (congrArg some (by kernel_rfl))⟩
  f26 := ⟨Try.f71.name, by decide, Try.func71.trans (congrArg some (by kernel_rfl))⟩
  f27 := ⟨Try.f72.name, by decide, Try.func72.trans (congrArg some (by kernel_rfl))⟩
  f28 := Try.func73.trans (congrArg some (by kernel_rfl))
  f29 := Try.func74.trans (congrArg some (by kernel_rfl))
  f46 := ⟨Try.f83.name, by decide, Try.func83.trans (congrArg some (by kernel_rfl))⟩
  f47 := Try.func84.trans (congrArg some (by kernel_rfl))
  f48 := Try.func85.trans (congrArg some (by kernel_rfl))
  f49 := ⟨Try.f86.name, by decide, Try.func86.trans (congrArg some (by kernel_rfl))⟩
  f50 := ⟨Try.f87.name, by decide, Try.func87.trans (congrArg some (by kernel_rfl))⟩
  f57 := ⟨Try.f90.name, by decide, Try.func90.trans (congrArg some (by kernel_rfl))⟩
  t0 := Try.underlying0
  a0 := Try.isAgg0
  z0 := Try.sizeOf0
  v0 := Try.zeroValue0
  t3 := Try.underlying3
  a3 := Try.isAgg3
  z3 := Try.sizeOf3
  v3 := Try.zeroValue3
  t4 := Try.underlying4
  a4 := Try.isAgg4
  z4 := Try.sizeOf4
  v4 := Try.zeroValue4
  t5 := Try.underlying5
  a5 := Try.isAgg5
  z5 := Try.sizeOf5
  v5 := Try.zeroValue5
  t9 := Try.underlying9
  a9 := Try.isAgg9
  z9 := Try.sizeOf9
  v9 := Try.zeroValue9
  t22 := Try.underlying57
  a22 := Try.isAgg57
  z22 := Try.sizeOf57
  v22 := Try.zeroValue57
  t25 := Try.underlying61
  a25 := Try.isAgg61
  z25 := Try.sizeOf61
  v25 := Try.zeroValue61
  t39 := Try.underlying80
  a39 := Try.isAgg80
  z39 := Try.sizeOf80
  v39 := Try.zeroValue80
  t45 := Try.underlying97
  a45 := Try.isAgg97
  z45 := Try.sizeOf97
  v45 := Try.zeroValue97
  t46 := Try.underlying98
  a46 := Try.isAgg98
  z46 := Try.sizeOf98
  v46 := Try.zeroValue98
  t50 := Try.underlying89
  a50 := Try.isAgg89
  z50 := Try.sizeOf89
  v50 := Try.zeroValue89
  t53 := Try.underlying104
  a53 := Try.isAgg104
  z53 := Try.sizeOf104
  v53 := Try.zeroValue104
  t55 := Try.underlying24
  a55 := Try.isAgg24
  z55 := Try.sizeOf24
  v55 := Try.zeroValue24
  t66 := Try.underlying114
  a66 := Try.isAgg114
  z66 := Try.sizeOf114
  v66 := Try.zeroValue114
  t70 := Try.underlying118
  a70 := Try.isAgg118
  z70 := Try.sizeOf118
  v70 := Try.zeroValue118
  t76 := Try.underlying121
  a76 := Try.isAgg121
  z76 := Try.sizeOf121
  v76 := Try.zeroValue121
  t77 := Try.underlying122
  a77 := Try.isAgg122
  z77 := Try.sizeOf122
  v77 := Try.zeroValue122
  }

instance : Inhabited Wgt := ⟨⟨0, 0⟩⟩
def encS (x : Wgt) : List Value := [.int .u64 x.Id, .float .f64 x.W]
def itm (x : Wgt) : Itk := (x.Id, scK x.W)
def aheadI (x y : Wgt) : Int := if ltK (scK y.W) (scK x.W) = true then -1 else if ltK (scK x.W) (scK y.W) = true then 1 else cmpI x.Id y.Id
theorem bef_or {x y : Itk} (h : befB x y = false) : befB y x = true ∨ x = y := by
  by_cases e : x.1 = y.1
  · have a := mt befB_iff.2 (by rw [h]; simp)
    by_cases q : ltK x.2 y.2 = true
    · exact .inl (befB_iff.2 (.inl q))
    · have q' : ltK x.2 y.2 = false := by simpa using q
      have r' : ltK y.2 x.2 = false := by
        cases r : ltK y.2 x.2 with
        | false => rfl
        | true => exact absurd (.inl r) a
      exact .inr (Prod.ext e (ltK_same q' r'))
  · exact .inl (bef_total e h)
theorem lt_ahead (x y : Wgt) : ltOf aheadI x y = befB (itm x) (itm y) := by
  unfold ltOf aheadI
  have hb := @befB_iff (itm x) (itm y)
  cases h1 : ltK (scK y.W) (scK x.W) with
  | true =>
    rw [hb.2 (.inl h1)]
    simp
  | false =>
    cases h2 : ltK (scK x.W) (scK y.W) with
    | true =>
      have : befB (itm x) (itm y) = false := by
        rw [Bool.eq_false_iff]
        intro h
        rcases hb.1 h with q | ⟨q, -⟩
        · rw [show ltK (itm y).2 (itm x).2 = false from h1] at q; cases q
        · have q : scK x.W = scK y.W := q
          rw [q, ltK_irr] at h2; cases h2
      rw [this]
      simp
    | false =>
      have e : scK x.W = scK y.W := ltK_same h2 h1
      rw [if_neg (by simp), if_neg (by simp)]
      unfold cmpI
      by_cases q : x.Id < y.Id
      · rw [if_pos q, hb.2 (.inr ⟨e, q⟩)]; rfl
      · have : befB (itm x) (itm y) = false := by
          rw [Bool.eq_false_iff]
          intro h
          rcases hb.1 h with r | ⟨-, r⟩
          · rw [show ltK (itm y).2 (itm x).2 = false from h1] at r; cases r
          · exact q r
        rw [this, if_neg q]
        split <;> rfl
theorem swo_ahead : Go.Sort.SWO (ltOf aheadI) where
  irrefl x := by rw [lt_ahead]; exact bef_irr _
  trans x y z h1 h2 := by rw [lt_ahead] at *; exact bef_trans h1 h2
  ntrans x y z h1 h2 := by
    rw [lt_ahead] at *
    rw [Bool.eq_false_iff]
    intro h
    rcases bef_or h1 with q | q
    · rw [bef_trans q h] at h2; cases h2
    · rw [q] at h; rw [h] at h2; cases h2

set_option maxHeartbeats 1000000 in
theorem ahead_any (x y : Wgt) (W : World) : Calls Try.prog 33 #[.agg #[.int .u64 x.Id, .float .f64 x.W], .agg #[.int .u64 y.Id, .float .f64 y.W]] W fun e w' => e = .returned (.int .i64 (aheadI x y)) ∧ ∃ q os', w' = Go.Sort.grow (W.drewN q) os' := by
  have HL1 := hid (fun W' => sLess_any y.W x.W W')
  have HL2 := hid (fun W' => sLess_any x.W y.W W')
  have HC := hid (fun W' => compare_any x.Id y.Id W')
  have HR := hid (show aheadI x y = if ltK (scK y.W) (scK x.W) = true then -1 else if ltK (scK x.W) (scK y.W) = true then 1 else cmpI x.Id y.Id from rfl)
  generalize aheadI x y = r at *
  generalize cmpI x.Id y.Id = c at *
  generalize ltK (scK y.W) (scK x.W) = p at *
  generalize ltK (scK x.W) (scK y.W) = q at *
  have hend : ∀ A B : Obj, ∃ q os', (W.alloc A).alloc B = Go.Sort.grow (W.drewN q) os' := fun A B => ⟨0, _, by rw [Go.Sort.alloc_eq_grow, Go.Sort.alloc_eq_grow, Go.Sort.grow_grow]; rfl⟩
  have HEND := hid hend
  clear hend
  cases p with
  | true =>
    go_enter Try.func33, Try.ntmps33
    go_wp2_with fail
    with_reducible refine (HL1.out _).mono ?_
    rintro e w1 ⟨rfl, rfl⟩
    go_wp2
    go_ret
    exact ⟨by rw [HR.out]; rfl, HEND.out _ _⟩
  | false =>
    cases q with
    | true =>
      go_enter Try.func33, Try.ntmps33
      go_wp2_with fail
      with_reducible refine (HL1.out _).mono ?_
      rintro e w1 ⟨rfl, rfl⟩
      go_wp2_with fail
      with_reducible refine (HL2.out _).mono ?_
      rintro e w1 ⟨rfl, rfl⟩
      go_wp2
      go_ret
      exact ⟨by rw [HR.out]; rfl, HEND.out _ _⟩
    | false =>
      go_enter Try.func33, Try.ntmps33
      go_wp2_with fail
      with_reducible refine (HL1.out _).mono ?_
      rintro e w1 ⟨rfl, rfl⟩
      go_wp2_with fail
      with_reducible refine (HL2.out _).mono ?_
      rintro e w1 ⟨rfl, rfl⟩
      go_wp2_with fail
      with_reducible refine (HC.out _).mono ?_
      rintro e w1 ⟨rfl, rfl⟩
      go_wp2
      go_ret
      exact ⟨by rw [HR.out]; rfl, HEND.out _ _⟩
theorem cmp_lays (blk off size : Nat) (w : World) : CmpLays Try.prog 33 #[] encS 2 aheadI blk off size w := fun _ _ _ _ x y => ahead_any x y _

/-! ### Rows -/
theorem flat_at : ∀ (l : List Wgt) (i : Nat) (v : Value), (l.flatMap encS)[i]? = some v → ∃ h : i / 2 < l.length, (encS l[i / 2])[i % 2]! = v
  | [], i, v, h => by simp at h
  | x :: l, 0, v, h => ⟨by simp, by simpa [encS] using h⟩
  | x :: l, 1, v, h => ⟨by simp, by simpa [encS] using h⟩
  | x :: l, i + 2, v, h => by
    have h' : (l.flatMap encS)[i]? = some v := by simpa [encS, List.flatMap_cons] using h
    obtain ⟨h1, h2⟩ := flat_at l i v h'
    refine ⟨by simp; omega, ?_⟩
    have e1 : (i + 2) / 2 = i / 2 + 1 := by omega
    have e2 : (i + 2) % 2 = i % 2 := by omega
    rw [e2]
    simp only [e1, List.getElem_cons_succ]
    exact h2
theorem rep_flat {w : World} {S : Nat → Prop} : ∀ {l : List Wgt}, (∀ x ∈ l, WgtWf x) → RepRow lay_Weight w S l (l.flatMap encS)
  | [], _ => rfl
  | x :: l, h => ⟨encS x, l.flatMap encS, by simp, rep_Weight.2 ⟨rfl, h x (by simp)⟩, rep_flat fun y hy => h y (by simp [hy])⟩
theorem holds_own {w : World} {base g n c : Nat} {lo : Option Nat} {e : TypeId} {l : List Wgt} (h : OwnL lay_Weight w base lo e (.slice (some ⟨g, 0, none⟩) n c) l) : Go.Sort.HoldsK encS 2 w g 0 l.toArray := by
  intro t ht
  have ht : t < l.length * 2 := by simpa using ht
  have hk : t / 2 < l.length := by omega
  obtain ⟨c, hr, hc, hf⟩ := h.elem hk
  obtain ⟨rfl, -⟩ := rep_Weight.1 hr
  have e := hc (t % 2) (by show t % 2 < 2; omega)
  rw [show t / 2 * lay_Weight.size + t % 2 = t from by show t / 2 * 2 + t % 2 = t; omega] at e
  refine ⟨?_, by rw [Nat.zero_add]; exact hf t⟩
  rw [Nat.zero_add, e, Go.Sort.get_flatK encS 2 _ t (by simpa using ht)]
  have e2 : l.toArray[t / 2]! = l[t / 2] := by rw [getElem!_pos _ _ (by simpa using hk)]; simp
  rw [e2]
  have h2 : t % 2 < 2 := by omega
  rcases Nat.lt_or_ge (t % 2) 1 with q | q
  · rw [show t % 2 = 0 by omega]; rfl
  · rw [show t % 2 = 1 by omega]; rfl
theorem below_sort {w : World} {base g m : Nat} {d : Array Wgt} {os : Array Obj} (hb : base ≤ g) (hw : base ≤ w.heap.size) : Below base w (sortWorldK encS 2 w g 0 m d os) := by
  refine ⟨rfl, rfl, rfl, size_sortWorldK_c encS 2 w g 0 m d os, fun i hi => ?_⟩
  unfold sortWorldK
  rw [Go.Sort.heap_grow_old _ _ (by unfold Go.Sort.putRowK; simp; omega)]
  unfold Go.Sort.putRowK Go.Sort.putRow Go.Sort.mapBlock
  simp only [Array.getElem?_modify]
  rw [if_neg (by omega)]
  rfl
set_option maxHeartbeats 1000000 in
theorem sort_any (n c g base : Nat) (lo : Option Nat) (l : List Wgt) (w : World) (h : OwnL lay_Weight w base lo 59 (.slice (some ⟨g, 0, none⟩) n c) l) (hn : n ≤ 32) (hd : l.Pairwise fun a b => a.Id ≠ b.Id) :
    Calls Try.prog 32 #[.slice (some ⟨g, 0, none⟩) n c, .func (.func 33) #[] #[]] w fun e w' => e = .returned (.tuple #[]) ∧ (∃ l', (∀ x, x ∈ l' ↔ x ∈ l) ∧ SortedI (l'.map itm) ∧ Sl lay_Weight w' (· < w'.heap.size) (some ⟨g, 0, none⟩) n c l') ∧ Below base w w' := by
  have eg : ∀ args w, (callFunc 33 args).run Try.prog w = .ok (.enter 33 args) w := enters_of Try.func33 (by kernel_rfl) rfl
  obtain ⟨A', n', c', hv, hs⟩ := h.read
  injection hv with hA hn' hc'
  subst hA hn' hc'
  have hg := h.ownG
  have hlen : l.length = n := hs.len
  have hcon := AnyQ.slices_SortFunc sortS 2 Try.isAgg59 Try.sizeOf59 encS (fun _ => rfl) (fun x v hv => by simp [encS] at hv; rcases hv with rfl | rfl <;> rfl) aheadI swo_ahead 33 #[] g 0 c l.toArray w eg (cmp_lays g 0 _ w) (holds_own h) hg.2 (by simp; omega)
  rw [show l.toArray.size = n from by simpa using hlen] at hcon
  change Calls Try.prog 32 _ _ _ at hcon
  refine hcon.mono ?_
  rintro e w' ⟨rfl, d', m, os, ⟨hsz, -, hperm⟩, hsort, rfl⟩
  have hsz : d'.size = n := by rw [hsz]; simpa using hlen
  have hp : d'.toList.Perm l := by
    have e1 : d'.extract 0 n = d' := by rw [← hsz]; simp
    have e2 : l.toArray.extract 0 n = l.toArray := by rw [← hlen]; simp
    rw [e1, e2] at hperm
    simpa using hperm
  have hmem : ∀ x, x ∈ d'.toList ↔ x ∈ l := fun x => hp.mem_iff
  have hd' : d'.toList.Pairwise fun a b => a.Id ≠ b.Id := hp.symm.pairwise hd fun h => Ne.symm h
  have hH := holdsK_sortWorldK_c encS 2 w g 0 l.toArray d' m os (holds_own h) hg.2 (by rw [hsz]; simpa using hlen.symm)
  refine ⟨rfl, ⟨d'.toList, hmem, ?_, ?_⟩, below_sort hg.1 (by omega)⟩
  · unfold SortedI
    rw [List.pairwise_map, List.pairwise_iff_getElem]
    intro i j hi hj hij
    have h1 := hsort i j (Nat.zero_le _) hij (by rw [← hsz]; simpa using hj)
    rw [lt_ahead, getElem!_pos d' j (by simpa using hj), getElem!_pos d' i (by simpa using hi)] at h1
    have h2 := List.pairwise_iff_getElem.1 hd' i j hi hj hij
    simp only [Array.getElem_toList] at h2 ⊢
    exact bef_total (fun e => h2 e.symm) h1
  · have hwf : ∀ x ∈ d'.toList, WgtWf x := fun x hx => wfs_Weight hs x ((hmem x).1 hx)
    refine ⟨by simpa using hsz, hs.2.1, hs.2.2.1, hs.2.2.2.1, fun h0 => ⟨g, 0, d'.toList.flatMap encS, rfl, ?_, rep_flat hwf, fun i v hv => ?_⟩⟩
    · have := size_sortWorldK_c encS 2 w g 0 m d' os
      show g < (sortWorldK encS 2 w g 0 m d' os).heap.size
      omega
    · obtain ⟨h1, h2⟩ := flat_at _ i v hv
      have h3 := (hH.cell (i := i / 2) (c := i % 2) (by simpa using h1) (by omega)).1
      rw [show 0 + i / 2 * 2 + i % 2 = 0 + i by omega, getElem!_pos d' _ (by simpa using h1)] at h3
      rw [h3, ← h2]
      simp
end Go.Proofs.Ytpkfejfdbjoehaa
