/-
  An owned row whose elements up to a place reach new blocks alone, the others whatever; an element written whole.
  Package ledger: the library over channels; channels with holds of their own; where one stands.
  Package ledger: what the channels' parts are together; how much is ours.
  Package ledger: which channel has which hold (a map by the holds' numbers), whether channels may be, and where a hold is.
  Package ledger: whether channels may be, where a hold is, how much is ours, one of them; something done with one of them.
-/
import Derived.Test.YtpkfejfdbjoehaaOwnPut
import Derived.Test.YtpkfejfdbjoehaaBox
import Derived.Test.YtpkfejfdbjoehaaLedgerSpec
import Derived.Test.YtpkfejfdbjoehaaPackCh
import Derived.Test.YtpkfejfdbjoehaaSearch
import Derived.Test.YtpkfejfdbjoehaaGen
import Derived.Test.YtpkfejfdbjoehaaPackMo
import Derived.Maps.OwnSet
import Derived.Deep.QuietTactic
namespace Go.Proofs.Ytpkfejfdbjoehaa
open Go.RowKit Go.WalkArith

/-- An owned slice whose elements up to a place reach new blocks alone. -/
def Mix {α : Type} (L : Lay α) (w : World) (base lo : Nat) (e : TypeId) (g n cap : Nat) (xs : List α) (j : Nat) : Prop :=
  ∃ cs ds, w.ownsRow base e L.size (.slice (some ⟨g, 0, none⟩) n cap) n (cs ++ ds) ∧ xs.length = n ∧ RepRow L w (Els w (some lo) (.slice (some ⟨g, 0, none⟩) n cap)) (xs.take j) cs ∧ RepRow L w (Els w none (.slice (some ⟨g, 0, none⟩) n cap)) (xs.drop j) ds

section
variable {α : Type} {L : Lay α} {w w' : World} {base lo : Nat} {e : TypeId} {g n cap : Nat} {xs : List α} {j : Nat}
theorem OwnL.mix (h : OwnL L w base none e (.slice (some ⟨g, 0, none⟩) n cap) xs) (lo : Nat) : Mix L w base lo e g n cap xs 0 := by
  obtain ⟨cs, h1, h2⟩ := h
  have hl : xs.length = n := by
    rcases h1.2 with ⟨h', _⟩ | ⟨g', cap', cur, h', _⟩
    · simp at h'
    · simp only [Value.slice.injEq] at h'; exact h'.2.1.symm
  subst hl
  exact ⟨[], cs, h1, rfl, rfl, h2⟩
theorem Mix.own (h : Mix L w base lo e g n cap xs n) : OwnL L w base (some lo) e (.slice (some ⟨g, 0, none⟩) n cap) xs := by
  obtain ⟨cs, ds, h1, h2, h3, h4⟩ := h
  subst h2
  rw [List.take_of_length_le (Nat.le_refl _)] at h3
  rw [List.drop_of_length_le (Nat.le_refl _)] at h4
  simp [RepRow] at h4
  subst h4
  exact ⟨cs, by simpa using h1, h3⟩
theorem Mix.lt (h : Mix L w base lo e g n cap xs j) : base ≤ g ∧ g < w.heap.size := by
  obtain ⟨cs, ds, h1, _⟩ := h
  exact h1.lt g rfl
theorem Els.keepB {lo : Option Nat} {v : Value} {b : Nat} (h : Els w lo v b) (hb : Below w.heap.size w w') : Els w' lo v b := ⟨h.1.of_block (hb.block b h.2.1), Nat.lt_of_lt_of_le h.2.1 hb.size, h.2.2⟩
theorem Mix.keep (h : Mix L w base lo e g n cap xs j) (hb : Below w.heap.size w w') : Mix L w' base lo e g n cap xs j := by
  obtain ⟨cs, ds, h1, h2, h3, h4⟩ := h
  refine ⟨cs, ds, ?_, h2, (h3.keep fun p hp => hb.cell hp.2.1).wide fun b hb' => hb'.keepB hb, (h4.keep fun p hp => hb.cell hp.2.1).wide fun b hb' => hb'.keepB hb⟩
  refine ⟨h1.1, ?_⟩
  rcases h1.2 with h0 | ⟨g, cap, cur, h5, hbg, hg, r⟩
  · exact .inl h0
  · exact .inr ⟨g, cap, cur, h5, hbg, by rw [hb.block g (Array.getElem?_eq_some_iff.1 hg).1]; exact hg, r⟩
theorem Els.keepC {lo : Option Nat} {v : Value} {b g i : Nat} {u : Value} (h : Els w lo v b) (hg : v.ownBlock = some g) : Els (w.setCell ⟨g, i, none⟩ u) lo v b := by
  have hne : b ≠ g := fun e => h.2.2 (by rw [hg, e])
  exact ⟨h.1.of_block (Below.heap_setCell _ _ _ _ hne), by simpa using h.2.1, h.2.2⟩
theorem RepRow.keepC {lo : Option Nat} {v : Value} {g i : Nat} {u : Value} {ys : List α} {cs : List Value} (h : RepRow L w (Els w lo v) ys cs) (hg : v.ownBlock = some g) : RepRow L (w.setCell ⟨g, i, none⟩ u) (Els (w.setCell ⟨g, i, none⟩ u) lo v) ys cs :=
  (h.keep fun p hp => World.cell?_of_block (Below.heap_setCell _ _ _ _ fun e => hp.2.2 (by rw [hg]; exact congrArg some e))).wide fun b hb => hb.keepC hg
end
section
variable {w : World} {base lo : Nat} {e : TypeId}
/-- The like, nil let in. -/
def MixV {α : Type} (L : Lay α) (w : World) (base lo : Nat) (e : TypeId) (A : Option Addr) (n c : Nat) (xs : List α) (j : Nat) : Prop :=
  (A = none ∧ n = 0 ∧ c = 0 ∧ xs = []) ∨ ∃ g, A = some ⟨g, 0, none⟩ ∧ Mix L w base lo e g n c xs j
theorem OwnL.mixV {α : Type} {L : Lay α} {A : Option Addr} {n c : Nat} {xs : List α} (h : OwnL L w base none e (.slice A n c) xs) (lo : Nat) : MixV L w base lo e A n c xs 0 := by
  have h0 := h
  obtain ⟨cs, h1, h2⟩ := h
  rcases h1.2 with ⟨h', hx⟩ | ⟨g, cap, cur, h', _⟩
  · simp only [Value.slice.injEq] at h'
    exact .inl ⟨h'.1, h'.2.1, h'.2.2, List.eq_nil_of_length_eq_zero hx⟩
  · simp only [Value.slice.injEq] at h'
    obtain ⟨rfl, rfl, rfl⟩ := h'
    exact .inr ⟨g, rfl, h0.mix lo⟩
theorem MixV.own {α : Type} {L : Lay α} {A : Option Addr} {n c : Nat} {xs : List α} (h : MixV L w base lo e A n c xs n) : OwnL L w base (some lo) e (.slice A n c) xs := by
  rcases h with ⟨rfl, rfl, rfl, rfl⟩ | ⟨g, rfl, h⟩
  · exact OwnL.nil _ _ _ _ _
  · exact h.own
end

/-- Cells of a list written from a place on. -/
def putL : List Value → Nat → List Value → List Value
  | cs, _, [] => cs
  | cs, i, v :: vs => putL (cs.set i v) (i + 1) vs
theorem putL_mid : ∀ (vs p q r : List Value), q.length = vs.length → putL (p ++ (q ++ r)) p.length vs = p ++ (vs ++ r)
  | [], p, q, r, h => by
    have : q = [] := List.eq_nil_of_length_eq_zero (by simpa using h)
    subst this; rfl
  | v :: vs, p, [], r, h => by simp at h
  | v :: vs, p, x :: q, r, h => by
    have h2 := putL_mid vs (p ++ [v]) q r (by simpa using h)
    rw [List.length_append, List.append_assoc] at h2
    unfold putL
    rw [List.set_append_right _ _ (Nat.le_refl _), Nat.sub_self, List.cons_append, List.set_cons_zero]
    simpa using h2
section
variable {α : Type} {L : Lay α} {base lo : Nat} {e : TypeId} {g n cap : Nat}
theorem ownsRow_setFrom {size : Nat} : ∀ (vs : List Value) (i : Nat) (w : World) (cs : List Value), w.ownsRow base e size (.slice (some ⟨g, 0, none⟩) n cap) n cs → (setFrom w g i vs).ownsRow base e size (.slice (some ⟨g, 0, none⟩) n cap) n (putL cs i vs)
  | [], _, _, _, h => h
  | v :: vs, i, _, _, h => ownsRow_setFrom vs (i + 1) _ _ (h.stored i v).1
theorem Els.setFrom {w : World} {lo : Option Nat} {v : Value} {b : Nat} (h : Els w lo v b) (hg : v.ownBlock = some g) (vs : List Value) (i : Nat) : Els (setFrom w g i vs) lo v b := by
  have hne : b ≠ g := fun e => h.2.2 (by rw [hg, e])
  exact ⟨h.1.of_block (setFrom_other vs i w hne), by rw [setFrom_size]; exact h.2.1, h.2.2⟩
theorem RepRow.setFrom {w : World} {lo : Option Nat} {v : Value} {ys : List α} {cs : List Value} (h : RepRow L w (Els w lo v) ys cs) (hg : v.ownBlock = some g) (vs : List Value) (i : Nat) : RepRow L (setFrom w g i vs) (Els (setFrom w g i vs) lo v) ys cs :=
  (h.keep fun p hp => World.cell?_of_block (setFrom_other vs i w fun e => hp.2.2 (by rw [hg]; exact congrArg some e))).wide fun b hb => hb.setFrom hg vs i
theorem rep_setFrom {w : World} {lo : Option Nat} {v : Value} {x : α} {c : List Value} (h : L.rep w (Els w lo v) x c) (hg : v.ownBlock = some g) (vs : List Value) (i : Nat) : L.rep (setFrom w g i vs) (Els (setFrom w g i vs) lo v) x c :=
  L.wide (L.keep h fun p hp => World.cell?_of_block (setFrom_other vs i w fun e => hp.2.2 (by rw [hg]; exact congrArg some e))) fun b hb => hb.setFrom hg vs i
theorem Mix.elem {w : World} {xs : List α} {j : Nat} (h : Mix L w base lo e g n cap xs j) (hj : j < n) : ∃ c, ∃ hx : j < xs.length, L.rep w (Els w none (.slice (some ⟨g, 0, none⟩) n cap)) xs[j] c ∧ (∀ i v, c[i]? = some v → w.cell? ⟨g, j * L.size + i, none⟩ = some v) ∧ ∀ i, w.frozen? ⟨g, i, none⟩ = false := by
  obtain ⟨cs, ds, h1, h2, h3, h4⟩ := h
  have hx : j < xs.length := by omega
  rw [List.drop_eq_getElem_cons hx] at h4
  obtain ⟨c1, c2, rfl, h5, h6⟩ := h4
  have hcl := h3.len
  have hc1 := L.len h5
  rw [List.length_take, Nat.min_eq_left (by omega)] at hcl
  refine ⟨c1, hx, h5, fun i v hv => ?_, fun i => h1.frozenAt _⟩
  have hi : i < L.size := by rw [← hc1]; exact (List.getElem?_eq_some_iff.1 hv).1
  have hle : (j + 1) * L.size ≤ n * L.size := Nat.mul_le_mul_right _ hj
  rw [Nat.add_mul] at hle
  rw [h1.cellAt (j * L.size + i) (by omega), List.getElem?_append_right (by omega), hcl, Nat.add_sub_cancel_left, List.getElem?_append_left (by omega), hv]
/-- The next element is written whole: what it reaches now is new. -/
theorem Mix.all_ {w : World} {xs : List α} {j : Nat} (h : Mix L w base lo e g n cap xs j) (hj : j < n) (hx : j < xs.length) {c : List Value} (hs : L.rep w (Els w (some lo) (.slice (some ⟨g, 0, none⟩) n cap)) xs[j] c) : Mix L (setFrom w g (j * L.size) c) base lo e g n cap xs (j + 1) := by
  obtain ⟨cs, ds, h1, h2, h3, h4⟩ := h
  rw [List.drop_eq_getElem_cons hx] at h4
  obtain ⟨c1, c2, rfl, h5, h6⟩ := h4
  have hcl := h3.len
  rw [List.length_take, Nat.min_eq_left (by omega)] at hcl
  refine ⟨cs ++ c, c2, ?_, h2, ?_, h6.setFrom rfl _ _⟩
  · have h7 := ownsRow_setFrom c (j * L.size) w _ h1
    rw [← hcl, putL_mid c cs c1 c2 ((L.len h5).trans (L.len hs).symm)] at h7
    rw [← hcl, List.append_assoc]
    exact h7
  · rw [List.take_succ_eq_append_getElem hx]
    exact (h3.setFrom rfl _ _).append (RepRow.single (rep_setFrom hs rfl _ _))
/-- One element of an owned row is written whole. -/
theorem OwnL.putAll {w : World} {lo : Option Nat} {xs : List α} {k : Nat} {y : α} {c : List Value} (h : OwnL L w base lo e (.slice (some ⟨g, 0, none⟩) n cap) xs) (hk : k < xs.length) (hs : L.rep w (Els w lo (.slice (some ⟨g, 0, none⟩) n cap)) y c) : OwnL L (setFrom w g (k * L.size) c) base lo e (.slice (some ⟨g, 0, none⟩) n cap) (xs.set k y) := by
  have hn := h.num
  obtain ⟨cs, h1, h2⟩ := h
  rw [hn] at h1
  have e1 := h2.take k
  have e2 := h2.drop k
  have hcs : cs = cs.take (k * L.size) ++ cs.drop (k * L.size) := (List.take_append_drop _ _).symm
  have hl := h2.len
  have hle : (k + 1) * L.size ≤ xs.length * L.size := Nat.mul_le_mul_right _ hk
  rw [Nat.add_mul] at hle
  rw [List.drop_eq_getElem_cons hk] at e2
  obtain ⟨c1, c2, h4, h5, h6⟩ := e2
  generalize hp : cs.take (k * L.size) = p at *
  have hpl : p.length = k * L.size := by rw [← hp, List.length_take]; omega
  rw [h4] at hcs
  refine ⟨p ++ (c ++ c2), ?_, ?_⟩
  · have h7 := ownsRow_setFrom c (k * L.size) w _ h1
    rw [hcs, ← hpl, putL_mid c p c1 c2 ((L.len h5).trans (L.len hs).symm)] at h7
    rw [List.length_set, hn, ← hpl]
    exact h7
  · rw [List.set_eq_take_append_cons_drop, if_pos hk]
    exact (e1.setFrom rfl _ _).append ⟨c, c2, rfl, rep_setFrom hs rfl _ _, h6.setFrom rfl _ _⟩
end
end Go.Proofs.Ytpkfejfdbjoehaa
namespace Go.Proofs.Ytpkfejfdbjoehaa
open Go.RowKit Go.WalkArith

theorem Try.infoChL : (Try.prog.info? 28).map (fun i => (i.zero, i.size, i.bytes)) = some (some (.agg #[.int .u64 0, .int .u64 0, .int .u64 0, .int .u64 0, .int .u64 0, .slice none 0 0, .bool false]), lay_Channel.size, 72) := by kernel_rfl
theorem Try.elemChL : Try.prog.elem 22 = 28 := by kernel_rfl

set_option maxHeartbeats 1000000 in
theorem cloneC_any (A : Option Addr) (n c : Nat) (l : List Chn) (w : World) (h : Sl lay_Channel w (· < w.heap.size) A n c l) (hn : n ≤ 1048576) :
    Calls Try.prog 79 #[.slice A n c] w fun e w' => ∃ v', e = .returned v' ∧ OwnL lay_Channel w' w.heap.size none 28 v' l ∧ Below w.heap.size w w' := by
  have hnil := fun W => run_is_nil (P := Try.prog) W 22 28 A n c Try.underlying22
  cases A with
  | none =>
    have hc := h.no rfl
    have hn0 : n = 0 := by have := h.cap; omega
    subst hc hn0
    have hx : l = [] := List.eq_nil_of_length_eq_zero h.len
    subst hx
    go_enter Try.func79, Try.ntmps79
    go_wp2
    go_ret
    exact ⟨_, rfl, OwnL.nil _ _ _ _ _, Below.refl _ _⟩
  | some a =>
    have hb0 : Below w.heap.size w (w.alloc (Obj.cells #[] 28)) := bel_alloc (Below.refl _ _) _
    have HS := hid (h.keep fun _ hp => hb0.cell hp)
    go_enter Try.func79, Try.ntmps79
    go_wp2_with (at_builtin; go_must (refine wpList_catL rfl _ _ 22 rfl w.heap.size none 28 _ 72 Try.underlying22 Try.infoChL rfl (by decide) (.slice (some ⟨w.heap.size, 0, none⟩) 0 0) [] l (· < w.heap.size) (some a) n c rfl rfl (OwnL.empty lay_Channel _ _ none) HS.out (fun b hb => ⟨trivial, Nat.lt_of_lt_of_le hb hb0.size, fun he => by simp [Value.ownBlock] at he; omega⟩) (by simp) (by simp; omega) (by unfold maxLen; simp; omega) ?_; intro v3 w3 hown3 hext3))
    go_ret
    simp only [List.nil_append] at hown3
    exact ⟨_, rfl, hown3, hb0.trans ((OwnL.empty lay_Channel w _ none).below hext3 (by simp))⟩

theorem place1C_any (s : Array Value) (S : Nat → Prop) (r : Chn) (t : Int) (w : World) (hs : lay_Channel.rep w S r s.toList) :
    Calls Try.prog 78 #[.agg s, .int .u64 t] w fun e w' => e = .returned (.int .i64 (cmpI r.Id t)) ∧ Below w.heap.size w w' := by
  obtain ⟨A', n', c', rfl, hw, hh⟩ := agg_Channel hs
  go_enter Try.func78, Try.ntmps78
  go_wp2_with (go_at_call 51; refine (compare_any _ _ _).mono ?_; rintro e w' ⟨rfl, rfl⟩)
  go_ret
  exact ⟨rfl, by (repeat (first | exact Below.refl _ _ | refine Below.drew ?_ | refine bel_drewN ?_ _ | refine bel_alloc ?_ _ | refine bel_call ?_ (by assumption)))⟩

set_option maxRecDepth 100000 in
set_option maxHeartbeats 2000000 in
theorem searchC_any (A : Option Addr) (n c : Nat) (l : List Chn) (t : Int) (w : World) (hr : Sl lay_Channel w (· < w.heap.size) A n c l) (hn : n ≤ 64) (hR : UpF Chn.Id l) :
    Calls Try.prog 77 #[.slice A n c, .int .u64 t, .func (.func 78) #[] #[]] w fun e w' => ∃ k : Nat, e = .returned (.tuple #[.int .i64 k, .bool (hitF Chn.Id l t k)]) ∧ AtF Chn.Id l t k ∧ Below w.heap.size w w' := by
  have HL := hid hr.len
  have hcap := hr.cap
  unfold maxLen at hcap
  have HR := hid (show UpF Chn.Id l from hR)
  clear hR
  go_enter Try.func77, Try.ntmps77
  go_wp2
  go_loopw [9, 10] (fun u v wr => ∃ i j : Nat, u = .int .i64 i ∧ v = .int .i64 j ∧ EndsF Chn.Id l t i j ∧ Below w.heap.size w wr) (fun u v _ => (intOf v).toNat - (intOf u).toNat)
  case atStart => exact ⟨0, n, rfl, rfl, ⟨Nat.zero_le _, by rw [HL.out]; exact Nat.le_refl _, fun _ _ h => absurd h (by omega), fun k h1 h2 => by rw [HL.out] at h1; omega⟩, Below.refl _ _⟩
  case round =>
    obtain ⟨i, j, rfl, rfl, he, hbel⟩ := hrel
    have hij := he.1
    have hjn : j ≤ n := by rw [← HL.out]; exact he.2.1
    have HE := hid he
    clear he
    by_cases hlt : i < j
    · have hmj : (i + j) / 2 < j := by omega
      have him : i ≤ (i + j) / 2 := by omega
      obtain ⟨b, off, A', n', c', hx, rfl, hb, h0, h1, h2, h3, h4, h5, h6, hw, hh⟩ := chn_at hr (j := (i + j) / 2) (by omega)
      have q0 := (hbel.cell (p := ⟨b, off + (i + j) / 2 * 7, none⟩) hb).trans h0
      have q1 := (hbel.cell (p := ⟨b, off + (i + j) / 2 * 7 + 1, none⟩) hb).trans h1
      have q2 := (hbel.cell (p := ⟨b, off + (i + j) / 2 * 7 + 2, none⟩) hb).trans h2
      have q3 := (hbel.cell (p := ⟨b, off + (i + j) / 2 * 7 + 3, none⟩) hb).trans h3
      have q4 := (hbel.cell (p := ⟨b, off + (i + j) / 2 * 7 + 4, none⟩) hb).trans h4
      have q5 := (hbel.cell (p := ⟨b, off + (i + j) / 2 * 7 + 5, none⟩) hb).trans h5
      have q6 := (hbel.cell (p := ⟨b, off + (i + j) / 2 * 7 + 6, none⟩) hb).trans h6
      have wm : IntKind.i64.wrap ((i : Int) + (j : Int)) = (i : Int) + (j : Int) := IntWalk.i64_in _ (by omega)
      clear h0 h1 h2 h3 h4 h5 h6
      have PR := hid (show lay_Channel.rep wr (· < w.heap.size) l[(i + j) / 2] #[.int .u64 l[(i + j) / 2].Id, .int .u64 l[(i + j) / 2].Local, .int .u64 l[(i + j) / 2].Remote, .int .u64 l[(i + j) / 2].Reserve, .int .u64 l[(i + j) / 2].Most, .slice A' n' c', .bool l[(i + j) / 2].Open].toList from rep_Channel.2 ⟨A', n', c', rfl, hw, hh.keep fun _ hp => hbel.cell hp⟩)
      have HUP := hid (fun hc => HE.out.up HR.out hmj him hx hc)
      have HDN := hid (fun hc => HE.out.down HR.out him hx hc)
      clear hw hh
      generalize hG : l[(i + j) / 2] = r at *
      clear hG
      go_wp2_with fail
      with_reducible refine (place1C_any _ _ r t _ PR.out).mono ?_
      rintro e w2 ⟨rfl, hb2⟩
      have HB := hbel.trans (hb2.mono hbel.size)
      by_cases hc : r.Id < t
      · have hcm : cmpI r.Id t = -1 := by unfold cmpI; rw [if_pos hc]
        have HN := hid (HUP.out hc)
        rw [hcm]
        clear hc hcm
        go_wp2
        go_roundw
        case rel => exact ⟨(i + j) / 2 + 1, j, by go_num, rfl, HN.out, HB⟩
        case measure => simp [intOf]; omega
      · have hcm : decide (cmpI r.Id t < 0) = false := by unfold cmpI; simp [hc]; split <;> omega
        have HN := hid (HDN.out (by omega))
        clear hc
        go_wp2
        go_roundw
        case rel => exact ⟨i, (i + j) / 2, rfl, by go_num, HN.out, HB⟩
        case measure => simp [intOf]; omega
    · obtain rfl : i = j := by omega
      have HA := hid (show AtF Chn.Id l t i from ⟨HE.out.2.1, HE.out.2.2.1, HE.out.2.2.2⟩)
      by_cases hin : i < n
      · obtain ⟨b, off, A', n', c', hx, rfl, hb, h0, h1, h2, h3, h4, h5, h6, hw, hh⟩ := chn_at hr (j := i) hin
        have q0 := (hbel.cell (p := ⟨b, off + i * 7, none⟩) hb).trans h0
        have q1 := (hbel.cell (p := ⟨b, off + i * 7 + 1, none⟩) hb).trans h1
        have q2 := (hbel.cell (p := ⟨b, off + i * 7 + 2, none⟩) hb).trans h2
        have q3 := (hbel.cell (p := ⟨b, off + i * 7 + 3, none⟩) hb).trans h3
        have q4 := (hbel.cell (p := ⟨b, off + i * 7 + 4, none⟩) hb).trans h4
        have q5 := (hbel.cell (p := ⟨b, off + i * 7 + 5, none⟩) hb).trans h5
        have q6 := (hbel.cell (p := ⟨b, off + i * 7 + 6, none⟩) hb).trans h6
        have PR := hid (show lay_Channel.rep wr (· < w.heap.size) l[i] #[.int .u64 l[i].Id, .int .u64 l[i].Local, .int .u64 l[i].Remote, .int .u64 l[i].Reserve, .int .u64 l[i].Most, .slice A' n' c', .bool l[i].Open].toList from rep_Channel.2 ⟨A', n', c', rfl, hw, hh.keep fun _ hp => hbel.cell hp⟩)
        have HT := hid (show (cmpI l[i].Id t == 0) = hitF Chn.Id l t i from by
          rw [hitF_get hx]
          unfold cmpI
          by_cases h : l[i].Id = t
          · simp [h]
          · rw [show (l[i].Id == t) = false from by simpa using h]
            split
            · rfl
            · split
              · rfl
              · omega)
        clear h0 h1 h2 h3 h4 h5 h6 hw hh
        go_wp2_with fail
        with_reducible refine (place1C_any _ _ l[i] t _ PR.out).mono ?_
        rintro e w2 ⟨rfl, hb2⟩
        have HB := hbel.trans (hb2.mono hbel.size)
        generalize cmpI l[i].Id t = cc at *
        go_wp2
        go_ret2
        exact ⟨i, by rw [← HT.out]; rfl, HA.out, HB⟩
      · have hin' : decide ((i : Int) < (n : Int)) = false := by simp; omega
        have HT := hid (show hitF Chn.Id l t i = false from hitF_out (by rw [HL.out]; omega))
        go_wp2
        go_ret2
        exact ⟨i, by rw [HT.out]; rfl, HA.out, hbel⟩
theorem placeC_any (A : Option Addr) (n c : Nat) (l : List Chn) (t : Int) (w : World) (hr : Sl lay_Channel w (· < w.heap.size) A n c l) (hn : n ≤ 64) (hR : UpF Chn.Id l) :
    Calls Try.prog 58 #[.slice A n c, .int .u64 t] w fun e w' => ∃ k : Nat, e = .returned (.tuple #[.int .i64 k, .bool (hitF Chn.Id l t k)]) ∧ AtF Chn.Id l t k ∧ Below w.heap.size w w' := by
  go_enter Try.func58, Try.ntmps58
  go_wp2_with fail
  with_reducible refine (searchC_any _ _ _ l t _ hr hn hR).mono ?_
  rintro e w2 ⟨k, rfl, hk, hb2⟩
  have HK := hid hk
  clear hk
  obtain ⟨dd, hdd⟩ : ∃ d, hitF Chn.Id l t k = d := ⟨_, rfl⟩
  rw [hdd]
  have HD := hid hdd
  clear hdd
  go_wp2
  go_ret2
  exact ⟨k, by rw [HD.out]; rfl, HK.out, hb2⟩

set_option maxRecDepth 100000 in
set_option maxHeartbeats 4000000 in
/-- The channel with holds of its own. -/
theorem copyOf_any (s : Array Value) (c : Chn) (w : World) (r : lay_Channel.rep w (· < w.heap.size) c s.toList) (hn : c.Holds.length ≤ 1048576) :
    Calls Try.prog 42 #[.agg s] w fun e w' => ∃ v, e = .returned v ∧ OwnC w' w.heap.size v c ∧ Below w.heap.size w w' := by
  obtain ⟨A, n, k, rfl, hw, hs⟩ := agg_Channel r
  clear r
  have HL := hid hs.len
  have hcap := hs.cap
  unfold maxLen at hcap
  rw [HL.out] at hn
  have hb0 : Below w.heap.size w ((w.alloc (Obj.cells #[.int .u64 c.Id, .int .u64 c.Local, .int .u64 c.Remote, .int .u64 c.Reserve, .int .u64 c.Most, .slice A n k, .bool c.Open] 28)).alloc (Obj.cells #[.int .u64 0, .int .u64 0, .int .u64 0, .int .u64 0, .int .u64 0, .slice none 0 0, .bool false] 28)) := bel_alloc (bel_alloc (Below.refl _ _) _) _
  have BC : BoxC ((w.alloc (Obj.cells #[.int .u64 c.Id, .int .u64 c.Local, .int .u64 c.Remote, .int .u64 c.Reserve, .int .u64 c.Most, .slice A n k, .bool c.Open] 28)).alloc (Obj.cells #[.int .u64 0, .int .u64 0, .int .u64 0, .int .u64 0, .int .u64 0, .slice none 0 0, .bool false] 28)) w.heap.size c A n k := heap_alloc2_old _ _ _
  have BR : BoxC ((w.alloc (Obj.cells #[.int .u64 c.Id, .int .u64 c.Local, .int .u64 c.Remote, .int .u64 c.Reserve, .int .u64 c.Most, .slice A n k, .bool c.Open] 28)).alloc (Obj.cells #[.int .u64 0, .int .u64 0, .int .u64 0, .int .u64 0, .int .u64 0, .slice none 0 0, .bool false] 28)) (w.heap.size + 1) zeroCh none 0 0 := alloc2_new _ _ _
  have HZ := hid (show ((w.alloc (Obj.cells #[.int .u64 c.Id, .int .u64 c.Local, .int .u64 c.Remote, .int .u64 c.Reserve, .int .u64 c.Most, .slice A n k, .bool c.Open] 28)).alloc (Obj.cells #[.int .u64 0, .int .u64 0, .int .u64 0, .int .u64 0, .int .u64 0, .slice none 0 0, .bool false] 28)).heap.size = w.heap.size + 2 from by simp)
  have S0 := Sl.call hs hb0
  go_enter Try.func42, Try.ntmps42
  go_upto_region 1 with (fail)
  generalize ((w.alloc (Obj.cells #[.int .u64 c.Id, .int .u64 c.Local, .int .u64 c.Remote, .int .u64 c.Reserve, .int .u64 c.Most, .slice A n k, .bool c.Open] 28)).alloc (Obj.cells #[.int .u64 0, .int .u64 0, .int .u64 0, .int .u64 0, .int .u64 0, .slice none 0 0, .bool false] 28)) = W0 at *
  obtain ⟨p0, p1, p2, p3, p4, p5, p6⟩ := BC.all
  go_wp2_with fail
  with_reducible refine (cloneH_any A n k c.Holds W0 S0 (by omega)).mono ?_
  rintro e w6 ⟨v6, rfl, ho6', hb6⟩
  have ho6 := ho6'.hld W0.heap.size
  obtain ⟨A7, n7, c7, rfl, hs7⟩ := ho6.read
  have BC6 := BC.call hb6
  have BR6 := BR.call hb6
  have HB6 := bel_call hb0 hb6
  have BC8 : BoxC (w6.setCell ⟨w.heap.size, 5, none⟩ (.slice A7 n7 c7)) w.heap.size c A7 n7 c7 := BC6.setHol A7 n7 c7
  have BR8 := BR6.setOther (b := w.heap.size) (by omega) 5 (.slice A7 n7 c7)
  have HB8 := HB6.setCell (p := ⟨w.heap.size, 5, none⟩) (Nat.le_refl _) (.slice A7 n7 c7)
  have HO8 := ho6.setLow (b := w.heap.size) (by rw [HZ.out]; omega) (by rw [HZ.out]; omega) 5 (.slice A7 n7 c7)
  clear p0 p1 p2 p3 p4 p5 p6
  have y5 := BC6.all.2.2.2.2.2.1
  have g5 := BC6.f 5
  clear BC BR ho6 ho6' hb6 hs7 HB6 BR6 BC6 hb0 S0
  go_upto_region 2 with (fail)
  clear y5 g5
  generalize w6.setCell ⟨w.heap.size, 5, none⟩ (.slice A7 n7 c7) = W8 at *
  have B9 := hid (BR8.set c A7 n7 c7)
  have HB9 := hid (Below.setBox HB8 (g := w.heap.size + 1) (Nat.le_succ _) c A7 n7 c7)
  have HO9 := hid ((OwnL.setBox HO8 (g := w.heap.size + 1) (by rw [HZ.out]; omega) c A7 n7 c7).lows (base' := w.heap.size) (lo' := w.heap.size) (by rw [HZ.out]; omega) (by rw [HZ.out]; omega))
  obtain ⟨p0, p1, p2, p3, p4, p5, p6⟩ := BC8.all
  obtain ⟨z0, z1, z2, z3, z4, z5, z6⟩ := BR8.all
  have f0 := BR8.f 0
  have f1 := BR8.f 1
  have f2 := BR8.f 2
  have f3 := BR8.f 3
  have f4 := BR8.f 4
  have f5 := BR8.f 5
  have f6 := BR8.f 6
  clear BC8 BR8 HB8 HO8
  go_wp2
  refine bodyPost_ret_by (results_c rfl _ _ (w.heap.size + 1) 0 rfl [.int .u64 c.Id, .int .u64 c.Local, .int .u64 c.Remote, .int .u64 c.Reserve, .int .u64 c.Most, .slice A7 n7 c7, .bool c.Open] _ (range7 B9.out) Try.underlying28 rfl (by kernel_rfl)) rfl ?_
  exact ⟨_, rfl, ⟨_, rfl, HO9.out⟩, HB9.out⟩

theorem setFrom7 (w : World) (g i : Nat) (a b c d e f h : Value) : setFrom w g i [a, b, c, d, e, f, h] = ((((((w.setCell ⟨g, i, none⟩ a).setCell ⟨g, i + 1, none⟩ b).setCell ⟨g, i + 2, none⟩ c).setCell ⟨g, i + 3, none⟩ d).setCell ⟨g, i + 4, none⟩ e).setCell ⟨g, i + 5, none⟩ f).setCell ⟨g, i + 6, none⟩ h := rfl

set_option maxRecDepth 100000 in
set_option maxHeartbeats 4000000 in
/-- Channels with holds of their own. -/
theorem copies_any (A : Option Addr) (n k : Nat) (l : List Chn) (w : World) (h : Sl lay_Channel w (· < w.heap.size) A n k l) (hn : n ≤ 1048576) (hh : ∀ c ∈ l, c.Holds.length ≤ 1048576) :
    Calls Try.prog 60 #[.slice A n k] w fun e w' => ∃ v, e = .returned v ∧ OwnL lay_Channel w' w.heap.size (some w.heap.size) 28 v l ∧ Below w.heap.size w w' := by
  have HL := hid h.len
  have HH := hid hh
  clear hh
  go_enter Try.func60, Try.ntmps60
  go_wp2_with fail
  with_reducible refine (cloneC_any A n k l w h hn).mono ?_
  rintro e w1 ⟨v1, rfl, ho1, hb1⟩
  obtain ⟨A1, n1, c1, rfl, hs1⟩ := ho1.read
  obtain rfl : n1 = n := by rw [← hs1.len, HL.out]
  have HM := hid (ho1.mixV w.heap.size)
  have hcap := hs1.cap
  unfold maxLen at hcap
  clear hs1 ho1
  go_wp2
  go_loopw [10] (fun i wr => ∃ j : Nat, j ≤ n1 ∧ i = .int .i64 j ∧ MixV lay_Channel wr w.heap.size w.heap.size 28 A1 n1 c1 l j ∧ Below w.heap.size w wr) (fun i _ => n1 - (intOf i).toNat)
  case atStart => exact ⟨0, Nat.zero_le _, rfl, HM.out, hb1⟩
  case round =>
    obtain ⟨j, hj, rfl, hm, hbel⟩ := hrel
    by_cases hlt : j < n1
    · rcases hm with ⟨-, h0, -, -⟩ | ⟨g, rfl, hm⟩
      · omega
      obtain ⟨cs, hx, hr, hc, -⟩ := hm.elem hlt
      obtain ⟨A', n', c', rfl, hw, hs⟩ := rep_Channel.1 hr
      have k0 : wr.cell? ⟨g, j * 7, none⟩ = some (.int .u64 l[j].Id) := hc 0 _ rfl
      have k1 : wr.cell? ⟨g, j * 7 + 1, none⟩ = some (.int .u64 l[j].Local) := hc 1 _ rfl
      have k2 : wr.cell? ⟨g, j * 7 + 2, none⟩ = some (.int .u64 l[j].Remote) := hc 2 _ rfl
      have k3 : wr.cell? ⟨g, j * 7 + 3, none⟩ = some (.int .u64 l[j].Reserve) := hc 3 _ rfl
      have k4 : wr.cell? ⟨g, j * 7 + 4, none⟩ = some (.int .u64 l[j].Most) := hc 4 _ rfl
      have k5 : wr.cell? ⟨g, j * 7 + 5, none⟩ = some (.slice A' n' c') := hc 5 _ rfl
      have k6 : wr.cell? ⟨g, j * 7 + 6, none⟩ = some (.bool l[j].Open) := hc 6 _ rfl
      have hba := bel_alloc (Below.refl wr.heap.size wr) (Obj.cells #[.int .u64 l[j].Id, .int .u64 l[j].Local, .int .u64 l[j].Remote, .int .u64 l[j].Reserve, .int .u64 l[j].Most, .slice A' n' c', .bool l[j].Open] 28)
      have PR := hid (chan_in hw (hs.wide fun b hb => hb.2.1) hba)
      have hle : l[j].Holds.length ≤ 1048576 := HH.out _ (List.getElem_mem hx)
      have HW := hid hw
      have HMM := hid hm
      clear hc hr hs hw hm
      have hsz := hbel.size
      go_wp2_with fail
      with_reducible refine (copyOf_any _ l[j] _ PR.out hle).mono ?_
      rintro e w2 ⟨v2, rfl, ⟨u, rfl, ho⟩, hb2⟩
      have HBB := bel_call hba hb2
      obtain ⟨Au, nu, cu, rfl, hsu⟩ := ho.sl (low := wr.heap.size) (by simp) (by simp)
      have hm2 := HMM.out.keep HBB
      have hg := HMM.out.lt
      have HR := hid (show lay_Channel.rep w2 (Els w2 (some w.heap.size) (.slice (some ⟨g, 0, none⟩) n1 c1)) l[j] [.int .u64 l[j].Id, .int .u64 l[j].Local, .int .u64 l[j].Remote, .int .u64 l[j].Reserve, .int .u64 l[j].Most, .slice Au nu cu, .bool l[j].Open] from rep_Channel.2 ⟨Au, nu, cu, rfl, HW.out, hsu.wide fun b hb => ⟨⟨Nat.le_trans hsz hb.1, hb.2.2⟩, hb.2.1, fun e => by
        have h1 := hb.1
        have h2 := hg.2
        simp [Value.ownBlock] at e
        omega⟩⟩)
      have HM9 := hid (hm2.all_ hlt hx HR.out)
      rw [size_lay_Channel, setFrom7] at HM9
      have HB9 := hid (Below.all_ hg.1 [.int .u64 l[j].Id, .int .u64 l[j].Local, .int .u64 l[j].Remote, .int .u64 l[j].Reserve, .int .u64 l[j].Most, .slice Au nu cu, .bool l[j].Open] (j * 7) w2 (hbel.trans (HBB.mono hsz)))
      rw [setFrom7] at HB9
      obtain ⟨cs2, hx2, hr2, hc2, hf2⟩ := hm2.elem hlt
      obtain ⟨A'', n'', c'', rfl, -, -⟩ := rep_Channel.1 hr2
      have y0 : w2.cell? ⟨g, j * 7, none⟩ = some (.int .u64 l[j].Id) := hc2 0 _ rfl
      have f0 := hf2 (j * 7)
      have y1 : w2.cell? ⟨g, j * 7 + 1, none⟩ = some (.int .u64 l[j].Local) := hc2 1 _ rfl
      have f1 := hf2 (j * 7 + 1)
      have y2 : w2.cell? ⟨g, j * 7 + 2, none⟩ = some (.int .u64 l[j].Remote) := hc2 2 _ rfl
      have f2 := hf2 (j * 7 + 2)
      have y3 : w2.cell? ⟨g, j * 7 + 3, none⟩ = some (.int .u64 l[j].Reserve) := hc2 3 _ rfl
      have f3 := hf2 (j * 7 + 3)
      have y4 : w2.cell? ⟨g, j * 7 + 4, none⟩ = some (.int .u64 l[j].Most) := hc2 4 _ rfl
      have f4 := hf2 (j * 7 + 4)
      have y5 : w2.cell? ⟨g, j * 7 + 5, none⟩ = some (.slice A'' n'' c'') := hc2 5 _ rfl
      have f5 := hf2 (j * 7 + 5)
      have y6 : w2.cell? ⟨g, j * 7 + 6, none⟩ = some (.bool l[j].Open) := hc2 6 _ rfl
      have f6 := hf2 (j * 7 + 6)
      clear hc2 hf2 hr2 hm2 ho hsu hb2 hba HBB
      go_wp2
      go_roundw
      case rel => exact ⟨j + 1, by omega, by go_num, .inr ⟨g, rfl, HM9.out⟩, HB9.out⟩
      case measure => simp [intOf]; omega
    · have hjn : j = n1 := by omega
      rw [hjn] at hm
      have HO := hid hm.own
      go_wp2
      go_ret
      exact ⟨_, rfl, HO.out, hbel⟩
end Go.Proofs.Ytpkfejfdbjoehaa
namespace Go.Proofs.Ytpkfejfdbjoehaa
open Go.RowKit Go.WalkArith

theorem made_listL (n : Nat) (z : Value) : madeCells #[z] n = (List.replicate n z).toArray := by
  apply Array.ext
  · simp [size_madeCells]
  · intro i h1 h2
    simp [madeCells, Nat.mod_one]
/-- Numbers written one by one into a row of zeros. -/
def partL (f : Chn → Value) (z : Value) (l : List Chn) (n j : Nat) : List Value := (l.take j).map f ++ List.replicate (n - j) z
theorem part_next {f : Chn → Value} {z : Value} {l : List Chn} {n j : Nat} (hl : l.length = n) (hj : j < n) (hx : j < l.length) : (partL f z l n j).set j (f l[j]) = partL f z l n (j + 1) := by
  have h1 : ((l.take j).map f).length = j := by simp; omega
  unfold partL
  rw [List.set_append_right _ _ (by omega), h1, Nat.sub_self, show n - j = n - (j + 1) + 1 from by omega, List.replicate_succ, List.set_cons_zero, List.take_succ_eq_append_getElem hx, List.map_append, List.append_assoc]
  rfl
theorem part_len {f : Chn → Value} {z : Value} {l : List Chn} {n j : Nat} (hl : l.length = n) (hj : j ≤ n) : (partL f z l n j).length = n := by
  unfold partL
  simp; omega
theorem part_at {f : Chn → Value} {z : Value} {l : List Chn} {n j : Nat} (hl : l.length = n) (hj : j < n) : (partL f z l n j)[j]? = some z := by
  have h1 : ((l.take j).map f).length = j := by simp; omega
  unfold partL
  rw [List.getElem?_append_right (by omega), h1, Nat.sub_self, List.getElem?_replicate, if_pos (by omega)]
/-- A row of numbers that fills its block. -/
theorem Rd.block {w : World} {B g : Nat} {t : TypeId} {xs : List Int} (hg : w.heap[g]? = some (.cells (xs.map (Value.int .u64)).toArray t (0, 0))) (hB : g < B) (hm : xs.length ≤ maxLen) (hw : ∀ x ∈ xs, (Lit.int .u64 x).wf = true) : Rd w B .u64 (some ⟨g, 0, none⟩) xs.length xs.length xs := by
  refine ⟨rfl, Nat.le_refl _, hm, hw, by simp, fun _ => ⟨g, 0, rfl, hB, fun j hj => ?_⟩⟩
  rw [nth_get hj, Nat.zero_add]
  simp [World.cell?, hg, List.getElem?_eq_getElem hj]

set_option maxRecDepth 100000 in
set_option maxHeartbeats 4000000 in
/-- What the channels' parts are together, whatever part it is. -/
theorem lTogether_any (F : Nat) (val err : Chn → Int) (hF : ∀ (s : Array Value) (c : Chn) (w : World), lay_Channel.rep w (· < w.heap.size) c s.toList → Calls Try.prog F #[.agg s] w fun e w' => e = .returned (.tuple #[.int .u64 (val c), .int .i64 (err c)]) ∧ Below w.heap.size w w')
    (hE : ∀ (args : Array Value) (w : World), (callFunc F args).run Try.prog w = .ok (.enter F args) w) (A : Option Addr) (n k : Nat) (l : List Chn) (hv : ∀ c ∈ l, (Lit.int .u64 (val c)).wf = true) (w : World) (h : Sl lay_Channel w (· < w.heap.size) A n k l) (hn : n ≤ 1048576) :
    Calls Try.prog 55 #[.slice A n k, .func (.func F) #[] #[]] w fun e w' => ∃ v x, e = .returned (.tuple #[.int .u64 v, .int .i64 x]) ∧ ((∀ c ∈ l, err c = 0) → v = addN (l.map val) ∧ x = addE (l.map val)) ∧ ((∃ c ∈ l, err c ≠ 0) → x ≠ 0) ∧ Below w.heap.size w w' := by
  have HL := hid h.len
  have HF := hid hF
  have HV := hid hv
  have hcap := h.cap
  unfold maxLen at hcap
  clear hF hv
  have hmk := run_make_row' (P := Try.prog) 34 24 (.int .u64 0) 8 Try.underlying34 Try.infoU64 rfl .i64 .i64 n (by omega) (by omega) w
  have hg0 : (w.alloc (.cells (madeCells #[.int .u64 0] n) 24)).heap[w.heap.size]? = some (.cells (partL (fun c => .int .u64 (val c)) (.int .u64 0) l n 0).toArray 24 (0, 0)) := by
    rw [heap_alloc_new, made_listL]
    simp [partL]
  have hb0 := bel_alloc (Below.refl w.heap.size w) (.cells (madeCells #[.int .u64 0] n) 24)
  go_enter Try.func55, Try.ntmps55
  go_wp2
  go_loopw [16] (fun i wr => ∃ j : Nat, j ≤ n ∧ i = .int .i64 j ∧ wr.heap[w.heap.size]? = some (.cells (partL (fun c => .int .u64 (val c)) (.int .u64 0) l n j).toArray 24 (0, 0)) ∧ (∀ c ∈ l.take j, err c = 0) ∧ Below w.heap.size w wr) (fun i _ => n - (intOf i).toNat)
  case atStart => exact ⟨0, Nat.zero_le _, rfl, hg0, by simp, hb0⟩
  case round =>
    obtain ⟨j, hj, rfl, hg, hpre, hbel⟩ := hrel
    have HG := hid hg
    have HP := hid hpre
    clear hg hpre
    by_cases hlt : j < n
    · obtain ⟨b, off, A', n', c', hx, rfl, hb, t0, t1, t2, t3, t4, t5, t6, hw, hs⟩ := chn_at h hlt
      have q0 := (hbel.cell (p := ⟨b, off + j * 7, none⟩) hb).trans t0
      have q1 := (hbel.cell (p := ⟨b, off + j * 7 + 1, none⟩) hb).trans t1
      have q2 := (hbel.cell (p := ⟨b, off + j * 7 + 2, none⟩) hb).trans t2
      have q3 := (hbel.cell (p := ⟨b, off + j * 7 + 3, none⟩) hb).trans t3
      have q4 := (hbel.cell (p := ⟨b, off + j * 7 + 4, none⟩) hb).trans t4
      have q5 := (hbel.cell (p := ⟨b, off + j * 7 + 5, none⟩) hb).trans t5
      have q6 := (hbel.cell (p := ⟨b, off + j * 7 + 6, none⟩) hb).trans t6
      have hba := bel_alloc (Below.refl wr.heap.size wr) (Obj.cells #[.int .u64 l[j].Id, .int .u64 l[j].Local, .int .u64 l[j].Remote, .int .u64 l[j].Reserve, .int .u64 l[j].Most, .slice A' n' c', .bool l[j].Open] 28)
      have PR := hid (chan_in hw (Sl.call hs hbel) hba)
      have hsz := hbel.size
      have HM := hid (List.getElem_mem hx)
      have HT := hid (List.take_succ_eq_append_getElem hx)
      have HN := hid (part_next (f := fun c => .int .u64 (val c)) (z := .int .u64 0) HL.out hlt hx)
      clear t0 t1 t2 t3 t4 t5 t6 hw hs
      go_wp2_with fail
      with_reducible refine (HF.out _ l[j] _ PR.out).mono ?_
      rintro e w2 ⟨rfl, hb2⟩
      have HBB := bel_call hba hb2
      have HB2 := hbel.trans (HBB.mono hsz)
      have hg2 := (HBB.block w.heap.size (Array.getElem?_eq_some_iff.1 HG.out).1).trans HG.out
      clear hb2 hba
      by_cases he : err l[j] = 0
      · have HE := hid he
        rw [he]
        clear he
        have y0 : w2.cell? ⟨w.heap.size, j, none⟩ = some (.int .u64 0) := by
          simp only [World.cell?, hg2]
          simpa using part_at (f := fun c => .int .u64 (val c)) (z := .int .u64 0) HL.out hlt
        have f0 : w2.frozen? ⟨w.heap.size, j, none⟩ = false := by simp [World.frozen?, hg2]
        have HG9 := hid (show (w2.setCell ⟨w.heap.size, j, none⟩ (.int .u64 (val l[j]))).heap[w.heap.size]? = some (.cells (partL (fun c => .int .u64 (val c)) (.int .u64 0) l n (j + 1)).toArray 24 (0, 0)) from by
          rw [heap_setCell_same _ _ _ _ _ _ hg2, ← HN.out]
          simp)
        have HB9 := hid (HB2.setCell (p := ⟨w.heap.size, j, none⟩) (Nat.le_refl _) (.int .u64 (val l[j])))
        clear hg2 HB2
        go_wp2
        go_roundw
        case rel => exact ⟨j + 1, by omega, by go_num, HG9.out, by
          rw [HT.out]
          intro c hc
          rcases List.mem_append.1 hc with hc | hc
          · exact HP.out c hc
          · simp at hc
            rw [hc]; exact HE.out, HB9.out⟩
        case measure => simp [intOf]; omega
      · have HE := hid he
        have hne : (err l[j] == 0) = false := by simpa using he
        have hne2 : (err l[j] != 0) = true := by simpa using he
        generalize hq : err l[j] = x at *
        have HQ := hid hq
        clear hq he
        go_wp2
        go_ret2
        exact ⟨0, x, rfl, fun hz => absurd (HQ.out.symm.trans (hz _ HM.out)) HE.out, fun _ => HE.out, HB2⟩
    · have hjn : j = n := by omega
      have HE2 := hid (show l.take j = l from List.take_of_length_le (by rw [HL.out]; omega))
      have HRD := hid (show Rd wr (w.heap.size + 1) .u64 (some ⟨w.heap.size, 0, none⟩) n n (l.map val) from by
        have hg := HG.out
        have e1 : partL (fun c => Value.int .u64 (val c)) (.int .u64 0) l n j = (l.map val).map (Value.int .u64) := by
          unfold partL
          rw [HE2.out, hjn, Nat.sub_self]
          simp [Function.comp_def]
        rw [e1] at hg
        have := Rd.block hg (Nat.lt_succ_self _) (by simp; rw [HL.out]; unfold maxLen; omega) (fun x hx => by
          obtain ⟨c, hc, rfl⟩ := List.mem_map.1 hx
          exact HV.out c hc)
        rw [List.length_map, HL.out] at this
        exact this)
      have hlt' := (Array.getElem?_eq_some_iff.1 HG.out).1
      go_wp2_with fail
      with_reducible refine (mAdd_any _ n n _ (l.map val) wr HRD.out (Nat.succ_le_of_lt hlt')).mono ?_
      rintro e w2 ⟨rfl, hb2⟩
      go_wp2
      go_ret2
      exact ⟨_, _, rfl, fun _ => ⟨rfl, rfl⟩, fun ⟨c, hc, hne⟩ => absurd (HP.out c (by rw [HE2.out]; exact hc)) hne, hbel.trans (hb2.mono hbel.size)⟩

end Go.Proofs.Ytpkfejfdbjoehaa
namespace Go.Proofs.Ytpkfejfdbjoehaa
open Go.RowKit Go.WalkArith Go.Maps

/-! ### Which channel has which hold, as a row of pairs -/
def prsH (c : Chn) (hs : List Hld) : List (Int × Int) := hs.map fun h => (h.Id, c.Id)
def prsC (l : List Chn) : List (Int × Int) := l.flatMap fun c => prsH c c.Holds
def lookP (ps : List (Int × Int)) (k : Int) : Option Int := (ps.find? fun p => p.1 == k).map (·.2)
theorem lookP_none {ps : List (Int × Int)} {k : Int} : lookP ps k = none ↔ ∀ p ∈ ps, p.1 ≠ k := by
  unfold lookP
  rw [Option.map_eq_none_iff, List.find?_eq_none]
  simp
theorem lookP_snoc {ps : List (Int × Int)} {a b : Int} (h : lookP ps a = none) (k : Int) : lookP (ps ++ [(a, b)]) k = if k = a then some b else lookP ps k := by
  by_cases e : k = a
  · subst e
    have h1 := lookP_none.1 h
    unfold lookP
    rw [if_pos rfl, List.find?_append, List.find?_eq_none.2 fun p hp => by have := h1 p hp; simpa using this]
    simp
  · unfold lookP
    rw [if_neg e, List.find?_append]
    cases hf : ps.find? fun p => p.1 == k with
    | some p => simp
    | none => simp; intro h; exact absurd h.symm e
theorem lookP_hold (c : Chn) (hs : List Hld) (k : Int) : lookP (prsH c hs) k = (holdF hs k).map fun _ => c.Id := by
  unfold lookP prsH holdF
  rw [List.find?_map]
  cases hf : hs.find? ((fun p : Int × Int => p.1 == k) ∘ fun h => (h.Id, c.Id)) with
  | none =>
    have : (hs.find? fun r => r.Id == k) = none := hf
    rw [this]; rfl
  | some x =>
    have : (hs.find? fun r => r.Id == k) = some x := hf
    rw [this]; rfl
theorem lookP_where : ∀ (l : List Chn) (k : Int), lookP (prsC l) k = (whereF l k).map (·.Id)
  | [], k => rfl
  | c :: l, k => by
    have ih := lookP_where l k
    have e : prsC (c :: l) = prsH c c.Holds ++ prsC l := rfl
    have h1 := lookP_hold c c.Holds k
    rw [e]
    unfold lookP at h1 ih ⊢
    unfold whereF at ih ⊢
    rw [List.find?_append, List.find?_cons]
    cases hh : holdF c.Holds k with
    | none =>
      rw [hh] at h1
      have : (prsH c c.Holds).find? (fun p => p.1 == k) = none := by simpa using h1
      rw [this]
      simpa using ih
    | some x =>
      rw [hh] at h1
      cases hf : (prsH c c.Holds).find? (fun p => p.1 == k) with
      | none => rw [hf] at h1; cases h1
      | some p => rw [hf] at h1; simpa using h1
theorem prs_keys (l : List Chn) : (prsC l).map (·.1) = l.flatMap fun c => c.Holds.map (·.Id) := by
  unfold prsC prsH
  rw [List.map_flatMap]
  simp [Function.comp_def]
theorem prs_apart {l : List Chn} (h : ((prsC l).map (·.1)).Nodup) : HApart l := by
  rw [prs_keys] at h
  have := (List.pairwise_flatMap.1 h).2
  unfold HApart
  refine this.imp ?_
  intro a b hab x hx y hy
  exact hab _ (List.mem_map_of_mem hx) _ (List.mem_map_of_mem hy)
theorem prs_nodup {l : List Chn} (g : LgOk l) : ((prsC l).map (·.1)).Nodup := by
  rw [prs_keys]
  refine List.pairwise_flatMap.2 ⟨fun c hc => ?_, g.2.2.2.1.imp fun {a b} hab x hx y hy => ?_⟩
  · have hu : HUp c.Holds := (g.2.1 c hc).2.2.2.2.2.1
    exact List.pairwise_map.2 (hu.imp fun {a b} hab => by
      have : a.Id < b.Id := hab
      omega)
  · obtain ⟨x', hx', rfl⟩ := List.mem_map.1 hx
    obtain ⟨y', hy', rfl⟩ := List.mem_map.1 hy
    exact hab x' hx' y' hy'
theorem prs_len : ∀ (l : List Chn), (∀ c ∈ l, c.Holds.length ≤ 64) → (prsC l).length ≤ l.length * 64
  | [], _ => Nat.zero_le _
  | c :: l, h => by
    have ih := prs_len l fun x hx => h x (by simp [hx])
    have h1 := h c (by simp)
    show (prsH c c.Holds ++ prsC l).length ≤ _
    rw [List.length_append, List.length_cons]
    have : (prsH c c.Holds).length = c.Holds.length := by simp [prsH]
    omega
/-- The pairs of the channels ahead of place j, and of so many holds of that one. -/
def prsU (l : List Chn) (j : Nat) (c : Chn) (i : Nat) : List (Int × Int) := prsC (l.take j) ++ prsH c (c.Holds.take i)
theorem prsU_zero (l : List Chn) (j : Nat) (c : Chn) : prsU l j c 0 = prsC (l.take j) := by simp [prsU, prsH]
theorem prsU_next {l : List Chn} {j i : Nat} {c : Chn} (hi : i < c.Holds.length) : prsU l j c (i + 1) = prsU l j c i ++ [(c.Holds[i].Id, c.Id)] := by
  unfold prsU prsH
  rw [List.take_succ_eq_append_getElem hi, List.map_append, List.append_assoc]
  rfl
theorem prsU_all {l : List Chn} {j : Nat} (hj : j < l.length) : prsU l j l[j] l[j].Holds.length = prsC (l.take (j + 1)) := by
  unfold prsU prsC
  rw [List.take_of_length_le (Nat.le_refl _), List.take_succ_eq_append_getElem hj, List.flatMap_append, List.flatMap_cons, List.flatMap_nil, List.append_nil]
theorem prsU_len {l : List Chn} {j i : Nat} (hj : j < l.length) (hl : l.length ≤ 32) (h : ∀ c ∈ l, c.Holds.length ≤ 64) : (prsU l j l[j] i).length ≤ 4096 := by
  have h1 := prs_len (l.take j) fun c hc => h c (List.mem_of_mem_take hc)
  have h2 := h l[j] (List.getElem_mem hj)
  have h3 : (l.take j).length ≤ 32 := by rw [List.length_take]; omega
  unfold prsU prsH
  rw [List.length_append, List.length_map, List.length_take]
  omega
/-- A number met for the second time: channels that may not be. -/
theorem prsU_dup {l : List Chn} {j i : Nat} (hj : j < l.length) (hi : i < l[j].Holds.length) (h : lookP (prsU l j l[j] i) l[j].Holds[i].Id ≠ none) : ¬ LgOk l := fun g => by
  have hn := prs_nodup g
  have e1 : prsC l = prsC (l.take j) ++ (prsH l[j] l[j].Holds ++ prsC (l.drop (j + 1))) := by
    conv => lhs; rw [← List.take_append_drop j l, List.drop_eq_getElem_cons hj]
    unfold prsC
    rw [List.flatMap_append, List.flatMap_cons]
  have e2 : prsH l[j] l[j].Holds = prsH l[j] (l[j].Holds.take i) ++ ((l[j].Holds[i].Id, l[j].Id) :: prsH l[j] (l[j].Holds.drop (i + 1))) := by
    conv => lhs; rw [← List.take_append_drop i l[j].Holds, List.drop_eq_getElem_cons hi]
    unfold prsH
    rw [List.map_append, List.map_cons]
  have e3 : prsC l = prsU l j l[j] i ++ ((l[j].Holds[i].Id, l[j].Id) :: (prsH l[j] (l[j].Holds.drop (i + 1)) ++ prsC (l.drop (j + 1)))) := by
    rw [e1, e2]
    unfold prsU
    simp
  rw [e3, List.map_append, List.map_cons] at hn
  have hp := (List.nodup_append.1 hn).2.2
  refine h (lookP_none.2 fun p hm e => ?_)
  exact hp p.1 (List.mem_map_of_mem hm) l[j].Holds[i].Id (by simp) e
theorem lup_zero (l : List Chn) : LUp (l.take 0) := by simp [LUp]
theorem lup_one (l : List Chn) : LUp (l.take 1) := by cases l <;> simp [LUp]
theorem lup_next {l : List Chn} {q : Nat} (hx : q + 1 < l.length) (h : LUp (l.take (q + 1))) (hlt : l[q].Id < l[q + 1].Id) : LUp (l.take (q + 1 + 1)) := by
  unfold LUp at h ⊢
  rw [List.take_succ_eq_append_getElem hx, List.pairwise_append]
  refine ⟨h, by simp, fun a ha b hb => ?_⟩
  simp at hb
  subst hb
  rw [List.take_succ_eq_append_getElem (show q < l.length by omega)] at h ha
  rcases List.mem_append.1 ha with ha | ha
  · have := (List.pairwise_append.1 h).2.2 a ha l[q] (by simp)
    omega
  · simp at ha
    subst ha
    exact hlt

/-! ### The map -/
theorem hmLaw : Maps.Keyed Try.prog 24 := Maps.int_keyed Try.underlying24
theorem hmZero (w : World) : (zeroValue 24).run Try.prog w = .ok (.int .u64 0) w := by kernel_rfl
/-- The map in block b holds these pairs; no first one of them is there twice. -/
def HomeTo (w : World) (b : Nat) (ps : List (Int × Int)) : Prop := (ps.map (·.1)).Nodup ∧ ∃ (D : DataW Unit), w.ownsMap Try.prog 24 (plainElem Try.prog 24) b ps.length D ∧
  (∀ k, (Lit.int .u64 k).wf = true → Maps.has D (.int .u64 k) = (lookP ps k).isSome) ∧ (∀ k m, (Lit.int .u64 k).wf = true → lookP ps k = some m → ∀ z, D.atKey (.int .u64 k) z = .lit (.int .u64 m))
set_option maxRecDepth 100000 in
theorem homeTo_made (w : World) : HomeTo (w.alloc (.map #[] 0)) w.heap.size [] :=
  ⟨List.nodup_nil, .map [], World.ownsMap_made _ _ _ _, fun k _ => by simp [Maps.has, lookP], fun k m _ h => by simp [lookP] at h⟩
theorem HomeTo.lt {w : World} {b : Nat} {l : List (Int × Int)} (h : HomeTo w b l) : b < w.heap.size := let ⟨_, _, h1, _⟩ := h; h1.lt
theorem HomeTo.of_block {w w' : World} {b : Nat} {l : List (Int × Int)} (h : HomeTo w b l) (hb : w'.heap[b]? = w.heap[b]?) : HomeTo w' b l := by
  obtain ⟨h0, D, ⟨es, clock, h1, h2⟩, h3⟩ := h
  exact ⟨h0, D, ⟨es, clock, hb.trans h1, h2⟩, h3⟩
theorem HomeTo.below {w w' : World} {b : Nat} {l : List (Int × Int)} (h : HomeTo w b l) (hb : Below w.heap.size w w') : HomeTo w' b l := h.of_block (hb.block b h.lt)
set_option maxRecDepth 100000 in
theorem HomeTo.put {w : World} {b : Nat} {ps : List (Int × Int)} (h : HomeTo w b ps) {x y : Int} (hx : (Lit.int .u64 x).wf = true) (hy : (Lit.int .u64 y).wf = true) (hl : ps.length < 1048576) (hc : lookP ps x = none) :
    ∃ w', (Instr.mapUpdate 67 (.map (some b)) (.int .u64 x) (.int .u64 y)).run Try.prog w = .ok () w' ∧ HomeTo w' b (ps ++ [(x, y)]) ∧ w.grownBy w' (some b) := by
  obtain ⟨h0, D, hown, hhas, hat⟩ := h
  obtain ⟨w', hrun, hown', hg⟩ := hown.update hmLaw Try.underlying67 (by unfold maxLen; omega) (Maps.keyOf_int_mk Try.underlying24 hx) (plainElem_int (a := y) Try.underlying24 hy)
  have hk : WideAt.IsKeyLit (.int .u64 x) := trivial
  refine ⟨w', hrun, ⟨?_, _, by rw [List.length_append]; exact hown', fun k hkw => ?_, fun k m hkw hm z => ?_⟩, hg⟩
  · rw [List.map_append, List.nodup_append]
    refine ⟨h0, by simp, fun a ha c hc2 => ?_⟩
    obtain ⟨p, hp, rfl⟩ := List.mem_map.1 ha
    simp at hc2
    subst hc2
    exact lookP_none.1 hc p hp
  · rw [lookP_snoc hc]
    by_cases e : k = x
    · subst e
      rw [Maps.has_put_same hown.isMap hk, if_pos rfl]
      rfl
    · rw [Maps.has_put_other (fun e2 => e (by injection e2)), hhas k hkw, if_neg e]
  · rw [lookP_snoc hc] at hm
    by_cases e : k = x
    · subst e
      rw [if_pos rfl] at hm
      injection hm with hm
      subst hm
      rw [Maps.atKey_put_same hown.isMap hk]
    · rw [if_neg e] at hm
      rw [Maps.atKey_put_other (fun e2 => e (by injection e2))]
      exact hat k m hkw hm z
set_option maxRecDepth 100000 in
theorem HomeTo.look {w : World} {b : Nat} {ps : List (Int × Int)} (h : HomeTo w b ps) {k : Int} (hk : (Lit.int .u64 k).wf = true) :
    (Instr.lookup 67 (.map (some b)) (.int .u64 k) true).run Try.prog w = .ok (.tuple #[.int .u64 ((lookP ps k).getD 0), .bool (lookP ps k).isSome]) w := by
  obtain ⟨-, D, hown, hhas, hat⟩ := h
  obtain ⟨v, qs, hrun, hv⟩ := hown.look_ok hmLaw Try.underlying67 (hmZero w) (plainElem_int (a := 0) Try.underlying24 (by decide)) (Maps.keyOf_int_mk Try.underlying24 hk)
  obtain ⟨c, rfl, hc, hwc⟩ := plainElem_int_inv Try.underlying24 hv
  have hc' := congrArg Prod.fst hc
  simp only at hc'
  rw [hrun, hhas k hk]
  have : c = (lookP ps k).getD 0 := by
    cases hm : lookP ps k with
    | some m =>
      rw [hat k m hk hm] at hc'
      injection hc' with e
      injection e with e1 e2
      simpa using e2.symm
    | none =>
      have e := Maps.atKey_of_not_has (z := .lit (.int .u64 0)) (by rw [hhas k hk, hm]; rfl : Maps.has D (.int .u64 k) = false)
      rw [hc'] at e
      injection e with e
      injection e with e1 e2
  rw [this]

/-! ### All channels together -/
theorem enter_any {f : FuncId} {fn : Func} {c : Code} (hf : Try.prog.funcs[f]? = some fn) (hname : (fn.name == "runtime.NumGoroutine") = false) (hb : fn.body = some c) (args : Array Value) (w : World) : (callFunc f args).run Try.prog w = .ok (.enter f args) w := by
  have h1 : fn.name ≠ "runtime.NumGoroutine" := by simpa using hname
  simp [callFunc, hf, h1, hb]
theorem aa_wf {c : Chn} (hw : ChnWf c) (hh : HldsWf c.Holds) : (Lit.int .u64 (aaV c)).wf = true := by
  have a := (bounds_u64 hw.loc).1
  have b := (bounds_u64 hw.rem).1
  have d := held_nonneg hh
  unfold aaV
  split
  · rename_i h
    have : c.Local + c.Remote + heldN c ≤ mMax := h.2.2.2.2.2.2.2.2.2.2
    have : mMax = 4611686018427387904 := rfl
    exact wf_u64 (by omega)
  · decide
theorem aa_pos {c : Chn} (hw : ChnWf c) (hh : HldsWf c.Holds) : 0 ≤ aaV c := (bounds_u64 (aa_wf hw hh)).1
/-- All of all, added. -/
theorem all_add {l : List Chn} : addE (l.map aaV) = if sumC l ≤ mMax then 0 else 8 := by
  have h1 : allLe mMax (l.map aaV) = true := allLe_iff.2 fun x hx => by
    obtain ⟨c, hc, rfl⟩ := List.mem_map.1 hx
    unfold aaV
    split
    · rename_i h
      exact h.2.2.2.2.2.2.2.2.2.2
    · decide
  unfold addE
  rw [if_pos h1]
  rfl
set_option maxHeartbeats 1000000 in
theorem lAll_any (A : Option Addr) (n k : Nat) (l : List Chn) (w : World) (h : Sl lay_Channel w (· < w.heap.size) A n k l) (hn : n ≤ 1048576) :
    Calls Try.prog 55 #[.slice A n k, .func (.func 29) #[] #[]] w fun e w' => ∃ v x, e = .returned (.tuple #[.int .u64 v, .int .i64 x]) ∧ ((∀ c ∈ l, ChOk c) → x = if sumC l ≤ mMax then 0 else 8) ∧ (x = 0 → (∀ c ∈ l, ChOk c) ∧ sumC l ≤ mMax) ∧ Below w.heap.size w w' := by
  have hw := sl_chns h
  refine (lTogether_any 29 aaV chE (fun s c w r => cAll_any s c w r) (fun args w => enter_any Try.func29 (by kernel_rfl) (by rfl) args w) A n k l (fun c hc => aa_wf (hw c hc).1 (hw c hc).2) w h hn).mono ?_
  rintro e w1 ⟨v, x, rfl, h1, h2, hb⟩
  have hch : ∀ c : Chn, chE c = 0 ↔ ChOk c := fun c => by
    rcases ch_is (c := c) with ⟨q, e⟩ | ⟨q, e⟩
    · exact ⟨fun _ => q, fun _ => e⟩
    · exact ⟨fun r => (by rw [e] at r; cases r), fun r => absurd r q⟩
  refine ⟨v, x, rfl, fun hok => ?_, fun hx => ?_, hb⟩
  · rw [(h1 fun c hc => (hch c).2 (hok c hc)).2, all_add]
  · have hok : ∀ c ∈ l, ChOk c := fun c hc => by
      by_cases q : chE c = 0
      · exact (hch c).1 q
      · exact absurd hx (h2 ⟨c, hc, q⟩)
    refine ⟨hok, ?_⟩
    have e := (h1 fun c hc => (hch c).2 (hok c hc)).2
    rw [hx, all_add] at e
    by_cases q : sumC l ≤ mMax
    · exact q
    · rw [if_neg q] at e; cases e

set_option maxRecDepth 100000 in
set_option maxHeartbeats 8000000 in
/-- Which channel has which hold, if channels may be. -/
theorem homes_any (A : Option Addr) (n k : Nat) (l : List Chn) (w : World) (h : Sl lay_Channel w (· < w.heap.size) A n k l) :
    Calls Try.prog 39 #[.slice A n k] w fun e w' => ∃ v, e = .returned (.tuple #[v, .int .i64 (lgE l)]) ∧ (LgOk l → ∃ b, v = .map (some b) ∧ w.heap.size ≤ b ∧ HomeTo w' b (prsC l)) ∧ Below w.heap.size w w' := by
  have HL := hid h.len
  have hcap := h.cap
  unfold maxLen at hcap
  have HNO : Hid (¬ LgOk l → lgE l = 1) := hid fun q => if_neg q
  by_cases h32 : 32 < n
  · have d1 : decide ((32 : Int) < (n : Int)) = true := by simp; omega
    have HQ := hid (show ¬ LgOk l from fun q => by have := q.1; rw [HL.out] at this; omega)
    go_enter Try.func39, Try.ntmps39
    go_wp2
    go_ret2
    exact ⟨_, by rw [HNO.out HQ.out]; rfl, fun q => absurd q HQ.out, Below.refl _ _⟩
  have d1 : decide ((32 : Int) < (n : Int)) = false := by simp; omega
  have HSL := hid (fun (W : World) (hb : Below w.heap.size w W) => Sl.call h hb)
  have HWF := hid (sl_chns h)
  go_enter Try.func39, Try.ntmps39
  go_wp2_with fail
  with_reducible refine (lAll_any A n k l w h (by omega)).mono ?_
  rintro e w1 ⟨v1, x1, rfl, h1, h2, hb1⟩
  by_cases hx : x1 = 0
  rotate_left
  · have HQ := hid (show ¬ LgOk l from fun q => hx (by rw [h1 q.2.1, if_pos q.2.2.2.2]))
    have d2 : (x1 == 0) = false := by simpa using hx
    have d3 : (x1 != 0) = true := by simpa using hx
    have HX := hid hx
    clear h1 h2 hx
    go_wp2
    go_ret2
    exact ⟨_, by rw [HNO.out HQ.out]; rfl, fun q => absurd q HQ.out, hb1⟩
  obtain ⟨hok, hsum⟩ := h2 hx
  have HOK := hid hok
  have HSUM := hid hsum
  have HX := hid hx
  subst hx
  clear h1 h2 hok hsum
  have hmm : (Instr.makeMap 67 none).run Try.prog w1 = .ok (.map (some w1.heap.size)) (w1.alloc (.map #[] 0)) := rfl
  have M0 := homeTo_made w1
  have hgm : w.heap.size ≤ w1.heap.size := hb1.size
  have HB2 : Below w.heap.size w (w1.alloc (.map #[] 0)) := bel_alloc hb1 _
  go_wp2
  generalize w1.alloc (Obj.map #[] 0) = W1 at *
  generalize w1.heap.size = gm at *
  clear hmm hb1
  go_loopw [26] (fun i wr => ∃ j : Nat, j ≤ n ∧ i = .int .i64 j ∧ HomeTo wr gm (prsC (l.take j)) ∧ Hid (LUp (l.take j)) ∧ Below w.heap.size w wr) (fun i _ => n - (intOf i).toNat)
  case atStart => exact ⟨0, Nat.zero_le _, rfl, by rw [List.take_zero]; exact M0, hid (lup_zero l), HB2⟩
  case round =>
  obtain ⟨j, hj, rfl, hm, HP, hbel⟩ := hrel
  clear M0 HB2
  by_cases hlt : j < n
  · obtain ⟨b1, o1, A', n', c', hx1, rfl, hb1, t0, t1, t2, t3, t4, t5, t6, hwc, hsc⟩ := chn_at h hlt
    have q0 := (hbel.cell (p := ⟨b1, o1 + j * 7, none⟩) hb1).trans t0
    have q1 := (hbel.cell (p := ⟨b1, o1 + j * 7 + 1, none⟩) hb1).trans t1
    have q2 := (hbel.cell (p := ⟨b1, o1 + j * 7 + 2, none⟩) hb1).trans t2
    have q3 := (hbel.cell (p := ⟨b1, o1 + j * 7 + 3, none⟩) hb1).trans t3
    have q4 := (hbel.cell (p := ⟨b1, o1 + j * 7 + 4, none⟩) hb1).trans t4
    have q5 := (hbel.cell (p := ⟨b1, o1 + j * 7 + 5, none⟩) hb1).trans t5
    have q6 := (hbel.cell (p := ⟨b1, o1 + j * 7 + 6, none⟩) hb1).trans t6
    have hba := bel_alloc (Below.refl wr.heap.size wr) (Obj.cells #[.int .u64 l[j].Id, .int .u64 l[j].Local, .int .u64 l[j].Remote, .int .u64 l[j].Reserve, .int .u64 l[j].Most, .slice A' n' c', .bool l[j].Open] 28)
    have BC := BoxC.new wr l[j] A' n' c'
    have HMA := hid (hm.below hba)
    have HB5 := bel_call hbel hba
    have HSA := HSL.out _ HB5
    have HLH := hid hsc.len
    have hcph := hsc.cap
    unfold maxLen at hcph
    have HSC := hid (fun (W : World) (hb : Below w.heap.size w W) => Sl.call hsc hb)
    have hgl := hm.lt
    clear t0 t1 t2 t3 t4 t5 t6
    have HWC := hid hwc
    have HWH := hid (sl_hlds hsc)
    have HH64 := hid (show l[j].Holds.length ≤ 64 from (HOK.out _ (List.getElem_mem hx1)).2.2.1)
    clear hsc hwc hm
    go_upto_region 10 with (fail)
    have hgw : wr.heap.size < (wr.alloc (Obj.cells #[.int .u64 l[j].Id, .int .u64 l[j].Local, .int .u64 l[j].Remote, .int .u64 l[j].Reserve, .int .u64 l[j].Most, .slice A' n' c', .bool l[j].Open] 28)).heap.size := by simp
    generalize wr.alloc (Obj.cells #[.int .u64 l[j].Id, .int .u64 l[j].Local, .int .u64 l[j].Remote, .int .u64 l[j].Reserve, .int .u64 l[j].Most, .slice A' n' c', .bool l[j].Open] 28) = W5 at *
    generalize hg8 : wr.heap.size = g8 at *
    clear q0 q1 q2 q3 q4 q5 q6
    obtain ⟨y0, y1, y2, y3, y4, y5, y6⟩ := BC.all
    by_cases g2 : j = 0
    · have d2 : decide ((0 : Int) < (j : Int)) = false := by simp; omega
      have d2' : decide (0 < j) = false := decide_eq_false (by omega)
      have HUP := hid (show LUp (l.take (j + 1)) from by rw [g2]; exact lup_one l)
      have HG2 := hid g2
      clear g2
      go_quiet (fail)
      go_upto_region 12 with (fail)
      obtain ⟨wo, hwo⟩ : ∃ z, z = wr := ⟨_, rfl⟩
      subst hwo
      have HB6 := bel_drewN HB5 nq
      have BC6 : BoxC (W5.drewN nq) g8 l[j] A' n' c' := BC
      have HM6 : HomeTo (W5.drewN nq) gm (prsC (l.take j)) := HMA.out.of_block rfl
      generalize W5.drewN nq = W6 at *
      obtain ⟨x0, x1, x2, x3, x4, x5, x6⟩ := BC6.all
      clear y0 y1 y2 y3 y4 y5 y6
      go_wp2
      go_loopw [47] (fun i wq => ∃ p : Nat, p ≤ n' ∧ i = .int .i64 p ∧ HomeTo wq gm (prsU l j l[j] p) ∧ BoxC wq g8 l[j] A' n' c' ∧ Below w.heap.size w wq) (fun i _ => n' - (intOf i).toNat)
      case atStart => exact ⟨0, Nat.zero_le _, rfl, by rw [prsU_zero]; exact HM6, BC6, HB6⟩
      case round =>
      obtain ⟨p, hp, rfl, hmp, bcp, hbp⟩ := hrel
      clear HM6 BC6 HB6 x0 x1 x2 x3 x4 x5 x6
      by_cases hlp : p < n'
      · obtain ⟨b3, o3, hx3, rfl, hb3, s0, s1, hwh3⟩ := hld_at (HSC.out _ hbp) hlp
        have hbaq := bel_alloc (Below.refl wr.heap.size wr) (Obj.cells #[.int .u64 l[j].Holds[p].Id, .int .u64 l[j].Holds[p].N] 83)
        have HMq := hmp.below hbaq
        have BCq := bcp.call hbaq
        have HBq := bel_call hbp hbaq
        have z0 : (wr.alloc (Obj.cells #[.int .u64 l[j].Holds[p].Id, .int .u64 l[j].Holds[p].N] 83)).cell? ⟨wr.heap.size, 0, none⟩ = some (.int .u64 l[j].Holds[p].Id) := by rw [World.cell?_alloc_at _ _ _ _ rfl]; rfl
        have HLN := hid (prsU_len (i := p) hx1 (by rw [HL.out]; omega) fun c hc => (HOK.out c hc).2.2.1)
        have HNX := hid (prsU_next (l := l) (j := j) hx3)
        have HDP := hid (prsU_dup hx1 hx3)
        clear hmp bcp hbp
        go_upto_region 15 with (fail)
        generalize wr.alloc (Obj.cells #[.int .u64 l[j].Holds[p].Id, .int .u64 l[j].Holds[p].N] 83) = W7 at *
        obtain ⟨x0, x1, x2, x3, x4, x5, x6⟩ := BCq.all
        have hlk := HMq.look hwh3.id
        clear s0 s1 x1 x2 x3 x4 x5 x6 hbaq
        cases hc : lookP (prsU l j l[j] p) l[j].Holds[p].Id with
        | some m =>
          rw [hc] at hlk
          simp only [Option.getD_some, Option.isSome_some] at hlk
          have HQN := hid (HDP.out (by rw [hc]; simp))
          clear hc HMq BCq
          go_wp2
          go_ret2
          exact ⟨_, by rw [HNO.out HQN.out]; rfl, fun q => absurd q HQN.out, HBq⟩
        | none =>
          rw [hc] at hlk
          simp only [Option.getD_none, Option.isSome_none] at hlk
          obtain ⟨w8, hrun, hm8, hg9⟩ := HMq.put hwh3.id HWC.out.id (Nat.lt_of_le_of_lt HLN.out (by decide)) hc
          rw [← HNX.out] at hm8
          have HM8 := hid hm8
          have HB8 := hid (HBq.trans (grown_below hg9 hgm HBq.size))
          have BC8 := hid (show BoxC w8 g8 l[j] _ n' c' from (hg9.block g8 BCq.lt (fun e => by injection e with e; omega)).trans BCq)
          clear hm8 hg9 HMq BCq hc
          go_wp2
          go_roundw
          case rel => exact ⟨p + 1, by omega, by go_num, HM8.out, BC8.out, HB8.out⟩
          case measure => simp [intOf]; omega
      · have hpn : p = n' := by omega
        have HM9 := hid (show HomeTo wr gm (prsC (l.take (j + 1))) from by
          rw [← prsU_all hx1, HLH.out, ← hpn]
          exact hmp)
        clear hmp bcp hpn
        go_wp2
        go_roundw
        case rel => exact ⟨j + 1, by omega, by go_num, HM9.out, HUP, hbp⟩
        case measure => simp [intOf]; omega
    have d2 : decide ((0 : Int) < (j : Int)) = true := by simp; omega
    have d2' : decide (0 < j) = true := decide_eq_true (by omega)
    obtain ⟨q, hq⟩ : ∃ q : Nat, q + 1 = j := ⟨j - 1, by omega⟩
    have hkn : (j : Int) - 1 = (q : Int) := by omega
    have hwk : IntKind.i64.wrap (q : Int) = (q : Int) := IntWalk.i64_in _ (by omega)
    obtain ⟨b2, o2, A2, n2, c2, hx2, hA2, -, u0, -, -, -, -, -, -, -, -⟩ := chn_at HSA (show q < n by omega)
    injection hA2 with hA2
    injection hA2 with e1 e2
    subst e1 e2
    have ik : (0 : Int) ≤ (q : Int) ∧ (q : Int) < (n : Int) := by omega
    have ik2 : q < n := by omega
    by_cases g3 : l[q].Id < l[j].Id
    · have d3 : decide (l[j].Id ≤ l[q].Id) = false := by simp; omega
      have HUP := hid (show LUp (l.take (j + 1)) from by
        have hpp := HP.out
        subst hq
        exact lup_next hx1 hpp g3)
      have HQ := hid hq
      clear g2 g3 hq
      generalize l[q].Id = qi at *
      go_quiet (fail)
      go_upto_region 12 with (fail)
      obtain ⟨wo, hwo⟩ : ∃ z, z = wr := ⟨_, rfl⟩
      subst hwo
      have HB6 := bel_drewN HB5 nq
      have BC6 : BoxC (W5.drewN nq) g8 l[j] A' n' c' := BC
      have HM6 : HomeTo (W5.drewN nq) gm (prsC (l.take j)) := HMA.out.of_block rfl
      generalize W5.drewN nq = W6 at *
      obtain ⟨x0, x1, x2, x3, x4, x5, x6⟩ := BC6.all
      clear y0 y1 y2 y3 y4 y5 y6
      go_wp2
      go_loopw [47] (fun i wq => ∃ p : Nat, p ≤ n' ∧ i = .int .i64 p ∧ HomeTo wq gm (prsU l j l[j] p) ∧ BoxC wq g8 l[j] A' n' c' ∧ Below w.heap.size w wq) (fun i _ => n' - (intOf i).toNat)
      case atStart => exact ⟨0, Nat.zero_le _, rfl, by rw [prsU_zero]; exact HM6, BC6, HB6⟩
      case round =>
      obtain ⟨p, hp, rfl, hmp, bcp, hbp⟩ := hrel
      clear HM6 BC6 HB6 x0 x1 x2 x3 x4 x5 x6
      by_cases hlp : p < n'
      · obtain ⟨b3, o3, hx3, rfl, hb3, s0, s1, hwh3⟩ := hld_at (HSC.out _ hbp) hlp
        have hbaq := bel_alloc (Below.refl wr.heap.size wr) (Obj.cells #[.int .u64 l[j].Holds[p].Id, .int .u64 l[j].Holds[p].N] 83)
        have HMq := hmp.below hbaq
        have BCq := bcp.call hbaq
        have HBq := bel_call hbp hbaq
        have z0 : (wr.alloc (Obj.cells #[.int .u64 l[j].Holds[p].Id, .int .u64 l[j].Holds[p].N] 83)).cell? ⟨wr.heap.size, 0, none⟩ = some (.int .u64 l[j].Holds[p].Id) := by rw [World.cell?_alloc_at _ _ _ _ rfl]; rfl
        have HLN := hid (prsU_len (i := p) hx1 (by rw [HL.out]; omega) fun c hc => (HOK.out c hc).2.2.1)
        have HNX := hid (prsU_next (l := l) (j := j) hx3)
        have HDP := hid (prsU_dup hx1 hx3)
        clear hmp bcp hbp
        go_upto_region 15 with (fail)
        generalize wr.alloc (Obj.cells #[.int .u64 l[j].Holds[p].Id, .int .u64 l[j].Holds[p].N] 83) = W7 at *
        obtain ⟨x0, x1, x2, x3, x4, x5, x6⟩ := BCq.all
        have hlk := HMq.look hwh3.id
        clear s0 s1 x1 x2 x3 x4 x5 x6 hbaq
        cases hc : lookP (prsU l j l[j] p) l[j].Holds[p].Id with
        | some m =>
          rw [hc] at hlk
          simp only [Option.getD_some, Option.isSome_some] at hlk
          have HQN := hid (HDP.out (by rw [hc]; simp))
          clear hc HMq BCq
          go_wp2
          go_ret2
          exact ⟨_, by rw [HNO.out HQN.out]; rfl, fun q => absurd q HQN.out, HBq⟩
        | none =>
          rw [hc] at hlk
          simp only [Option.getD_none, Option.isSome_none] at hlk
          obtain ⟨w8, hrun, hm8, hg9⟩ := HMq.put hwh3.id HWC.out.id (Nat.lt_of_le_of_lt HLN.out (by decide)) hc
          rw [← HNX.out] at hm8
          have HM8 := hid hm8
          have HB8 := hid (HBq.trans (grown_below hg9 hgm HBq.size))
          have BC8 := hid (show BoxC w8 g8 l[j] _ n' c' from (hg9.block g8 BCq.lt (fun e => by injection e with e; omega)).trans BCq)
          clear hm8 hg9 HMq BCq hc
          go_wp2
          go_roundw
          case rel => exact ⟨p + 1, by omega, by go_num, HM8.out, BC8.out, HB8.out⟩
          case measure => simp [intOf]; omega
      · have hpn : p = n' := by omega
        have HM9 := hid (show HomeTo wr gm (prsC (l.take (j + 1))) from by
          rw [← prsU_all hx1, HLH.out, ← hpn]
          exact hmp)
        clear hmp bcp hpn
        go_wp2
        go_roundw
        case rel => exact ⟨j + 1, by omega, by go_num, HM9.out, HUP, hbp⟩
        case measure => simp [intOf]; omega
    · have d3 : decide (l[j].Id ≤ l[q].Id) = true := by simp; omega
      have HQN := hid (show ¬ LgOk l from fun h => g3 (List.pairwise_iff_getElem.1 h.2.2.1 q j hx2 hx1 (by omega)))
      have HQ := hid hq
      clear g2 g3 hq
      generalize l[q].Id = qi at *
      go_quiet (fail)
      go_wp2
      go_ret2
      exact ⟨_, by rw [HNO.out HQN.out]; rfl, fun q => absurd q HQN.out, bel_drewN HB5 _⟩
  · have HTK := hid (show l.take j = l from List.take_of_length_le (by rw [HL.out]; omega))
    have HGOK := hid (show LgOk l from ⟨by rw [HL.out]; omega, HOK.out, by have := HP.out; rwa [HTK.out] at this, prs_apart (by have := hm.1; rwa [HTK.out] at this), HSUM.out⟩)
    rw [HTK.out] at hm
    go_wp2
    go_ret2
    exact ⟨_, by rw [show lgE l = 0 from if_pos HGOK.out]; rfl, fun _ => ⟨gm, rfl, hgm, hm⟩, hbel⟩
end Go.Proofs.Ytpkfejfdbjoehaa
namespace Go.Proofs.Ytpkfejfdbjoehaa
open Go.RowKit Go.WalkArith

set_option maxHeartbeats 1000000 in
theorem lCheck_any (A : Option Addr) (n k : Nat) (l : List Chn) (w : World) (h : Sl lay_Channel w (· < w.heap.size) A n k l) :
    Calls Try.prog 23 #[.slice A n k] w fun e w' => e = .returned (.int .i64 (lgE l)) ∧ Below w.heap.size w w' := by
  go_enter Try.func23, Try.ntmps23
  go_wp2_with fail
  with_reducible refine (homes_any A n k l w h).mono ?_
  rintro e w1 ⟨v, rfl, -, hb1⟩
  go_wp2
  go_ret
  exact ⟨rfl, hb1⟩

theorem lg_two {l : List Chn} : (LgOk l ∧ lgE l = 0) ∨ (¬ LgOk l ∧ lgE l = 1) := by
  by_cases g : LgOk l
  · exact .inl ⟨g, if_pos g⟩
  · exact .inr ⟨g, if_neg g⟩

set_option maxHeartbeats 2000000 in
theorem lWhere_any (A : Option Addr) (n k : Nat) (l : List Chn) (hold : Int) (w : World) (h : Sl lay_Channel w (· < w.heap.size) A n k l) (hh : (Lit.int .u64 hold).wf = true) :
    Calls Try.prog 27 #[.slice A n k, .int .u64 hold] w fun e w' => e = .returned (.tuple #[.int .u64 (whV l hold), .int .i64 (whE l hold)]) ∧ Below w.heap.size w w' := by
  go_enter Try.func27, Try.ntmps27
  go_wp2_with fail
  with_reducible refine (homes_any A n k l w h).mono ?_
  rcases lg_two (l := l) with ⟨g, e⟩ | ⟨g, e⟩
  rotate_left
  · rw [e]
    have HE := hid (show whV l hold = 0 ∧ whE l hold = 1 from ⟨if_neg g, if_neg g⟩)
    clear e
    rintro e w1 ⟨v, rfl, -, hb1⟩
    go_wp2
    go_ret2
    exact ⟨by rw [HE.out.1, HE.out.2]; rfl, hb1⟩
  rw [e]
  clear e
  rintro e w1 ⟨v, rfl, hm, hb1⟩
  obtain ⟨b, rfl, -, hm⟩ := hm g
  have hlk := hm.look hh
  rw [lookP_where] at hlk
  clear hm
  cases hf : whereF l hold with
  | none =>
    have HE := hid (show whV l hold = 0 ∧ whE l hold = 5 from ⟨by unfold whV; rw [if_pos g, hf], by unfold whE; rw [if_pos g, hf]⟩)
    rw [hf] at hlk
    simp only [Option.map_none, Option.getD_none, Option.isSome_none] at hlk
    clear hf
    go_wp2
    go_ret2
    exact ⟨by rw [HE.out.1, HE.out.2]; rfl, hb1⟩
  | some c =>
    have HE := hid (show whV l hold = c.Id ∧ whE l hold = 0 from ⟨by unfold whV; rw [if_pos g, hf], by unfold whE; rw [if_pos g, hf]⟩)
    rw [hf] at hlk
    simp only [Option.map_some, Option.getD_some, Option.isSome_some] at hlk
    clear hf
    go_wp2
    go_ret2
    exact ⟨by rw [HE.out.1, HE.out.2]; rfl, hb1⟩

theorem add_of {xs : List Int} (h0 : ∀ x ∈ xs, 0 ≤ x) (h : sumM xs ≤ mMax) : addN xs = sumM xs ∧ addE xs = 0 := by
  have h1 : allLe mMax xs = true := allLe_iff.2 fun x hx => by
    have : x ≤ sumM xs := by
      clear h
      induction xs with
      | nil => simp at hx
      | cons y ys ih =>
        have hy := h0 y (by simp)
        have hs : 0 ≤ sumM ys := sumM_nonneg fun z hz => h0 z (by simp [hz])
        rcases List.mem_cons.1 hx with e | e
        · subst e; show x ≤ x + sumM ys; omega
        · have := ih (fun z hz => h0 z (by simp [hz])) e
          show x ≤ y + sumM ys
          omega
    omega
  have e : addE xs = 0 := by unfold addE; rw [if_pos h1, if_pos h]
  exact ⟨if_pos e, e⟩
theorem he_wf {c : Chn} (hw : ChnWf c) (hh : HldsWf c.Holds) : (Lit.int .u64 (heV c)).wf = true := by
  have a := (bounds_u64 hw.loc).1
  have b := (bounds_u64 hw.rem).1
  have d := held_nonneg hh
  unfold heV
  split
  · rename_i h
    have : c.Local + c.Remote + heldN c ≤ mMax := h.2.2.2.2.2.2.2.2.2.2
    have : mMax = 4611686018427387904 := rfl
    exact wf_u64 (by omega)
  · decide

set_option maxHeartbeats 2000000 in
/-- Where the channel of that number stands, if channels may be. -/
theorem placeIn_any (A : Option Addr) (n k : Nat) (l : List Chn) (id : Int) (w : World) (h : Sl lay_Channel w (· < w.heap.size) A n k l) :
    Calls Try.prog 41 #[.slice A n k, .int .u64 id] w fun e w' => ∃ j : Nat, e = .returned (.tuple #[.int .i64 j, .int .i64 (gtE l id)]) ∧ (gtE l id = 0 → ∃ hj : j < l.length, l[j] = gtC l id ∧ AtF Chn.Id l id j ∧ hitF Chn.Id l id j = true) ∧ Below w.heap.size w w' := by
  have HL := hid h.len
  have HSL := hid (fun (W : World) (h' : Below w.heap.size w W) => Sl.call h h')
  go_enter Try.func41, Try.ntmps41
  go_wp2_with fail
  refine (lCheck_any A n k l w h).mono ?_
  rcases lg_two (l := l) with ⟨g, e⟩ | ⟨g, e⟩
  rotate_left
  · rw [e]
    have HE := hid (show gtE l id = 1 from if_neg g)
    clear e g
    rintro e w1 ⟨rfl, hb1⟩
    go_wp2
    go_ret2
    exact ⟨0, by rw [HE.out]; rfl, fun q => (by rw [HE.out] at q; cases q), hb1⟩
  rw [e]
  clear e
  rintro e w1 ⟨rfl, hb1⟩
  have HU := hid (show UpF Chn.Id l from g.2.2.1)
  have hn64 : n ≤ 64 := by have := g.1; rw [HL.out] at this; omega
  go_wp2_with fail
  with_reducible refine (placeC_any A n k l id w1 (HSL.out _ hb1) hn64 HU.out).mono ?_
  rintro e w2 ⟨j, rfl, hat, hb2⟩
  have HB2 := bel_call hb1 hb2
  obtain ⟨d, hd⟩ : ∃ d, hitF Chn.Id l id j = d := ⟨_, rfl⟩
  rw [hd]
  cases d
  · have HE := hid (show gtE l id = 5 from (gt_no g (hat.none HU.out hd)).1)
    clear hat hd g
    go_wp2
    go_ret2
    exact ⟨0, by rw [HE.out]; rfl, fun q => (by rw [HE.out] at q; cases q), HB2⟩
  · obtain ⟨hj, hji, hfd⟩ := hat.find hd
    have hgt := gt_of g (List.getElem_mem hj)
    rw [hji] at hgt
    have HE := hid hgt
    have HAT := hid hat
    have HD := hid hd
    clear hat hd g hgt hfd hji
    go_wp2
    go_ret2
    exact ⟨j, by rw [HE.out.1]; rfl, fun _ => ⟨hj, HE.out.2.symm, HAT.out, HD.out⟩, HB2⟩

set_option maxRecDepth 100000 in
set_option maxHeartbeats 4000000 in
theorem lGet_any (A : Option Addr) (n k : Nat) (l : List Chn) (id : Int) (w : World) (h : Sl lay_Channel w (· < w.heap.size) A n k l) :
    Calls Try.prog 25 #[.slice A n k, .int .u64 id] w fun e w' => ∃ v, e = .returned (.tuple #[v, .int .i64 (gtE l id)]) ∧ OwnC w' w.heap.size v (gtC l id) ∧ Below w.heap.size w w' := by
  have HL := hid h.len
  have hcap := h.cap
  unfold maxLen at hcap
  have hb0 : Below w.heap.size w (w.alloc (Obj.cells #[.int .u64 0, .int .u64 0, .int .u64 0, .int .u64 0, .int .u64 0, .slice none 0 0, .bool false] 28)) := bel_alloc (Below.refl _ _) _
  have BR : BoxC (w.alloc (Obj.cells #[.int .u64 0, .int .u64 0, .int .u64 0, .int .u64 0, .int .u64 0, .slice none 0 0, .bool false] 28)) w.heap.size zeroCh none 0 0 := BoxC.new w zeroCh none 0 0
  have HZ := hid (show (w.alloc (Obj.cells #[.int .u64 0, .int .u64 0, .int .u64 0, .int .u64 0, .int .u64 0, .slice none 0 0, .bool false] 28)).heap.size = w.heap.size + 1 from by simp)
  have HSL := hid (fun (W : World) (h' : Below w.heap.size w W) => Sl.call h h')
  go_enter Try.func25, Try.ntmps25
  go_upto_region 1 with (fail)
  generalize w.alloc (Obj.cells #[.int .u64 0, .int .u64 0, .int .u64 0, .int .u64 0, .int .u64 0, .slice none 0 0, .bool false] 28) = W0 at *
  go_wp2_with fail
  with_reducible refine (placeIn_any A n k l id W0 (HSL.out _ hb0)).mono ?_
  rintro e w1 ⟨j, rfl, hfd, hb1⟩
  replace BR := BR.call hb1
  have HB1 := bel_call hb0 hb1
  have hz1 := hb1.size
  rw [HZ.out] at hz1
  clear hb0 hb1
  by_cases hq : gtE l id = 0
  rotate_left
  · have HE := hid (show gtC l id = zeroCh from by
      unfold gtE at hq
      unfold gtC
      by_cases g : LgOk l
      · rw [if_pos g] at hq ⊢
        cases hf : chanF l id with
        | none => rfl
        | some z => rw [hf] at hq; exact absurd rfl hq
      · rw [if_neg g])
    have d2 : (gtE l id == 0) = false := by simpa using hq
    have d3 : (gtE l id != 0) = true := by simpa using hq
    clear hfd hq
    obtain ⟨x, hx⟩ : ∃ x, gtE l id = x := ⟨_, rfl⟩
    rw [hx] at d2 d3 ⊢
    have HX := hid hx
    clear hx
    have B9 := hid (BR.set zeroCh none 0 0)
    have HB9 := hid (Below.setBox HB1 (g := w.heap.size) (Nat.le_refl _) zeroCh none 0 0)
    obtain ⟨z0, z1, z2, z3, z4, z5, z6⟩ := BR.all
    have f0 := BR.f 0
    have f1 := BR.f 1
    have f2 := BR.f 2
    have f3 := BR.f 3
    have f4 := BR.f 4
    have f5 := BR.f 5
    have f6 := BR.f 6
    go_wp2
    refine bodyPost_ret_by (results_ct rfl _ _ (w.heap.size) 0 rfl [.int .u64 0, .int .u64 0, .int .u64 0, .int .u64 0, .int .u64 0, .slice none 0 0, .bool false] _ (range7 B9.out) Try.underlying28 rfl (by kernel_rfl)) rfl ?_
    exact ⟨_, by rw [HX.out]; rfl, by rw [HE.out]; exact ⟨_, rfl, OwnL.nil _ _ _ _ _⟩, HB9.out⟩
  obtain ⟨hj, hjc, -, -⟩ := hfd hq
  have HOKC := hid (gt_is hq).2.2.2.2
  have HQ := hid hq
  rw [hq]
  clear hfd hq
  have hjn : j < n := by rw [← HL.out]; exact hj
  obtain ⟨b1, o1, A', n', c', hx1, rfl, hbb, t0, t1, t2, t3, t4, t5, t6, hwc, hsc⟩ := chn_at (HSL.out _ HB1) hjn
  rw [hjc] at t0 t1 t2 t3 t4 t6 hwc hsc
  generalize hc : gtC l id = c at *
  have HCC := hid hc
  clear hc hjc
  have PR := hid (chan_in hwc hsc (Below.refl _ _))
  have HWC := hid hwc
  have HLC := hid (show c.Holds.length ≤ 1048576 from by have := HOKC.out.2.2.1; omega)
  clear hwc hsc
  go_wp2_with fail
  with_reducible refine (copyOf_any _ c w1 PR.out HLC.out).mono ?_
  rintro e w2 ⟨v2, rfl, ⟨u, rfl, ho⟩, hb2⟩
  obtain ⟨Au, nu, cu, rfl, hsu⟩ := ho.read
  replace BR := BR.call hb2
  have HB2 := bel_call HB1 hb2
  have B9 := hid (BR.set c Au nu cu)
  have HB9 := hid (Below.setBox HB2 (g := w.heap.size) (Nat.le_refl _) c Au nu cu)
  have HO9 := hid ((OwnL.setBox ho (g := w.heap.size) (by omega) c Au nu cu).lows (base' := w.heap.size) (lo' := w.heap.size) (by omega) (by omega))
  obtain ⟨z0, z1, z2, z3, z4, z5, z6⟩ := BR.all
  have f0 := BR.f 0
  have f1 := BR.f 1
  have f2 := BR.f 2
  have f3 := BR.f 3
  have f4 := BR.f 4
  have f5 := BR.f 5
  have f6 := BR.f 6
  clear t0 t1 t2 t3 t4 t5 t6 hsu
  go_wp2
  refine bodyPost_ret_by (results_ct rfl _ _ (w.heap.size) 0 rfl [.int .u64 c.Id, .int .u64 c.Local, .int .u64 c.Remote, .int .u64 c.Reserve, .int .u64 c.Most, .slice Au nu cu, .bool c.Open] _ (range7 B9.out) Try.underlying28 rfl (by kernel_rfl)) rfl ?_
  exact ⟨_, by rw [HQ.out]; rfl, by rw [HCC.out]; exact ⟨_, rfl, HO9.out⟩, HB9.out⟩
/-- A channel whose holds are one's own, as a datum. -/
theorem OwnC.rep {w : World} {B base : Nat} {v : Value} {c : Chn} (h : OwnC w base v c) (hw : ChnWf c) (hB : B ≤ base) : ∃ t, v = .agg t ∧ lay_Channel.rep w (From w B) c t.toList := by
  obtain ⟨u, rfl, ho⟩ := h
  obtain ⟨A, n, k, rfl, hs⟩ := ho.sl (low := B) hB hB
  exact ⟨_, rfl, rep_Channel.2 ⟨A, n, k, rfl, hw, hs⟩⟩

set_option maxRecDepth 100000 in
set_option maxHeartbeats 4000000 in
/-- The channels after something is done with one of them (0 variables captured). -/
theorem change0_any (K : Nat) (hE : ∀ (args : Array Value) (w : World), (callFunc K args).run Try.prog w = .ok (.enter K args) w) (B : Nat) (C C2 : World → Prop) (hC : ∀ W W', C W → Below W.heap.size W W' → C W') (hC2 : ∀ W W', C2 W → Below W.heap.size W W' → C2 W') (err : Chn → Int) (d : Chn → Chn)
    (A : Option Addr) (n k : Nat) (l : List Chn) (id : Int) (w : World) (h : Sl lay_Channel w (· < B) A n k l) (hB : B ≤ w.heap.size) (hCw : C w)
    (hD : gtE l id = 0 → ∀ (s : Array Value) (W : World), Below B w W → C W → lay_Channel.rep W (· < B) (gtC l id) s.toList → Calls Try.prog K #[.agg s] W fun e w' => ∃ t, e = .returned (.tuple #[.agg t, .int .i64 (err (gtC l id))]) ∧ lay_Channel.rep w' (From w' B) (d (gtC l id)) t.toList ∧ C2 w' ∧ Below B W w')
    (hI : gtE l id = 0 → err (gtC l id) = 0 → (d (gtC l id)).Id = id) :
    Calls Try.prog 43 #[.slice A n k, .int .u64 id, .func (.func K) #[] #[]] w fun e w' => ∃ v, e = .returned (.tuple #[v, .int .i64 (oneE l id err)]) ∧ OwnL lay_Channel w' B (some B) 28 v (oneL l id err d) ∧ (gtE l id = 0 → C2 w') ∧ Below B w w' := by
  have HL := hid h.len
  have HD := hid hD
  have HI := hid hI
  have HC := hid hC
  have HC2 := hid hC2
  have HCW := hid hCw
  clear hD hI hC hC2 hCw
  have hcap := h.cap
  unfold maxLen at hcap
  have HSL := hid (fun (W : World) (h' : Below B w W) => (h.keep fun p hp => h'.cell hp : Sl lay_Channel W (· < B) A n k l))
  have HWL := hid (sl_chns (h.wide fun b hb => Nat.lt_of_lt_of_le hb hB))
  go_enter Try.func43, Try.ntmps43
  go_wp2_with fail
  with_reducible refine (placeIn_any A n k l id w (h.wide fun b hb => Nat.lt_of_lt_of_le hb hB)).mono ?_
  rintro e w1 ⟨j, rfl, hfd, hb1⟩
  have HC1 := hid (HC.out _ _ HCW.out hb1)
  have HB1 := hb1.mono hB
  clear hb1
  by_cases hq : gtE l id = 0
  rotate_left
  · have HE := hid (show oneE l id err = gtE l id ∧ oneL l id err d = [] from by
      have e : oneE l id err = gtE l id := if_pos hq
      exact ⟨e, if_neg (by rw [e]; exact hq)⟩)
    have HQ := hid hq
    have d2 : (gtE l id == 0) = false := by simpa using hq
    have d3 : (gtE l id != 0) = true := by simpa using hq
    clear hfd hq
    obtain ⟨x, hx⟩ : ∃ x, gtE l id = x := ⟨_, rfl⟩
    rw [hx] at d2 d3 HE HQ ⊢
    have HX := hid hx
    clear hx
    go_wp2
    go_ret2
    exact ⟨_, by rw [HE.out.1]; rfl, by rw [HE.out.2]; exact OwnL.nil _ _ _ _ _, fun q => absurd (HX.out.symm.trans q) HQ.out, HB1⟩
  obtain ⟨hj, hjc, hat, hhit⟩ := hfd hq
  have HG := hid (gt_is hq)
  have HAT := hid (fun r => hat.with_set HG.out.1.2.2.1 hhit r)
  have HQ := hid hq
  have HDD := hid (HD.out hq)
  rw [hq]
  clear hfd hq hat hhit
  have hjn : j < n := by rw [← HL.out]; exact hj
  obtain ⟨b1, o1, A', n', c', hx1, rfl, hbb, t0, t1, t2, t3, t4, t5, t6, hwc, hsc⟩ := chn_at (HSL.out _ HB1) hjn
  rw [hjc] at t0 t1 t2 t3 t4 t6 hwc hsc
  obtain ⟨c, hc⟩ : ∃ c, gtC l id = c := ⟨_, rfl⟩
  rw [hc] at t0 t1 t2 t3 t4 t6 hwc hsc HDD HG
  have PR := hid (show lay_Channel.rep w1 (· < B) c #[.int .u64 c.Id, .int .u64 c.Local, .int .u64 c.Remote, .int .u64 c.Reserve, .int .u64 c.Most, (.slice A' n' c'), .bool c.Open].toList from rep_Channel.2 ⟨_, _, _, rfl, hwc, hsc⟩)
  have HCC := hid hc
  clear hc hjc hwc hsc
  go_wp2_with fail
  with_reducible refine (HDD.out _ w1 HB1 HC1.out PR.out).mono ?_
  rintro e w2 ⟨t2, rfl, hrd, hc2, hb2⟩
  have HB2 := HB1.trans hb2
  obtain ⟨Au, nu, cu, rfl, hwd, hsu⟩ := agg_Channel hrd
  have HWD := hid hwd
  clear hrd hwd t0 t1 t2 t3 t4 t5 t6
  have hz2 : B ≤ w2.heap.size := Nat.le_trans hB HB2.size
  have hba := bel_alloc (Below.refl w2.heap.size w2) (Obj.cells #[.int .u64 (d c).Id, .int .u64 (d c).Local, .int .u64 (d c).Remote, .int .u64 (d c).Reserve, .int .u64 (d c).Most, .slice Au nu cu, .bool (d c).Open] 28)
  have BX : BoxC (w2.alloc (Obj.cells #[.int .u64 (d c).Id, .int .u64 (d c).Local, .int .u64 (d c).Remote, .int .u64 (d c).Reserve, .int .u64 (d c).Most, .slice Au nu cu, .bool (d c).Open] 28)) w2.heap.size (d c) Au nu cu := BoxC.new w2 (d c) Au nu cu
  have HCA := hid (HC2.out _ _ hc2 hba)
  have HB3 := HB2.trans (hba.mono hz2)
  have hzz : (w2.alloc (Obj.cells #[.int .u64 (d c).Id, .int .u64 (d c).Local, .int .u64 (d c).Remote, .int .u64 (d c).Reserve, .int .u64 (d c).Most, .slice Au nu cu, .bool (d c).Open] 28)).heap.size = w2.heap.size + 1 := by simp
  have hsu3 := hid (hsu.frT hba)
  clear hc2 hb2 HB2
  go_upto_region 5 with (fail)
  clear hsu
  generalize w2.alloc (Obj.cells #[.int .u64 (d c).Id, .int .u64 (d c).Local, .int .u64 (d c).Remote, .int .u64 (d c).Reserve, .int .u64 (d c).Most, .slice Au nu cu, .bool (d c).Open] 28) = W3 at *
  by_cases he : err c = 0
  rotate_left
  · have HE := hid (show oneE l id err = err c ∧ oneL l id err d = [] from by
      have e : oneE l id err = err c := by unfold oneE; rw [if_neg (by simpa using HQ.out), HCC.out]
      exact ⟨e, if_neg (by rw [e]; exact he)⟩)
    have d2 : (err c == 0) = false := by simpa using he
    have d3 : (err c != 0) = true := by simpa using he
    clear he
    obtain ⟨x, hx⟩ : ∃ x, err c = x := ⟨_, rfl⟩
    rw [hx] at d2 d3 HE ⊢
    have HX := hid hx
    clear hx
    go_wp2
    go_ret2
    exact ⟨_, by rw [HE.out.1]; rfl, by rw [HE.out.2]; exact OwnL.nil _ _ _ _ _, fun _ => HCA.out, HB3⟩
  have HII := hid (show (d c).Id = id from by
    have := HI.out HQ.out
    rw [HCC.out] at this
    exact this he)
  have HE := hid (show oneE l id err = 0 ∧ oneL l id err d = l.set j (d c) from by
    have e : oneE l id err = 0 := by unfold oneE; rw [if_neg (by simpa using HQ.out), HCC.out, he]
    refine ⟨e, ?_⟩
    unfold oneL
    rw [if_pos e, HCC.out, ← HAT.out (d c)]
    unfold withC
    rw [HII.out])
  rw [he]
  clear he
  have HS3 := (HSL.out _ HB3).wide fun b hb => Nat.lt_of_lt_of_le hb (Nat.le_trans hB HB3.size)
  go_wp2_with fail
  have hn20 : n ≤ 1048576 := by have := HG.out.1.1; rw [HL.out] at this; omega
  have HH20 := hid (show ∀ x ∈ l, x.Holds.length ≤ 1048576 from fun x hx => by have := (HG.out.1.2.1 x hx).2.2.1; omega)
  with_reducible refine (copies_any _ n k l W3 HS3 hn20 HH20.out).mono ?_
  rintro e w4 ⟨v4, rfl, ho4, hb4⟩
  obtain ⟨g4, cap4, rfl⟩ := ho4.shape (by omega)
  have hg4 := ho4.ownG
  have ho4' := ho4.lows (base' := B) (lo' := B) (by omega) (by omega)
  have HB4 := HB3.trans (hb4.mono (by omega))
  have BX4 := BX.call hb4
  have hR : lay_Channel.rep w4 (Els w4 (some B) (.slice (some ⟨g4, 0, none⟩) l.length cap4)) (d c) [.int .u64 (d c).Id, .int .u64 (d c).Local, .int .u64 (d c).Remote, .int .u64 (d c).Reserve, .int .u64 (d c).Most, .slice Au nu cu, .bool (d c).Open] := rep_Channel.2 ⟨Au, nu, cu, rfl, HWD.out, (hsu3.out.keep fun p hp => hb4.cell hp.2.1).wide fun b hb => ⟨⟨hb.1, hb.2.2.of_block (hb4.block b hb.2.1)⟩, Nat.lt_of_lt_of_le hb.2.1 hb4.size, fun e => by
    have h2 := hb.2.1
    simp [Value.ownBlock] at e
    omega⟩⟩
  obtain ⟨cs4, hr4, hc4, hf4⟩ := ho4'.elem hj
  obtain ⟨A'', n'', c'', rfl, -, -⟩ := rep_Channel.1 hr4
  have HO9 := hid (ho4'.putAll hj hR)
  rw [size_lay_Channel, setFrom7] at HO9
  have HB9 := hid (Below.all_ (show B ≤ g4 by omega) [.int .u64 (d c).Id, .int .u64 (d c).Local, .int .u64 (d c).Remote, .int .u64 (d c).Reserve, .int .u64 (d c).Most, .slice Au nu cu, .bool (d c).Open] (j * 7) w4 HB4)
  rw [setFrom7] at HB9
  have HC9 := hid (HC2.out _ _ HCA.out (Below.all_ hg4.1 [.int .u64 (d c).Id, .int .u64 (d c).Local, .int .u64 (d c).Remote, .int .u64 (d c).Reserve, .int .u64 (d c).Most, .slice Au nu cu, .bool (d c).Open] (j * 7) w4 hb4))
  rw [setFrom7] at HC9
  obtain ⟨x0, x1, x2, x3, x4, x5, x6⟩ := BX4.all
  have y0 : w4.cell? ⟨g4, j * 7, none⟩ = some (.int .u64 l[j].Id) := hc4 0 (by decide)
  have f0 := hf4 (j * 7)
  have y1 : w4.cell? ⟨g4, j * 7 + 1, none⟩ = some (.int .u64 l[j].Local) := hc4 1 (by decide)
  have f1 := hf4 (j * 7 + 1)
  have y2 : w4.cell? ⟨g4, j * 7 + 2, none⟩ = some (.int .u64 l[j].Remote) := hc4 2 (by decide)
  have f2 := hf4 (j * 7 + 2)
  have y3 : w4.cell? ⟨g4, j * 7 + 3, none⟩ = some (.int .u64 l[j].Reserve) := hc4 3 (by decide)
  have f3 := hf4 (j * 7 + 3)
  have y4 : w4.cell? ⟨g4, j * 7 + 4, none⟩ = some (.int .u64 l[j].Most) := hc4 4 (by decide)
  have f4 := hf4 (j * 7 + 4)
  have y5 : w4.cell? ⟨g4, j * 7 + 5, none⟩ = some (.slice A'' n'' c'') := hc4 5 (by decide)
  have f5 := hf4 (j * 7 + 5)
  have y6 : w4.cell? ⟨g4, j * 7 + 6, none⟩ = some (.bool l[j].Open) := hc4 6 (by decide)
  have f6 := hf4 (j * 7 + 6)
  clear hc4 hf4 hr4 hR ho4 ho4' hb4 BX BX4 HS3
  go_wp2
  go_ret2
  exact ⟨_, by rw [HE.out.1]; rfl, by rw [HE.out.2]; exact HO9.out, fun _ => HC9.out, HB9.out⟩

set_option maxRecDepth 100000 in
set_option maxHeartbeats 4000000 in
/-- The channels after something is done with one of them (1 variables captured). -/
theorem change1_any (K : Nat) (p1 : Value) (hE : ∀ (args : Array Value) (w : World), (callFunc K args).run Try.prog w = .ok (.enter K args) w) (B : Nat) (C C2 : World → Prop) (hC : ∀ W W', C W → Below W.heap.size W W' → C W') (hC2 : ∀ W W', C2 W → Below W.heap.size W W' → C2 W') (err : Chn → Int) (d : Chn → Chn)
    (A : Option Addr) (n k : Nat) (l : List Chn) (id : Int) (w : World) (h : Sl lay_Channel w (· < B) A n k l) (hB : B ≤ w.heap.size) (hCw : C w)
    (hD : gtE l id = 0 → ∀ (s : Array Value) (W : World), Below B w W → C W → lay_Channel.rep W (· < B) (gtC l id) s.toList → Calls Try.prog K #[.agg s, p1] W fun e w' => ∃ t, e = .returned (.tuple #[.agg t, .int .i64 (err (gtC l id))]) ∧ lay_Channel.rep w' (From w' B) (d (gtC l id)) t.toList ∧ C2 w' ∧ Below B W w')
    (hI : gtE l id = 0 → err (gtC l id) = 0 → (d (gtC l id)).Id = id) :
    Calls Try.prog 43 #[.slice A n k, .int .u64 id, .func (.func K) #[] #[p1]] w fun e w' => ∃ v, e = .returned (.tuple #[v, .int .i64 (oneE l id err)]) ∧ OwnL lay_Channel w' B (some B) 28 v (oneL l id err d) ∧ (gtE l id = 0 → C2 w') ∧ Below B w w' := by
  have HL := hid h.len
  have HD := hid hD
  have HI := hid hI
  have HC := hid hC
  have HC2 := hid hC2
  have HCW := hid hCw
  clear hD hI hC hC2 hCw
  have hcap := h.cap
  unfold maxLen at hcap
  have HSL := hid (fun (W : World) (h' : Below B w W) => (h.keep fun p hp => h'.cell hp : Sl lay_Channel W (· < B) A n k l))
  have HWL := hid (sl_chns (h.wide fun b hb => Nat.lt_of_lt_of_le hb hB))
  go_enter Try.func43, Try.ntmps43
  go_wp2_with fail
  with_reducible refine (placeIn_any A n k l id w (h.wide fun b hb => Nat.lt_of_lt_of_le hb hB)).mono ?_
  rintro e w1 ⟨j, rfl, hfd, hb1⟩
  have HC1 := hid (HC.out _ _ HCW.out hb1)
  have HB1 := hb1.mono hB
  clear hb1
  by_cases hq : gtE l id = 0
  rotate_left
  · have HE := hid (show oneE l id err = gtE l id ∧ oneL l id err d = [] from by
      have e : oneE l id err = gtE l id := if_pos hq
      exact ⟨e, if_neg (by rw [e]; exact hq)⟩)
    have HQ := hid hq
    have d2 : (gtE l id == 0) = false := by simpa using hq
    have d3 : (gtE l id != 0) = true := by simpa using hq
    clear hfd hq
    obtain ⟨x, hx⟩ : ∃ x, gtE l id = x := ⟨_, rfl⟩
    rw [hx] at d2 d3 HE HQ ⊢
    have HX := hid hx
    clear hx
    go_wp2
    go_ret2
    exact ⟨_, by rw [HE.out.1]; rfl, by rw [HE.out.2]; exact OwnL.nil _ _ _ _ _, fun q => absurd (HX.out.symm.trans q) HQ.out, HB1⟩
  obtain ⟨hj, hjc, hat, hhit⟩ := hfd hq
  have HG := hid (gt_is hq)
  have HAT := hid (fun r => hat.with_set HG.out.1.2.2.1 hhit r)
  have HQ := hid hq
  have HDD := hid (HD.out hq)
  rw [hq]
  clear hfd hq hat hhit
  have hjn : j < n := by rw [← HL.out]; exact hj
  obtain ⟨b1, o1, A', n', c', hx1, rfl, hbb, t0, t1, t2, t3, t4, t5, t6, hwc, hsc⟩ := chn_at (HSL.out _ HB1) hjn
  rw [hjc] at t0 t1 t2 t3 t4 t6 hwc hsc
  obtain ⟨c, hc⟩ : ∃ c, gtC l id = c := ⟨_, rfl⟩
  rw [hc] at t0 t1 t2 t3 t4 t6 hwc hsc HDD HG
  have PR := hid (show lay_Channel.rep w1 (· < B) c #[.int .u64 c.Id, .int .u64 c.Local, .int .u64 c.Remote, .int .u64 c.Reserve, .int .u64 c.Most, (.slice A' n' c'), .bool c.Open].toList from rep_Channel.2 ⟨_, _, _, rfl, hwc, hsc⟩)
  have HCC := hid hc
  clear hc hjc hwc hsc
  go_wp2_with fail
  with_reducible refine (HDD.out _ w1 HB1 HC1.out PR.out).mono ?_
  rintro e w2 ⟨t2, rfl, hrd, hc2, hb2⟩
  have HB2 := HB1.trans hb2
  obtain ⟨Au, nu, cu, rfl, hwd, hsu⟩ := agg_Channel hrd
  have HWD := hid hwd
  clear hrd hwd t0 t1 t2 t3 t4 t5 t6
  have hz2 : B ≤ w2.heap.size := Nat.le_trans hB HB2.size
  have hba := bel_alloc (Below.refl w2.heap.size w2) (Obj.cells #[.int .u64 (d c).Id, .int .u64 (d c).Local, .int .u64 (d c).Remote, .int .u64 (d c).Reserve, .int .u64 (d c).Most, .slice Au nu cu, .bool (d c).Open] 28)
  have BX : BoxC (w2.alloc (Obj.cells #[.int .u64 (d c).Id, .int .u64 (d c).Local, .int .u64 (d c).Remote, .int .u64 (d c).Reserve, .int .u64 (d c).Most, .slice Au nu cu, .bool (d c).Open] 28)) w2.heap.size (d c) Au nu cu := BoxC.new w2 (d c) Au nu cu
  have HCA := hid (HC2.out _ _ hc2 hba)
  have HB3 := HB2.trans (hba.mono hz2)
  have hzz : (w2.alloc (Obj.cells #[.int .u64 (d c).Id, .int .u64 (d c).Local, .int .u64 (d c).Remote, .int .u64 (d c).Reserve, .int .u64 (d c).Most, .slice Au nu cu, .bool (d c).Open] 28)).heap.size = w2.heap.size + 1 := by simp
  have hsu3 := hid (hsu.frT hba)
  clear hc2 hb2 HB2
  go_upto_region 5 with (fail)
  clear hsu
  generalize w2.alloc (Obj.cells #[.int .u64 (d c).Id, .int .u64 (d c).Local, .int .u64 (d c).Remote, .int .u64 (d c).Reserve, .int .u64 (d c).Most, .slice Au nu cu, .bool (d c).Open] 28) = W3 at *
  by_cases he : err c = 0
  rotate_left
  · have HE := hid (show oneE l id err = err c ∧ oneL l id err d = [] from by
      have e : oneE l id err = err c := by unfold oneE; rw [if_neg (by simpa using HQ.out), HCC.out]
      exact ⟨e, if_neg (by rw [e]; exact he)⟩)
    have d2 : (err c == 0) = false := by simpa using he
    have d3 : (err c != 0) = true := by simpa using he
    clear he
    obtain ⟨x, hx⟩ : ∃ x, err c = x := ⟨_, rfl⟩
    rw [hx] at d2 d3 HE ⊢
    have HX := hid hx
    clear hx
    go_wp2
    go_ret2
    exact ⟨_, by rw [HE.out.1]; rfl, by rw [HE.out.2]; exact OwnL.nil _ _ _ _ _, fun _ => HCA.out, HB3⟩
  have HII := hid (show (d c).Id = id from by
    have := HI.out HQ.out
    rw [HCC.out] at this
    exact this he)
  have HE := hid (show oneE l id err = 0 ∧ oneL l id err d = l.set j (d c) from by
    have e : oneE l id err = 0 := by unfold oneE; rw [if_neg (by simpa using HQ.out), HCC.out, he]
    refine ⟨e, ?_⟩
    unfold oneL
    rw [if_pos e, HCC.out, ← HAT.out (d c)]
    unfold withC
    rw [HII.out])
  rw [he]
  clear he
  have HS3 := (HSL.out _ HB3).wide fun b hb => Nat.lt_of_lt_of_le hb (Nat.le_trans hB HB3.size)
  go_wp2_with fail
  have hn20 : n ≤ 1048576 := by have := HG.out.1.1; rw [HL.out] at this; omega
  have HH20 := hid (show ∀ x ∈ l, x.Holds.length ≤ 1048576 from fun x hx => by have := (HG.out.1.2.1 x hx).2.2.1; omega)
  with_reducible refine (copies_any _ n k l W3 HS3 hn20 HH20.out).mono ?_
  rintro e w4 ⟨v4, rfl, ho4, hb4⟩
  obtain ⟨g4, cap4, rfl⟩ := ho4.shape (by omega)
  have hg4 := ho4.ownG
  have ho4' := ho4.lows (base' := B) (lo' := B) (by omega) (by omega)
  have HB4 := HB3.trans (hb4.mono (by omega))
  have BX4 := BX.call hb4
  have hR : lay_Channel.rep w4 (Els w4 (some B) (.slice (some ⟨g4, 0, none⟩) l.length cap4)) (d c) [.int .u64 (d c).Id, .int .u64 (d c).Local, .int .u64 (d c).Remote, .int .u64 (d c).Reserve, .int .u64 (d c).Most, .slice Au nu cu, .bool (d c).Open] := rep_Channel.2 ⟨Au, nu, cu, rfl, HWD.out, (hsu3.out.keep fun p hp => hb4.cell hp.2.1).wide fun b hb => ⟨⟨hb.1, hb.2.2.of_block (hb4.block b hb.2.1)⟩, Nat.lt_of_lt_of_le hb.2.1 hb4.size, fun e => by
    have h2 := hb.2.1
    simp [Value.ownBlock] at e
    omega⟩⟩
  obtain ⟨cs4, hr4, hc4, hf4⟩ := ho4'.elem hj
  obtain ⟨A'', n'', c'', rfl, -, -⟩ := rep_Channel.1 hr4
  have HO9 := hid (ho4'.putAll hj hR)
  rw [size_lay_Channel, setFrom7] at HO9
  have HB9 := hid (Below.all_ (show B ≤ g4 by omega) [.int .u64 (d c).Id, .int .u64 (d c).Local, .int .u64 (d c).Remote, .int .u64 (d c).Reserve, .int .u64 (d c).Most, .slice Au nu cu, .bool (d c).Open] (j * 7) w4 HB4)
  rw [setFrom7] at HB9
  have HC9 := hid (HC2.out _ _ HCA.out (Below.all_ hg4.1 [.int .u64 (d c).Id, .int .u64 (d c).Local, .int .u64 (d c).Remote, .int .u64 (d c).Reserve, .int .u64 (d c).Most, .slice Au nu cu, .bool (d c).Open] (j * 7) w4 hb4))
  rw [setFrom7] at HC9
  obtain ⟨x0, x1, x2, x3, x4, x5, x6⟩ := BX4.all
  have y0 : w4.cell? ⟨g4, j * 7, none⟩ = some (.int .u64 l[j].Id) := hc4 0 (by decide)
  have f0 := hf4 (j * 7)
  have y1 : w4.cell? ⟨g4, j * 7 + 1, none⟩ = some (.int .u64 l[j].Local) := hc4 1 (by decide)
  have f1 := hf4 (j * 7 + 1)
  have y2 : w4.cell? ⟨g4, j * 7 + 2, none⟩ = some (.int .u64 l[j].Remote) := hc4 2 (by decide)
  have f2 := hf4 (j * 7 + 2)
  have y3 : w4.cell? ⟨g4, j * 7 + 3, none⟩ = some (.int .u64 l[j].Reserve) := hc4 3 (by decide)
  have f3 := hf4 (j * 7 + 3)
  have y4 : w4.cell? ⟨g4, j * 7 + 4, none⟩ = some (.int .u64 l[j].Most) := hc4 4 (by decide)
  have f4 := hf4 (j * 7 + 4)
  have y5 : w4.cell? ⟨g4, j * 7 + 5, none⟩ = some (.slice A'' n'' c'') := hc4 5 (by decide)
  have f5 := hf4 (j * 7 + 5)
  have y6 : w4.cell? ⟨g4, j * 7 + 6, none⟩ = some (.bool l[j].Open) := hc4 6 (by decide)
  have f6 := hf4 (j * 7 + 6)
  clear hc4 hf4 hr4 hR ho4 ho4' hb4 BX BX4 HS3
  go_wp2
  go_ret2
  exact ⟨_, by rw [HE.out.1]; rfl, by rw [HE.out.2]; exact HO9.out, fun _ => HC9.out, HB9.out⟩

set_option maxRecDepth 100000 in
set_option maxHeartbeats 4000000 in
/-- The channels after something is done with one of them (3 variables captured). -/
theorem change3_any (K : Nat) (p1 p2 p3 : Value) (hE : ∀ (args : Array Value) (w : World), (callFunc K args).run Try.prog w = .ok (.enter K args) w) (B : Nat) (C C2 : World → Prop) (hC : ∀ W W', C W → Below W.heap.size W W' → C W') (hC2 : ∀ W W', C2 W → Below W.heap.size W W' → C2 W') (err : Chn → Int) (d : Chn → Chn)
    (A : Option Addr) (n k : Nat) (l : List Chn) (id : Int) (w : World) (h : Sl lay_Channel w (· < B) A n k l) (hB : B ≤ w.heap.size) (hCw : C w)
    (hD : gtE l id = 0 → ∀ (s : Array Value) (W : World), Below B w W → C W → lay_Channel.rep W (· < B) (gtC l id) s.toList → Calls Try.prog K #[.agg s, p1, p2, p3] W fun e w' => ∃ t, e = .returned (.tuple #[.agg t, .int .i64 (err (gtC l id))]) ∧ lay_Channel.rep w' (From w' B) (d (gtC l id)) t.toList ∧ C2 w' ∧ Below B W w')
    (hI : gtE l id = 0 → err (gtC l id) = 0 → (d (gtC l id)).Id = id) :
    Calls Try.prog 43 #[.slice A n k, .int .u64 id, .func (.func K) #[] #[p1, p2, p3]] w fun e w' => ∃ v, e = .returned (.tuple #[v, .int .i64 (oneE l id err)]) ∧ OwnL lay_Channel w' B (some B) 28 v (oneL l id err d) ∧ (gtE l id = 0 → C2 w') ∧ Below B w w' := by
  have HL := hid h.len
  have HD := hid hD
  have HI := hid hI
  have HC := hid hC
  have HC2 := hid hC2
  have HCW := hid hCw
  clear hD hI hC hC2 hCw
  have hcap := h.cap
  unfold maxLen at hcap
  have HSL := hid (fun (W : World) (h' : Below B w W) => (h.keep fun p hp => h'.cell hp : Sl lay_Channel W (· < B) A n k l))
  have HWL := hid (sl_chns (h.wide fun b hb => Nat.lt_of_lt_of_le hb hB))
  go_enter Try.func43, Try.ntmps43
  go_wp2_with fail
  with_reducible refine (placeIn_any A n k l id w (h.wide fun b hb => Nat.lt_of_lt_of_le hb hB)).mono ?_
  rintro e w1 ⟨j, rfl, hfd, hb1⟩
  have HC1 := hid (HC.out _ _ HCW.out hb1)
  have HB1 := hb1.mono hB
  clear hb1
  by_cases hq : gtE l id = 0
  rotate_left
  · have HE := hid (show oneE l id err = gtE l id ∧ oneL l id err d = [] from by
      have e : oneE l id err = gtE l id := if_pos hq
      exact ⟨e, if_neg (by rw [e]; exact hq)⟩)
    have HQ := hid hq
    have d2 : (gtE l id == 0) = false := by simpa using hq
    have d3 : (gtE l id != 0) = true := by simpa using hq
    clear hfd hq
    obtain ⟨x, hx⟩ : ∃ x, gtE l id = x := ⟨_, rfl⟩
    rw [hx] at d2 d3 HE HQ ⊢
    have HX := hid hx
    clear hx
    go_wp2
    go_ret2
    exact ⟨_, by rw [HE.out.1]; rfl, by rw [HE.out.2]; exact OwnL.nil _ _ _ _ _, fun q => absurd (HX.out.symm.trans q) HQ.out, HB1⟩
  obtain ⟨hj, hjc, hat, hhit⟩ := hfd hq
  have HG := hid (gt_is hq)
  have HAT := hid (fun r => hat.with_set HG.out.1.2.2.1 hhit r)
  have HQ := hid hq
  have HDD := hid (HD.out hq)
  rw [hq]
  clear hfd hq hat hhit
  have hjn : j < n := by rw [← HL.out]; exact hj
  obtain ⟨b1, o1, A', n', c', hx1, rfl, hbb, t0, t1, t2, t3, t4, t5, t6, hwc, hsc⟩ := chn_at (HSL.out _ HB1) hjn
  rw [hjc] at t0 t1 t2 t3 t4 t6 hwc hsc
  obtain ⟨c, hc⟩ : ∃ c, gtC l id = c := ⟨_, rfl⟩
  rw [hc] at t0 t1 t2 t3 t4 t6 hwc hsc HDD HG
  have PR := hid (show lay_Channel.rep w1 (· < B) c #[.int .u64 c.Id, .int .u64 c.Local, .int .u64 c.Remote, .int .u64 c.Reserve, .int .u64 c.Most, (.slice A' n' c'), .bool c.Open].toList from rep_Channel.2 ⟨_, _, _, rfl, hwc, hsc⟩)
  have HCC := hid hc
  clear hc hjc hwc hsc
  go_wp2_with fail
  with_reducible refine (HDD.out _ w1 HB1 HC1.out PR.out).mono ?_
  rintro e w2 ⟨t2, rfl, hrd, hc2, hb2⟩
  have HB2 := HB1.trans hb2
  obtain ⟨Au, nu, cu, rfl, hwd, hsu⟩ := agg_Channel hrd
  have HWD := hid hwd
  clear hrd hwd t0 t1 t2 t3 t4 t5 t6
  have hz2 : B ≤ w2.heap.size := Nat.le_trans hB HB2.size
  have hba := bel_alloc (Below.refl w2.heap.size w2) (Obj.cells #[.int .u64 (d c).Id, .int .u64 (d c).Local, .int .u64 (d c).Remote, .int .u64 (d c).Reserve, .int .u64 (d c).Most, .slice Au nu cu, .bool (d c).Open] 28)
  have BX : BoxC (w2.alloc (Obj.cells #[.int .u64 (d c).Id, .int .u64 (d c).Local, .int .u64 (d c).Remote, .int .u64 (d c).Reserve, .int .u64 (d c).Most, .slice Au nu cu, .bool (d c).Open] 28)) w2.heap.size (d c) Au nu cu := BoxC.new w2 (d c) Au nu cu
  have HCA := hid (HC2.out _ _ hc2 hba)
  have HB3 := HB2.trans (hba.mono hz2)
  have hzz : (w2.alloc (Obj.cells #[.int .u64 (d c).Id, .int .u64 (d c).Local, .int .u64 (d c).Remote, .int .u64 (d c).Reserve, .int .u64 (d c).Most, .slice Au nu cu, .bool (d c).Open] 28)).heap.size = w2.heap.size + 1 := by simp
  have hsu3 := hid (hsu.frT hba)
  clear hc2 hb2 HB2
  go_upto_region 5 with (fail)
  clear hsu
  generalize w2.alloc (Obj.cells #[.int .u64 (d c).Id, .int .u64 (d c).Local, .int .u64 (d c).Remote, .int .u64 (d c).Reserve, .int .u64 (d c).Most, .slice Au nu cu, .bool (d c).Open] 28) = W3 at *
  by_cases he : err c = 0
  rotate_left
  · have HE := hid (show oneE l id err = err c ∧ oneL l id err d = [] from by
      have e : oneE l id err = err c := by unfold oneE; rw [if_neg (by simpa using HQ.out), HCC.out]
      exact ⟨e, if_neg (by rw [e]; exact he)⟩)
    have d2 : (err c == 0) = false := by simpa using he
    have d3 : (err c != 0) = true := by simpa using he
    clear he
    obtain ⟨x, hx⟩ : ∃ x, err c = x := ⟨_, rfl⟩
    rw [hx] at d2 d3 HE ⊢
    have HX := hid hx
    clear hx
    go_wp2
    go_ret2
    exact ⟨_, by rw [HE.out.1]; rfl, by rw [HE.out.2]; exact OwnL.nil _ _ _ _ _, fun _ => HCA.out, HB3⟩
  have HII := hid (show (d c).Id = id from by
    have := HI.out HQ.out
    rw [HCC.out] at this
    exact this he)
  have HE := hid (show oneE l id err = 0 ∧ oneL l id err d = l.set j (d c) from by
    have e : oneE l id err = 0 := by unfold oneE; rw [if_neg (by simpa using HQ.out), HCC.out, he]
    refine ⟨e, ?_⟩
    unfold oneL
    rw [if_pos e, HCC.out, ← HAT.out (d c)]
    unfold withC
    rw [HII.out])
  rw [he]
  clear he
  have HS3 := (HSL.out _ HB3).wide fun b hb => Nat.lt_of_lt_of_le hb (Nat.le_trans hB HB3.size)
  go_wp2_with fail
  have hn20 : n ≤ 1048576 := by have := HG.out.1.1; rw [HL.out] at this; omega
  have HH20 := hid (show ∀ x ∈ l, x.Holds.length ≤ 1048576 from fun x hx => by have := (HG.out.1.2.1 x hx).2.2.1; omega)
  with_reducible refine (copies_any _ n k l W3 HS3 hn20 HH20.out).mono ?_
  rintro e w4 ⟨v4, rfl, ho4, hb4⟩
  obtain ⟨g4, cap4, rfl⟩ := ho4.shape (by omega)
  have hg4 := ho4.ownG
  have ho4' := ho4.lows (base' := B) (lo' := B) (by omega) (by omega)
  have HB4 := HB3.trans (hb4.mono (by omega))
  have BX4 := BX.call hb4
  have hR : lay_Channel.rep w4 (Els w4 (some B) (.slice (some ⟨g4, 0, none⟩) l.length cap4)) (d c) [.int .u64 (d c).Id, .int .u64 (d c).Local, .int .u64 (d c).Remote, .int .u64 (d c).Reserve, .int .u64 (d c).Most, .slice Au nu cu, .bool (d c).Open] := rep_Channel.2 ⟨Au, nu, cu, rfl, HWD.out, (hsu3.out.keep fun p hp => hb4.cell hp.2.1).wide fun b hb => ⟨⟨hb.1, hb.2.2.of_block (hb4.block b hb.2.1)⟩, Nat.lt_of_lt_of_le hb.2.1 hb4.size, fun e => by
    have h2 := hb.2.1
    simp [Value.ownBlock] at e
    omega⟩⟩
  obtain ⟨cs4, hr4, hc4, hf4⟩ := ho4'.elem hj
  obtain ⟨A'', n'', c'', rfl, -, -⟩ := rep_Channel.1 hr4
  have HO9 := hid (ho4'.putAll hj hR)
  rw [size_lay_Channel, setFrom7] at HO9
  have HB9 := hid (Below.all_ (show B ≤ g4 by omega) [.int .u64 (d c).Id, .int .u64 (d c).Local, .int .u64 (d c).Remote, .int .u64 (d c).Reserve, .int .u64 (d c).Most, .slice Au nu cu, .bool (d c).Open] (j * 7) w4 HB4)
  rw [setFrom7] at HB9
  have HC9 := hid (HC2.out _ _ HCA.out (Below.all_ hg4.1 [.int .u64 (d c).Id, .int .u64 (d c).Local, .int .u64 (d c).Remote, .int .u64 (d c).Reserve, .int .u64 (d c).Most, .slice Au nu cu, .bool (d c).Open] (j * 7) w4 hb4))
  rw [setFrom7] at HC9
  obtain ⟨x0, x1, x2, x3, x4, x5, x6⟩ := BX4.all
  have y0 : w4.cell? ⟨g4, j * 7, none⟩ = some (.int .u64 l[j].Id) := hc4 0 (by decide)
  have f0 := hf4 (j * 7)
  have y1 : w4.cell? ⟨g4, j * 7 + 1, none⟩ = some (.int .u64 l[j].Local) := hc4 1 (by decide)
  have f1 := hf4 (j * 7 + 1)
  have y2 : w4.cell? ⟨g4, j * 7 + 2, none⟩ = some (.int .u64 l[j].Remote) := hc4 2 (by decide)
  have f2 := hf4 (j * 7 + 2)
  have y3 : w4.cell? ⟨g4, j * 7 + 3, none⟩ = some (.int .u64 l[j].Reserve) := hc4 3 (by decide)
  have f3 := hf4 (j * 7 + 3)
  have y4 : w4.cell? ⟨g4, j * 7 + 4, none⟩ = some (.int .u64 l[j].Most) := hc4 4 (by decide)
  have f4 := hf4 (j * 7 + 4)
  have y5 : w4.cell? ⟨g4, j * 7 + 5, none⟩ = some (.slice A'' n'' c'') := hc4 5 (by decide)
  have f5 := hf4 (j * 7 + 5)
  have y6 : w4.cell? ⟨g4, j * 7 + 6, none⟩ = some (.bool l[j].Open) := hc4 6 (by decide)
  have f6 := hf4 (j * 7 + 6)
  clear hc4 hf4 hr4 hR ho4 ho4' hb4 BX BX4 HS3
  go_wp2
  go_ret2
  exact ⟨_, by rw [HE.out.1]; rfl, by rw [HE.out.2]; exact HO9.out, fun _ => HC9.out, HB9.out⟩

end Go.Proofs.Ytpkfejfdbjoehaa
