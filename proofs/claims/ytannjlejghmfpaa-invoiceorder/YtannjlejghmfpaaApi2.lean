/-
  The types of api that layers 11 to 24 need.
-/
import Derived.Test.YtannjlejghmfpaaChannelTypes
import Derived.Laws.Cover2
namespace Go.Proofs.Ytannjlejghmfpaa
open Go.RowKit Go.WalkArith

def Lay.float : Lay Nat where
  size := 1
  rep := fun _ _ a cs => cs = [.float .f64 a] ∧ (Lit.float .f64 a).wf = true
  len := fun h => by rw [h.1]; rfl
  one := fun h u hu => by rw [h.1] at hu; simp at hu; subst hu; rfl
  keep := fun h _ => h
  wide := fun h _ => h
theorem trod_floatL {H : Type} {enc : TypeId × Value → H} {P : Program} {w : World} {base : Nat} {spare : Nat → Bool} {held : Bool} {fuel : Nat} {t : TypeId} {cs : List Value} {x : DataW H × List MemPlace} {k : FloatKind} (ht : P.underlying t = some (.float k)) (h : DataW.trod enc P w base spare held fuel t cs = some x) : ∃ n, cs = [.float k n] ∧ (Lit.float k n).wf = true := by
  cases fuel with
  | zero => simp [DataW.trod] at h
  | succ n =>
    unfold DataW.trod at h
    rw [ht] at h
    split at h <;> simp_all
theorem layOf_float {P : Program} {t : TypeId} (hu : P.underlying t = some (.float .f64)) (hc : P.cellsOf t = 1) : LayOf P t Lay.float :=
  ⟨hc.symm, fun _ _ _ _ _ _ h => by
    obtain ⟨n, rfl, hw⟩ := trod_floatL hu h
    exact ⟨n, rfl, hw⟩⟩

/-- api.Weight. -/
structure Wgt where
  Id : Int
  W : Nat
  deriving DecidableEq
def lay_Weight : Lay Wgt := ((Lay.int .u64).prod (Lay.float.prod Lay.unit)).via fun r => (r.Id, r.W, ())
structure WgtWf (r : Wgt) : Prop where
  w0 : (Lit.int .u64 r.Id).wf = true
  w1 : (Lit.float .f64 r.W).wf = true
theorem rep_Weight {w : World} {S : Nat → Prop} {r : Wgt} {cs : List Value} : lay_Weight.rep w S r cs ↔ cs = [.int .u64 r.Id, .float .f64 r.W] ∧ WgtWf r := by
  constructor
  · rintro ⟨d0, e0, rfl, h0, d1, e1, rfl, h1, rfl⟩
    obtain ⟨rfl, q0⟩ := h0
    obtain ⟨rfl, q1⟩ := h1
    exact ⟨rfl, ⟨q0, q1⟩⟩
  · rintro ⟨rfl, ⟨q0, q1⟩⟩
    exact ⟨[_], [_], rfl, ⟨rfl, q0⟩, [_], [], rfl, ⟨rfl, q1⟩, rfl⟩
theorem size_Weight : lay_Weight.size = 2 := rfl
theorem agg_Weight {w : World} {S : Nat → Prop} {r : Wgt} {s : Array Value} (h : lay_Weight.rep w S r s.toList) : s = #[.int .u64 r.Id, .float .f64 r.W] ∧ WgtWf r := by
  obtain ⟨hc, hw⟩ := rep_Weight.1 h
  exact ⟨Array.ext' hc, hw⟩
theorem at_Weight {w : World} {S : Nat → Prop} {A : Option Addr} {n c : Nat} {l : List Wgt} (h : Sl lay_Weight w S A n c l) {j : Nat} (hj : j < n) :
    ∃ b off, ∃ hx : j < l.length, A = some ⟨b, off, none⟩ ∧ S b ∧ w.cell? ⟨b, off + j * 2, none⟩ = some (.int .u64 l[j].Id) ∧ w.cell? ⟨b, off + j * 2 + 1, none⟩ = some (.float .f64 l[j].W) ∧ WgtWf l[j] := by
  obtain ⟨b, off, cs, hx, rfl, hb, hr, hc⟩ := h.at_ hj
  obtain ⟨rfl, hw⟩ := rep_Weight.1 hr
  exact ⟨b, off, hx, rfl, hb, hc 0 _ rfl, hc 1 _ rfl, hw⟩
theorem wfs_Weight {w : World} {S : Nat → Prop} {A : Option Addr} {n c : Nat} {l : List Wgt} (h : Sl lay_Weight w S A n c l) : ∀ x ∈ l, WgtWf x := fun x hx => by
  obtain ⟨j, hj, rfl⟩ := List.getElem_of_mem hx
  have hl := h.len
  obtain ⟨b, off, hx1, -, -, -, -, hw⟩ := at_Weight h (j := j) (by omega)
  exact hw
theorem flat_Weight (w : World) (S S' : Nat → Prop) (a : Wgt) (c : List Value) (h : lay_Weight.rep w S a c) : lay_Weight.rep w S' a c := rep_Weight.2 (rep_Weight.1 h)

/-- api.Invoice. -/
structure Inv where
  Hash : Int
  N : Int
  Till : Int
  State : Int
  deriving DecidableEq
def lay_Invoice : Lay Inv := ((Lay.int .u64).prod ((Lay.int .u64).prod ((Lay.int .u64).prod ((Lay.int .i64).prod Lay.unit)))).via fun r => (r.Hash, r.N, r.Till, r.State, ())
theorem of_Invoice : LayOf Try.prog 37 lay_Invoice :=
  layOf_via (layOf_struct Try.underlying37 (by kernel_rfl) (.cons rfl (layOf_int Try.underlying23 (by kernel_rfl)) (.cons rfl (layOf_int Try.underlying23 (by kernel_rfl)) (.cons rfl (layOf_int Try.underlying23 (by kernel_rfl)) (.cons rfl (layOf_int Try.underlying3 (by kernel_rfl)) (.nil _)))))) _
    fun ⟨x0, x1, x2, x3, _⟩ => ⟨⟨x0, x1, x2, x3⟩, rfl⟩
structure InvWf (r : Inv) : Prop where
  w0 : (Lit.int .u64 r.Hash).wf = true
  w1 : (Lit.int .u64 r.N).wf = true
  w2 : (Lit.int .u64 r.Till).wf = true
  w3 : (Lit.int .i64 r.State).wf = true
theorem rep_Invoice {w : World} {S : Nat → Prop} {r : Inv} {cs : List Value} : lay_Invoice.rep w S r cs ↔ cs = [.int .u64 r.Hash, .int .u64 r.N, .int .u64 r.Till, .int .i64 r.State] ∧ InvWf r := by
  constructor
  · rintro ⟨d0, e0, rfl, h0, d1, e1, rfl, h1, d2, e2, rfl, h2, d3, e3, rfl, h3, rfl⟩
    obtain ⟨rfl, q0⟩ := h0
    obtain ⟨rfl, q1⟩ := h1
    obtain ⟨rfl, q2⟩ := h2
    obtain ⟨rfl, q3⟩ := h3
    exact ⟨rfl, ⟨q0, q1, q2, q3⟩⟩
  · rintro ⟨rfl, ⟨q0, q1, q2, q3⟩⟩
    exact ⟨[_], [_, _, _], rfl, ⟨rfl, q0⟩, [_], [_, _], rfl, ⟨rfl, q1⟩, [_], [_], rfl, ⟨rfl, q2⟩, [_], [], rfl, ⟨rfl, q3⟩, rfl⟩
theorem size_Invoice : lay_Invoice.size = 4 := rfl
theorem agg_Invoice {w : World} {S : Nat → Prop} {r : Inv} {s : Array Value} (h : lay_Invoice.rep w S r s.toList) : s = #[.int .u64 r.Hash, .int .u64 r.N, .int .u64 r.Till, .int .i64 r.State] ∧ InvWf r := by
  obtain ⟨hc, hw⟩ := rep_Invoice.1 h
  exact ⟨Array.ext' hc, hw⟩
theorem at_Invoice {w : World} {S : Nat → Prop} {A : Option Addr} {n c : Nat} {l : List Inv} (h : Sl lay_Invoice w S A n c l) {j : Nat} (hj : j < n) :
    ∃ b off, ∃ hx : j < l.length, A = some ⟨b, off, none⟩ ∧ S b ∧ w.cell? ⟨b, off + j * 4, none⟩ = some (.int .u64 l[j].Hash) ∧ w.cell? ⟨b, off + j * 4 + 1, none⟩ = some (.int .u64 l[j].N) ∧ w.cell? ⟨b, off + j * 4 + 2, none⟩ = some (.int .u64 l[j].Till) ∧ w.cell? ⟨b, off + j * 4 + 3, none⟩ = some (.int .i64 l[j].State) ∧ InvWf l[j] := by
  obtain ⟨b, off, cs, hx, rfl, hb, hr, hc⟩ := h.at_ hj
  obtain ⟨rfl, hw⟩ := rep_Invoice.1 hr
  exact ⟨b, off, hx, rfl, hb, hc 0 _ rfl, hc 1 _ rfl, hc 2 _ rfl, hc 3 _ rfl, hw⟩
theorem wfs_Invoice {w : World} {S : Nat → Prop} {A : Option Addr} {n c : Nat} {l : List Inv} (h : Sl lay_Invoice w S A n c l) : ∀ x ∈ l, InvWf x := fun x hx => by
  obtain ⟨j, hj, rfl⟩ := List.getElem_of_mem hx
  have hl := h.len
  obtain ⟨b, off, hx1, -, -, -, -, -, -, hw⟩ := at_Invoice h (j := j) (by omega)
  exact hw
theorem flat_Invoice (w : World) (S S' : Nat → Prop) (a : Inv) (c : List Value) (h : lay_Invoice.rep w S a c) : lay_Invoice.rep w S' a c := rep_Invoice.2 (rep_Invoice.1 h)

/-- api.Payment. -/
structure Pmt where
  Id : Int
  Hash : Int
  Chan : Int
  N : Int
  State : Int
  deriving DecidableEq
def lay_Payment : Lay Pmt := ((Lay.int .u64).prod ((Lay.int .u64).prod ((Lay.int .u64).prod ((Lay.int .u64).prod ((Lay.int .i64).prod Lay.unit))))).via fun r => (r.Id, r.Hash, r.Chan, r.N, r.State, ())
structure PmtWf (r : Pmt) : Prop where
  w0 : (Lit.int .u64 r.Id).wf = true
  w1 : (Lit.int .u64 r.Hash).wf = true
  w2 : (Lit.int .u64 r.Chan).wf = true
  w3 : (Lit.int .u64 r.N).wf = true
  w4 : (Lit.int .i64 r.State).wf = true
theorem rep_Payment {w : World} {S : Nat → Prop} {r : Pmt} {cs : List Value} : lay_Payment.rep w S r cs ↔ cs = [.int .u64 r.Id, .int .u64 r.Hash, .int .u64 r.Chan, .int .u64 r.N, .int .i64 r.State] ∧ PmtWf r := by
  constructor
  · rintro ⟨d0, e0, rfl, h0, d1, e1, rfl, h1, d2, e2, rfl, h2, d3, e3, rfl, h3, d4, e4, rfl, h4, rfl⟩
    obtain ⟨rfl, q0⟩ := h0
    obtain ⟨rfl, q1⟩ := h1
    obtain ⟨rfl, q2⟩ := h2
    obtain ⟨rfl, q3⟩ := h3
    obtain ⟨rfl, q4⟩ := h4
    exact ⟨rfl, ⟨q0, q1, q2, q3, q4⟩⟩
  · rintro ⟨rfl, ⟨q0, q1, q2, q3, q4⟩⟩
    exact ⟨[_], [_, _, _, _], rfl, ⟨rfl, q0⟩, [_], [_, _, _], rfl, ⟨rfl, q1⟩, [_], [_, _], rfl, ⟨rfl, q2⟩, [_], [_], rfl, ⟨rfl, q3⟩, [_], [], rfl, ⟨rfl, q4⟩, rfl⟩
theorem size_Payment : lay_Payment.size = 5 := rfl
theorem agg_Payment {w : World} {S : Nat → Prop} {r : Pmt} {s : Array Value} (h : lay_Payment.rep w S r s.toList) : s = #[.int .u64 r.Id, .int .u64 r.Hash, .int .u64 r.Chan, .int .u64 r.N, .int .i64 r.State] ∧ PmtWf r := by
  obtain ⟨hc, hw⟩ := rep_Payment.1 h
  exact ⟨Array.ext' hc, hw⟩
theorem at_Payment {w : World} {S : Nat → Prop} {A : Option Addr} {n c : Nat} {l : List Pmt} (h : Sl lay_Payment w S A n c l) {j : Nat} (hj : j < n) :
    ∃ b off, ∃ hx : j < l.length, A = some ⟨b, off, none⟩ ∧ S b ∧ w.cell? ⟨b, off + j * 5, none⟩ = some (.int .u64 l[j].Id) ∧ w.cell? ⟨b, off + j * 5 + 1, none⟩ = some (.int .u64 l[j].Hash) ∧ w.cell? ⟨b, off + j * 5 + 2, none⟩ = some (.int .u64 l[j].Chan) ∧ w.cell? ⟨b, off + j * 5 + 3, none⟩ = some (.int .u64 l[j].N) ∧ w.cell? ⟨b, off + j * 5 + 4, none⟩ = some (.int .i64 l[j].State) ∧ PmtWf l[j] := by
  obtain ⟨b, off, cs, hx, rfl, hb, hr, hc⟩ := h.at_ hj
  obtain ⟨rfl, hw⟩ := rep_Payment.1 hr
  exact ⟨b, off, hx, rfl, hb, hc 0 _ rfl, hc 1 _ rfl, hc 2 _ rfl, hc 3 _ rfl, hc 4 _ rfl, hw⟩
theorem wfs_Payment {w : World} {S : Nat → Prop} {A : Option Addr} {n c : Nat} {l : List Pmt} (h : Sl lay_Payment w S A n c l) : ∀ x ∈ l, PmtWf x := fun x hx => by
  obtain ⟨j, hj, rfl⟩ := List.getElem_of_mem hx
  have hl := h.len
  obtain ⟨b, off, hx1, -, -, -, -, -, -, -, hw⟩ := at_Payment h (j := j) (by omega)
  exact hw
theorem flat_Payment (w : World) (S S' : Nat → Prop) (a : Pmt) (c : List Value) (h : lay_Payment.rep w S a c) : lay_Payment.rep w S' a c := rep_Payment.2 (rep_Payment.1 h)

/-- api.Key. -/
structure Ikey where
  K : Int
  Print : List Int
  Reply : List Int
  Till : Int
  deriving DecidableEq
def lay_Key : Lay Ikey := ((Lay.int .u64).prod ((Lay.slice (Lay.int .u8)).prod ((Lay.slice (Lay.int .u8)).prod ((Lay.int .u64).prod Lay.unit)))).via fun r => (r.K, r.Print, r.Reply, r.Till, ())
structure IkeyWf (r : Ikey) : Prop where
  w0 : (Lit.int .u64 r.K).wf = true
  w1 : (Lit.int .u64 r.Till).wf = true
theorem rep_Key {w : World} {S : Nat → Prop} {r : Ikey} {cs : List Value} : lay_Key.rep w S r cs ↔ ∃ A0 n0 c0 A1 n1 c1, cs = [.int .u64 r.K, .slice A0 n0 c0, .slice A1 n1 c1, .int .u64 r.Till] ∧ IkeyWf r ∧ Sl (Lay.int .u8) w S A0 n0 c0 r.Print ∧ Sl (Lay.int .u8) w S A1 n1 c1 r.Reply := by
  constructor
  · rintro ⟨d0, e0, rfl, h0, d1, e1, rfl, h1, d2, e2, rfl, h2, d3, e3, rfl, h3, rfl⟩
    obtain ⟨rfl, q0⟩ := h0
    obtain ⟨A0, n0, c0, rfl, s0⟩ := h1
    obtain ⟨A1, n1, c1, rfl, s1⟩ := h2
    obtain ⟨rfl, q3⟩ := h3
    exact ⟨A0, n0, c0, A1, n1, c1, rfl, ⟨q0, q3⟩, s0, s1⟩
  · rintro ⟨A0, n0, c0, A1, n1, c1, rfl, ⟨q0, q3⟩, s0, s1⟩
    exact ⟨[_], [_, _, _], rfl, ⟨rfl, q0⟩, [_], [_, _], rfl, ⟨A0, n0, c0, rfl, s0⟩, [_], [_], rfl, ⟨A1, n1, c1, rfl, s1⟩, [_], [], rfl, ⟨rfl, q3⟩, rfl⟩
theorem size_Key : lay_Key.size = 4 := rfl
theorem agg_Key {w : World} {S : Nat → Prop} {r : Ikey} {s : Array Value} (h : lay_Key.rep w S r s.toList) : ∃ A0 n0 c0 A1 n1 c1, s = #[.int .u64 r.K, .slice A0 n0 c0, .slice A1 n1 c1, .int .u64 r.Till] ∧ IkeyWf r ∧ Sl (Lay.int .u8) w S A0 n0 c0 r.Print ∧ Sl (Lay.int .u8) w S A1 n1 c1 r.Reply := by
  obtain ⟨A0, n0, c0, A1, n1, c1, hc, hw, s0, s1⟩ := rep_Key.1 h
  exact ⟨A0, n0, c0, A1, n1, c1, Array.ext' hc, hw, s0, s1⟩
theorem at_Key {w : World} {S : Nat → Prop} {A : Option Addr} {n c : Nat} {l : List Ikey} (h : Sl lay_Key w S A n c l) {j : Nat} (hj : j < n) :
    ∃ b off A0 n0 c0 A1 n1 c1, ∃ hx : j < l.length, A = some ⟨b, off, none⟩ ∧ S b ∧ w.cell? ⟨b, off + j * 4, none⟩ = some (.int .u64 l[j].K) ∧ w.cell? ⟨b, off + j * 4 + 1, none⟩ = some (.slice A0 n0 c0) ∧ w.cell? ⟨b, off + j * 4 + 2, none⟩ = some (.slice A1 n1 c1) ∧ w.cell? ⟨b, off + j * 4 + 3, none⟩ = some (.int .u64 l[j].Till) ∧ IkeyWf l[j] ∧ Sl (Lay.int .u8) w S A0 n0 c0 l[j].Print ∧ Sl (Lay.int .u8) w S A1 n1 c1 l[j].Reply := by
  obtain ⟨b, off, cs, hx, rfl, hb, hr, hc⟩ := h.at_ hj
  obtain ⟨A0, n0, c0, A1, n1, c1, rfl, hw, s0, s1⟩ := rep_Key.1 hr
  exact ⟨b, off, A0, n0, c0, A1, n1, c1, hx, rfl, hb, hc 0 _ rfl, hc 1 _ rfl, hc 2 _ rfl, hc 3 _ rfl, hw, s0, s1⟩
theorem wfs_Key {w : World} {S : Nat → Prop} {A : Option Addr} {n c : Nat} {l : List Ikey} (h : Sl lay_Key w S A n c l) : ∀ x ∈ l, IkeyWf x := fun x hx => by
  obtain ⟨j, hj, rfl⟩ := List.getElem_of_mem hx
  have hl := h.len
  obtain ⟨b, off, -, -, -, -, -, -, hx1, -, -, -, -, -, -, hw, -, -⟩ := at_Key h (j := j) (by omega)
  exact hw

/-- api.Count. -/
structure Cnt where
  Root : Int
  B : Int
  N : Int
  deriving DecidableEq
def lay_Count : Lay Cnt := ((Lay.int .u64).prod ((Lay.int .u64).prod ((Lay.int .u64).prod Lay.unit))).via fun r => (r.Root, r.B, r.N, ())
structure CntWf (r : Cnt) : Prop where
  w0 : (Lit.int .u64 r.Root).wf = true
  w1 : (Lit.int .u64 r.B).wf = true
  w2 : (Lit.int .u64 r.N).wf = true
theorem rep_Count {w : World} {S : Nat → Prop} {r : Cnt} {cs : List Value} : lay_Count.rep w S r cs ↔ cs = [.int .u64 r.Root, .int .u64 r.B, .int .u64 r.N] ∧ CntWf r := by
  constructor
  · rintro ⟨d0, e0, rfl, h0, d1, e1, rfl, h1, d2, e2, rfl, h2, rfl⟩
    obtain ⟨rfl, q0⟩ := h0
    obtain ⟨rfl, q1⟩ := h1
    obtain ⟨rfl, q2⟩ := h2
    exact ⟨rfl, ⟨q0, q1, q2⟩⟩
  · rintro ⟨rfl, ⟨q0, q1, q2⟩⟩
    exact ⟨[_], [_, _], rfl, ⟨rfl, q0⟩, [_], [_], rfl, ⟨rfl, q1⟩, [_], [], rfl, ⟨rfl, q2⟩, rfl⟩
theorem size_Count : lay_Count.size = 3 := rfl
theorem agg_Count {w : World} {S : Nat → Prop} {r : Cnt} {s : Array Value} (h : lay_Count.rep w S r s.toList) : s = #[.int .u64 r.Root, .int .u64 r.B, .int .u64 r.N] ∧ CntWf r := by
  obtain ⟨hc, hw⟩ := rep_Count.1 h
  exact ⟨Array.ext' hc, hw⟩
theorem at_Count {w : World} {S : Nat → Prop} {A : Option Addr} {n c : Nat} {l : List Cnt} (h : Sl lay_Count w S A n c l) {j : Nat} (hj : j < n) :
    ∃ b off, ∃ hx : j < l.length, A = some ⟨b, off, none⟩ ∧ S b ∧ w.cell? ⟨b, off + j * 3, none⟩ = some (.int .u64 l[j].Root) ∧ w.cell? ⟨b, off + j * 3 + 1, none⟩ = some (.int .u64 l[j].B) ∧ w.cell? ⟨b, off + j * 3 + 2, none⟩ = some (.int .u64 l[j].N) ∧ CntWf l[j] := by
  obtain ⟨b, off, cs, hx, rfl, hb, hr, hc⟩ := h.at_ hj
  obtain ⟨rfl, hw⟩ := rep_Count.1 hr
  exact ⟨b, off, hx, rfl, hb, hc 0 _ rfl, hc 1 _ rfl, hc 2 _ rfl, hw⟩
theorem wfs_Count {w : World} {S : Nat → Prop} {A : Option Addr} {n c : Nat} {l : List Cnt} (h : Sl lay_Count w S A n c l) : ∀ x ∈ l, CntWf x := fun x hx => by
  obtain ⟨j, hj, rfl⟩ := List.getElem_of_mem hx
  have hl := h.len
  obtain ⟨b, off, hx1, -, -, -, -, -, hw⟩ := at_Count h (j := j) (by omega)
  exact hw
theorem flat_Count (w : World) (S S' : Nat → Prop) (a : Cnt) (c : List Value) (h : lay_Count.rep w S a c) : lay_Count.rep w S' a c := rep_Count.2 (rep_Count.1 h)

/-- api.Event. -/
structure Evt where
  Seq : Int
  Kind : Int
  A : Int
  N : Int
  deriving DecidableEq
def lay_Event : Lay Evt := ((Lay.int .u64).prod ((Lay.int .i64).prod ((Lay.int .u64).prod ((Lay.int .u64).prod Lay.unit)))).via fun r => (r.Seq, r.Kind, r.A, r.N, ())
structure EvtWf (r : Evt) : Prop where
  w0 : (Lit.int .u64 r.Seq).wf = true
  w1 : (Lit.int .i64 r.Kind).wf = true
  w2 : (Lit.int .u64 r.A).wf = true
  w3 : (Lit.int .u64 r.N).wf = true
theorem rep_Event {w : World} {S : Nat → Prop} {r : Evt} {cs : List Value} : lay_Event.rep w S r cs ↔ cs = [.int .u64 r.Seq, .int .i64 r.Kind, .int .u64 r.A, .int .u64 r.N] ∧ EvtWf r := by
  constructor
  · rintro ⟨d0, e0, rfl, h0, d1, e1, rfl, h1, d2, e2, rfl, h2, d3, e3, rfl, h3, rfl⟩
    obtain ⟨rfl, q0⟩ := h0
    obtain ⟨rfl, q1⟩ := h1
    obtain ⟨rfl, q2⟩ := h2
    obtain ⟨rfl, q3⟩ := h3
    exact ⟨rfl, ⟨q0, q1, q2, q3⟩⟩
  · rintro ⟨rfl, ⟨q0, q1, q2, q3⟩⟩
    exact ⟨[_], [_, _, _], rfl, ⟨rfl, q0⟩, [_], [_, _], rfl, ⟨rfl, q1⟩, [_], [_], rfl, ⟨rfl, q2⟩, [_], [], rfl, ⟨rfl, q3⟩, rfl⟩
theorem size_Event : lay_Event.size = 4 := rfl
theorem agg_Event {w : World} {S : Nat → Prop} {r : Evt} {s : Array Value} (h : lay_Event.rep w S r s.toList) : s = #[.int .u64 r.Seq, .int .i64 r.Kind, .int .u64 r.A, .int .u64 r.N] ∧ EvtWf r := by
  obtain ⟨hc, hw⟩ := rep_Event.1 h
  exact ⟨Array.ext' hc, hw⟩
theorem at_Event {w : World} {S : Nat → Prop} {A : Option Addr} {n c : Nat} {l : List Evt} (h : Sl lay_Event w S A n c l) {j : Nat} (hj : j < n) :
    ∃ b off, ∃ hx : j < l.length, A = some ⟨b, off, none⟩ ∧ S b ∧ w.cell? ⟨b, off + j * 4, none⟩ = some (.int .u64 l[j].Seq) ∧ w.cell? ⟨b, off + j * 4 + 1, none⟩ = some (.int .i64 l[j].Kind) ∧ w.cell? ⟨b, off + j * 4 + 2, none⟩ = some (.int .u64 l[j].A) ∧ w.cell? ⟨b, off + j * 4 + 3, none⟩ = some (.int .u64 l[j].N) ∧ EvtWf l[j] := by
  obtain ⟨b, off, cs, hx, rfl, hb, hr, hc⟩ := h.at_ hj
  obtain ⟨rfl, hw⟩ := rep_Event.1 hr
  exact ⟨b, off, hx, rfl, hb, hc 0 _ rfl, hc 1 _ rfl, hc 2 _ rfl, hc 3 _ rfl, hw⟩
theorem wfs_Event {w : World} {S : Nat → Prop} {A : Option Addr} {n c : Nat} {l : List Evt} (h : Sl lay_Event w S A n c l) : ∀ x ∈ l, EvtWf x := fun x hx => by
  obtain ⟨j, hj, rfl⟩ := List.getElem_of_mem hx
  have hl := h.len
  obtain ⟨b, off, hx1, -, -, -, -, -, -, hw⟩ := at_Event h (j := j) (by omega)
  exact hw
theorem flat_Event (w : World) (S S' : Nat → Prop) (a : Evt) (c : List Value) (h : lay_Event.rep w S a c) : lay_Event.rep w S' a c := rep_Event.2 (rep_Event.1 h)

/-- api.Feed. -/
structure Fed where
  Next : Int
  L : List Evt
  deriving DecidableEq
def lay_Feed : Lay Fed := ((Lay.int .u64).prod ((Lay.slice lay_Event).prod Lay.unit)).via fun r => (r.Next, r.L, ())
structure FedWf (r : Fed) : Prop where
  w0 : (Lit.int .u64 r.Next).wf = true
theorem rep_Feed {w : World} {S : Nat → Prop} {r : Fed} {cs : List Value} : lay_Feed.rep w S r cs ↔ ∃ A0 n0 c0, cs = [.int .u64 r.Next, .slice A0 n0 c0] ∧ FedWf r ∧ Sl lay_Event w S A0 n0 c0 r.L := by
  constructor
  · rintro ⟨d0, e0, rfl, h0, d1, e1, rfl, h1, rfl⟩
    obtain ⟨rfl, q0⟩ := h0
    obtain ⟨A0, n0, c0, rfl, s0⟩ := h1
    exact ⟨A0, n0, c0, rfl, ⟨q0⟩, s0⟩
  · rintro ⟨A0, n0, c0, rfl, ⟨q0⟩, s0⟩
    exact ⟨[_], [_], rfl, ⟨rfl, q0⟩, [_], [], rfl, ⟨A0, n0, c0, rfl, s0⟩, rfl⟩
theorem size_Feed : lay_Feed.size = 2 := rfl
theorem agg_Feed {w : World} {S : Nat → Prop} {r : Fed} {s : Array Value} (h : lay_Feed.rep w S r s.toList) : ∃ A0 n0 c0, s = #[.int .u64 r.Next, .slice A0 n0 c0] ∧ FedWf r ∧ Sl lay_Event w S A0 n0 c0 r.L := by
  obtain ⟨A0, n0, c0, hc, hw, s0⟩ := rep_Feed.1 h
  exact ⟨A0, n0, c0, Array.ext' hc, hw, s0⟩
theorem at_Feed {w : World} {S : Nat → Prop} {A : Option Addr} {n c : Nat} {l : List Fed} (h : Sl lay_Feed w S A n c l) {j : Nat} (hj : j < n) :
    ∃ b off A0 n0 c0, ∃ hx : j < l.length, A = some ⟨b, off, none⟩ ∧ S b ∧ w.cell? ⟨b, off + j * 2, none⟩ = some (.int .u64 l[j].Next) ∧ w.cell? ⟨b, off + j * 2 + 1, none⟩ = some (.slice A0 n0 c0) ∧ FedWf l[j] ∧ Sl lay_Event w S A0 n0 c0 l[j].L := by
  obtain ⟨b, off, cs, hx, rfl, hb, hr, hc⟩ := h.at_ hj
  obtain ⟨A0, n0, c0, rfl, hw, s0⟩ := rep_Feed.1 hr
  exact ⟨b, off, A0, n0, c0, hx, rfl, hb, hc 0 _ rfl, hc 1 _ rfl, hw, s0⟩
theorem wfs_Feed {w : World} {S : Nat → Prop} {A : Option Addr} {n c : Nat} {l : List Fed} (h : Sl lay_Feed w S A n c l) : ∀ x ∈ l, FedWf x := fun x hx => by
  obtain ⟨j, hj, rfl⟩ := List.getElem_of_mem hx
  have hl := h.len
  obtain ⟨b, off, -, -, -, hx1, -, -, -, -, hw, -⟩ := at_Feed h (j := j) (by omega)
  exact hw

/-- api.Sub. -/
structure Sbs where
  Mask : Int
  At : Int
  deriving DecidableEq
def lay_Sub : Lay Sbs := ((Lay.int .u64).prod ((Lay.int .u64).prod Lay.unit)).via fun r => (r.Mask, r.At, ())
structure SbsWf (r : Sbs) : Prop where
  w0 : (Lit.int .u64 r.Mask).wf = true
  w1 : (Lit.int .u64 r.At).wf = true
theorem rep_Sub {w : World} {S : Nat → Prop} {r : Sbs} {cs : List Value} : lay_Sub.rep w S r cs ↔ cs = [.int .u64 r.Mask, .int .u64 r.At] ∧ SbsWf r := by
  constructor
  · rintro ⟨d0, e0, rfl, h0, d1, e1, rfl, h1, rfl⟩
    obtain ⟨rfl, q0⟩ := h0
    obtain ⟨rfl, q1⟩ := h1
    exact ⟨rfl, ⟨q0, q1⟩⟩
  · rintro ⟨rfl, ⟨q0, q1⟩⟩
    exact ⟨[_], [_], rfl, ⟨rfl, q0⟩, [_], [], rfl, ⟨rfl, q1⟩, rfl⟩
theorem size_Sub : lay_Sub.size = 2 := rfl
theorem agg_Sub {w : World} {S : Nat → Prop} {r : Sbs} {s : Array Value} (h : lay_Sub.rep w S r s.toList) : s = #[.int .u64 r.Mask, .int .u64 r.At] ∧ SbsWf r := by
  obtain ⟨hc, hw⟩ := rep_Sub.1 h
  exact ⟨Array.ext' hc, hw⟩
theorem at_Sub {w : World} {S : Nat → Prop} {A : Option Addr} {n c : Nat} {l : List Sbs} (h : Sl lay_Sub w S A n c l) {j : Nat} (hj : j < n) :
    ∃ b off, ∃ hx : j < l.length, A = some ⟨b, off, none⟩ ∧ S b ∧ w.cell? ⟨b, off + j * 2, none⟩ = some (.int .u64 l[j].Mask) ∧ w.cell? ⟨b, off + j * 2 + 1, none⟩ = some (.int .u64 l[j].At) ∧ SbsWf l[j] := by
  obtain ⟨b, off, cs, hx, rfl, hb, hr, hc⟩ := h.at_ hj
  obtain ⟨rfl, hw⟩ := rep_Sub.1 hr
  exact ⟨b, off, hx, rfl, hb, hc 0 _ rfl, hc 1 _ rfl, hw⟩
theorem wfs_Sub {w : World} {S : Nat → Prop} {A : Option Addr} {n c : Nat} {l : List Sbs} (h : Sl lay_Sub w S A n c l) : ∀ x ∈ l, SbsWf x := fun x hx => by
  obtain ⟨j, hj, rfl⟩ := List.getElem_of_mem hx
  have hl := h.len
  obtain ⟨b, off, hx1, -, -, -, -, hw⟩ := at_Sub h (j := j) (by omega)
  exact hw
theorem flat_Sub (w : World) (S S' : Nat → Prop) (a : Sbs) (c : List Value) (h : lay_Sub.rep w S a c) : lay_Sub.rep w S' a c := rep_Sub.2 (rep_Sub.1 h)

/-- api.Wallet. -/
structure Wal where
  C : List Chn
  W : List Wgt
  I : List Inv
  P : List Pmt
  F : Fed
  Next : Int
  Tick : Int
  deriving DecidableEq
def lay_Wallet : Lay Wal := ((Lay.slice lay_Channel).prod ((Lay.slice lay_Weight).prod ((Lay.slice lay_Invoice).prod ((Lay.slice lay_Payment).prod (lay_Feed.prod ((Lay.int .u64).prod ((Lay.int .u64).prod Lay.unit))))))).via fun r => (r.C, r.W, r.I, r.P, r.F, r.Next, r.Tick, ())
structure WalWf (r : Wal) : Prop where
  w0 : FedWf r.F
  w1 : (Lit.int .u64 r.Next).wf = true
  w2 : (Lit.int .u64 r.Tick).wf = true
theorem rep_Wallet {w : World} {S : Nat → Prop} {r : Wal} {cs : List Value} : lay_Wallet.rep w S r cs ↔ ∃ A0 n0 c0 A1 n1 c1 A2 n2 c2 A3 n3 c3 A4 n4 c4, cs = [.slice A0 n0 c0, .slice A1 n1 c1, .slice A2 n2 c2, .slice A3 n3 c3, .int .u64 r.F.Next, .slice A4 n4 c4, .int .u64 r.Next, .int .u64 r.Tick] ∧ WalWf r ∧ Sl lay_Channel w S A0 n0 c0 r.C ∧ Sl lay_Weight w S A1 n1 c1 r.W ∧ Sl lay_Invoice w S A2 n2 c2 r.I ∧ Sl lay_Payment w S A3 n3 c3 r.P ∧ Sl lay_Event w S A4 n4 c4 r.F.L := by
  constructor
  · rintro ⟨d0, e0, rfl, h0, d1, e1, rfl, h1, d2, e2, rfl, h2, d3, e3, rfl, h3, d4, e4, rfl, h4, d5, e5, rfl, h5, d6, e6, rfl, h6, rfl⟩
    obtain ⟨A0, n0, c0, rfl, s0⟩ := h0
    obtain ⟨A1, n1, c1, rfl, s1⟩ := h1
    obtain ⟨A2, n2, c2, rfl, s2⟩ := h2
    obtain ⟨A3, n3, c3, rfl, s3⟩ := h3
    obtain ⟨A4, n4, c4, rfl, q4, s4⟩ := rep_Feed.1 h4
    obtain ⟨rfl, q5⟩ := h5
    obtain ⟨rfl, q6⟩ := h6
    exact ⟨A0, n0, c0, A1, n1, c1, A2, n2, c2, A3, n3, c3, A4, n4, c4, rfl, ⟨q4, q5, q6⟩, s0, s1, s2, s3, s4⟩
  · rintro ⟨A0, n0, c0, A1, n1, c1, A2, n2, c2, A3, n3, c3, A4, n4, c4, rfl, ⟨q4, q5, q6⟩, s0, s1, s2, s3, s4⟩
    exact ⟨[_], [_, _, _, _, _, _, _], rfl, ⟨A0, n0, c0, rfl, s0⟩, [_], [_, _, _, _, _, _], rfl, ⟨A1, n1, c1, rfl, s1⟩, [_], [_, _, _, _, _], rfl, ⟨A2, n2, c2, rfl, s2⟩, [_], [_, _, _, _], rfl, ⟨A3, n3, c3, rfl, s3⟩, [_, _], [_, _], rfl, rep_Feed.2 ⟨A4, n4, c4, rfl, q4, s4⟩, [_], [_], rfl, ⟨rfl, q5⟩, [_], [], rfl, ⟨rfl, q6⟩, rfl⟩
theorem size_Wallet : lay_Wallet.size = 8 := rfl
theorem agg_Wallet {w : World} {S : Nat → Prop} {r : Wal} {s : Array Value} (h : lay_Wallet.rep w S r s.toList) : ∃ A0 n0 c0 A1 n1 c1 A2 n2 c2 A3 n3 c3 A4 n4 c4, s = #[.slice A0 n0 c0, .slice A1 n1 c1, .slice A2 n2 c2, .slice A3 n3 c3, .int .u64 r.F.Next, .slice A4 n4 c4, .int .u64 r.Next, .int .u64 r.Tick] ∧ WalWf r ∧ Sl lay_Channel w S A0 n0 c0 r.C ∧ Sl lay_Weight w S A1 n1 c1 r.W ∧ Sl lay_Invoice w S A2 n2 c2 r.I ∧ Sl lay_Payment w S A3 n3 c3 r.P ∧ Sl lay_Event w S A4 n4 c4 r.F.L := by
  obtain ⟨A0, n0, c0, A1, n1, c1, A2, n2, c2, A3, n3, c3, A4, n4, c4, hc, hw, s0, s1, s2, s3, s4⟩ := rep_Wallet.1 h
  exact ⟨A0, n0, c0, A1, n1, c1, A2, n2, c2, A3, n3, c3, A4, n4, c4, Array.ext' hc, hw, s0, s1, s2, s3, s4⟩
theorem at_Wallet {w : World} {S : Nat → Prop} {A : Option Addr} {n c : Nat} {l : List Wal} (h : Sl lay_Wallet w S A n c l) {j : Nat} (hj : j < n) :
    ∃ b off A0 n0 c0 A1 n1 c1 A2 n2 c2 A3 n3 c3 A4 n4 c4, ∃ hx : j < l.length, A = some ⟨b, off, none⟩ ∧ S b ∧ w.cell? ⟨b, off + j * 8, none⟩ = some (.slice A0 n0 c0) ∧ w.cell? ⟨b, off + j * 8 + 1, none⟩ = some (.slice A1 n1 c1) ∧ w.cell? ⟨b, off + j * 8 + 2, none⟩ = some (.slice A2 n2 c2) ∧ w.cell? ⟨b, off + j * 8 + 3, none⟩ = some (.slice A3 n3 c3) ∧ w.cell? ⟨b, off + j * 8 + 4, none⟩ = some (.int .u64 l[j].F.Next) ∧ w.cell? ⟨b, off + j * 8 + 5, none⟩ = some (.slice A4 n4 c4) ∧ w.cell? ⟨b, off + j * 8 + 6, none⟩ = some (.int .u64 l[j].Next) ∧ w.cell? ⟨b, off + j * 8 + 7, none⟩ = some (.int .u64 l[j].Tick) ∧ WalWf l[j] ∧ Sl lay_Channel w S A0 n0 c0 l[j].C ∧ Sl lay_Weight w S A1 n1 c1 l[j].W ∧ Sl lay_Invoice w S A2 n2 c2 l[j].I ∧ Sl lay_Payment w S A3 n3 c3 l[j].P ∧ Sl lay_Event w S A4 n4 c4 l[j].F.L := by
  obtain ⟨b, off, cs, hx, rfl, hb, hr, hc⟩ := h.at_ hj
  obtain ⟨A0, n0, c0, A1, n1, c1, A2, n2, c2, A3, n3, c3, A4, n4, c4, rfl, hw, s0, s1, s2, s3, s4⟩ := rep_Wallet.1 hr
  exact ⟨b, off, A0, n0, c0, A1, n1, c1, A2, n2, c2, A3, n3, c3, A4, n4, c4, hx, rfl, hb, hc 0 _ rfl, hc 1 _ rfl, hc 2 _ rfl, hc 3 _ rfl, hc 4 _ rfl, hc 5 _ rfl, hc 6 _ rfl, hc 7 _ rfl, hw, s0, s1, s2, s3, s4⟩
theorem wfs_Wallet {w : World} {S : Nat → Prop} {A : Option Addr} {n c : Nat} {l : List Wal} (h : Sl lay_Wallet w S A n c l) : ∀ x ∈ l, WalWf x := fun x hx => by
  obtain ⟨j, hj, rfl⟩ := List.getElem_of_mem hx
  have hl := h.len
  obtain ⟨b, off, -, -, -, -, -, -, -, -, -, -, -, -, -, -, -, hx1, -, -, -, -, -, -, -, -, -, -, hw, -, -, -, -, -⟩ := at_Wallet h (j := j) (by omega)
  exact hw

/-- api.Item. -/
structure Itm where
  Hash : Int
  N : Int
  deriving DecidableEq
def lay_Item : Lay Itm := ((Lay.int .u64).prod ((Lay.int .u64).prod Lay.unit)).via fun r => (r.Hash, r.N, ())
structure ItmWf (r : Itm) : Prop where
  w0 : (Lit.int .u64 r.Hash).wf = true
  w1 : (Lit.int .u64 r.N).wf = true
theorem rep_Item {w : World} {S : Nat → Prop} {r : Itm} {cs : List Value} : lay_Item.rep w S r cs ↔ cs = [.int .u64 r.Hash, .int .u64 r.N] ∧ ItmWf r := by
  constructor
  · rintro ⟨d0, e0, rfl, h0, d1, e1, rfl, h1, rfl⟩
    obtain ⟨rfl, q0⟩ := h0
    obtain ⟨rfl, q1⟩ := h1
    exact ⟨rfl, ⟨q0, q1⟩⟩
  · rintro ⟨rfl, ⟨q0, q1⟩⟩
    exact ⟨[_], [_], rfl, ⟨rfl, q0⟩, [_], [], rfl, ⟨rfl, q1⟩, rfl⟩
theorem size_Item : lay_Item.size = 2 := rfl
theorem agg_Item {w : World} {S : Nat → Prop} {r : Itm} {s : Array Value} (h : lay_Item.rep w S r s.toList) : s = #[.int .u64 r.Hash, .int .u64 r.N] ∧ ItmWf r := by
  obtain ⟨hc, hw⟩ := rep_Item.1 h
  exact ⟨Array.ext' hc, hw⟩
theorem at_Item {w : World} {S : Nat → Prop} {A : Option Addr} {n c : Nat} {l : List Itm} (h : Sl lay_Item w S A n c l) {j : Nat} (hj : j < n) :
    ∃ b off, ∃ hx : j < l.length, A = some ⟨b, off, none⟩ ∧ S b ∧ w.cell? ⟨b, off + j * 2, none⟩ = some (.int .u64 l[j].Hash) ∧ w.cell? ⟨b, off + j * 2 + 1, none⟩ = some (.int .u64 l[j].N) ∧ ItmWf l[j] := by
  obtain ⟨b, off, cs, hx, rfl, hb, hr, hc⟩ := h.at_ hj
  obtain ⟨rfl, hw⟩ := rep_Item.1 hr
  exact ⟨b, off, hx, rfl, hb, hc 0 _ rfl, hc 1 _ rfl, hw⟩
theorem wfs_Item {w : World} {S : Nat → Prop} {A : Option Addr} {n c : Nat} {l : List Itm} (h : Sl lay_Item w S A n c l) : ∀ x ∈ l, ItmWf x := fun x hx => by
  obtain ⟨j, hj, rfl⟩ := List.getElem_of_mem hx
  have hl := h.len
  obtain ⟨b, off, hx1, -, -, -, -, hw⟩ := at_Item h (j := j) (by omega)
  exact hw
theorem flat_Item (w : World) (S S' : Nat → Prop) (a : Itm) (c : List Value) (h : lay_Item.rep w S a c) : lay_Item.rep w S' a c := rep_Item.2 (rep_Item.1 h)
end Go.Proofs.Ytannjlejghmfpaa
