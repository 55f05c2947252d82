/-
  The types of api that layer 9 needs: Hold, Channel.
-/
import Derived.Test.YtannjlejghmfpaaTypes
import Derived.Test.YtannjlejghmfpaaVars
import Derived.Test.YtannjlejghmfpaaStd
import Derived.Test.YtannjlejghmfpaaOwn3
namespace Go.Proofs.Ytannjlejghmfpaa
open Go.RowKit Go.WalkArith

/-- api.Hold. -/
structure Hld where
  Id : Int
  N : Int
  deriving DecidableEq
def lay_Hold : Lay Hld := ((Lay.int .u64).prod ((Lay.int .u64).prod Lay.unit)).via fun r => (r.Id, r.N, ())
/-- Its numbers' bounds. -/
structure HldWf (c : Hld) : Prop where
  id : (Lit.int .u64 c.Id).wf = true
  num : (Lit.int .u64 c.N).wf = true
theorem rep_Hold {w : World} {S : Nat → Prop} {c : Hld} {cs : List Value} : lay_Hold.rep w S c cs ↔ cs = [.int .u64 c.Id, .int .u64 c.N] ∧ HldWf c := by
  constructor
  · rintro ⟨c1, c2, rfl, ⟨rfl, hk⟩, c3, c4, rfl, ⟨rfl, ha⟩, rfl⟩
    exact ⟨rfl, hk, ha⟩
  · rintro ⟨rfl, hk, ha⟩
    exact ⟨[_], [_], rfl, ⟨rfl, hk⟩, [_], [], rfl, ⟨rfl, ha⟩, rfl⟩
theorem size_Hold : lay_Hold.size = 2 := rfl
theorem agg_Hold {w : World} {S : Nat → Prop} {c : Hld} {s : Array Value} (h : lay_Hold.rep w S c s.toList) : s = #[.int .u64 c.Id, .int .u64 c.N] ∧ HldWf c := by
  obtain ⟨hc, hw⟩ := rep_Hold.1 h
  exact ⟨Array.ext' hc, hw⟩
/-- The j-th hold's cells. -/
theorem hld_at {w : World} {S : Nat → Prop} {A : Option Addr} {n c : Nat} {l : List Hld} (h : Sl lay_Hold w S A n c l) {j : Nat} (hj : j < n) :
    ∃ b off, ∃ hx : j < l.length, A = some ⟨b, off, none⟩ ∧ S b ∧ w.cell? ⟨b, off + j * 2, none⟩ = some (.int .u64 l[j].Id) ∧ w.cell? ⟨b, off + j * 2 + 1, none⟩ = some (.int .u64 l[j].N) ∧ HldWf l[j] := by
  obtain ⟨b, off, cs, hx, rfl, hb, hr, hc⟩ := h.at_ hj
  obtain ⟨rfl, hw⟩ := rep_Hold.1 hr
  exact ⟨b, off, hx, rfl, hb, hc 0 _ rfl, hc 1 _ rfl, hw⟩
theorem sl_hlds {w : World} {S : Nat → Prop} {A : Option Addr} {n c : Nat} {l : List Hld} (h : Sl lay_Hold w S A n c l) : ∀ x ∈ l, HldWf x := fun x hx => by
  obtain ⟨j, hj, rfl⟩ := List.getElem_of_mem hx
  have hl := h.len
  obtain ⟨b, off, hx1, -, -, -, -, hw⟩ := hld_at h (j := j) (by omega)
  exact hw
theorem repH_any {w : World} {S S' : Nat → Prop} : ∀ {xs : List Hld} {cs : List Value}, RepRow lay_Hold w S xs cs → RepRow lay_Hold w S' xs cs
  | [], _, h => h
  | _ :: _, _, ⟨c1, c2, h1, h2, h3⟩ => ⟨c1, c2, h1, rep_Hold.2 (rep_Hold.1 h2), repH_any h3⟩
theorem OwnL.hld {w : World} {base : Nat} {e : TypeId} {v : Value} {xs : List Hld} {lo : Option Nat} (h : OwnL lay_Hold w base lo e v xs) (lo' : Nat) : OwnL lay_Hold w base (some lo') e v xs := by
  obtain ⟨cs, h1, h2⟩ := h
  exact ⟨cs, h1, repH_any h2⟩

/-- api.Channel. -/
structure Chn where
  Id : Int
  Local : Int
  Remote : Int
  Reserve : Int
  Most : Int
  Holds : List Hld
  Open : Bool
  deriving DecidableEq
def lay_Channel : Lay Chn := ((Lay.int .u64).prod ((Lay.int .u64).prod ((Lay.int .u64).prod ((Lay.int .u64).prod ((Lay.int .u64).prod ((Lay.slice lay_Hold).prod (Lay.bool.prod Lay.unit))))))).via fun r => (r.Id, r.Local, r.Remote, r.Reserve, r.Most, r.Holds, r.Open, ())
structure ChnWf (c : Chn) : Prop where
  id : (Lit.int .u64 c.Id).wf = true
  loc : (Lit.int .u64 c.Local).wf = true
  rem : (Lit.int .u64 c.Remote).wf = true
  res : (Lit.int .u64 c.Reserve).wf = true
  most : (Lit.int .u64 c.Most).wf = true
theorem rep_Channel {w : World} {S : Nat → Prop} {r : Chn} {cs : List Value} : lay_Channel.rep w S r cs ↔ ∃ A n c, cs = [.int .u64 r.Id, .int .u64 r.Local, .int .u64 r.Remote, .int .u64 r.Reserve, .int .u64 r.Most, .slice A n c, .bool r.Open] ∧ ChnWf r ∧ Sl lay_Hold w S A n c r.Holds := by
  constructor
  · rintro ⟨c1, c2, rfl, ⟨rfl, h1⟩, c3, c4, rfl, ⟨rfl, h2⟩, c5, c6, rfl, ⟨rfl, h3⟩, c7, c8, rfl, ⟨rfl, h4⟩, c9, c10, rfl, ⟨rfl, h5⟩, c11, c12, rfl, ⟨A, n, c, rfl, hs⟩, c13, c14, rfl, rfl, rfl⟩
    exact ⟨A, n, c, rfl, ⟨h1, h2, h3, h4, h5⟩, hs⟩
  · rintro ⟨A, n, c, rfl, ⟨h1, h2, h3, h4, h5⟩, hs⟩
    exact ⟨[_], [_, _, _, _, _, _], rfl, ⟨rfl, h1⟩, [_], [_, _, _, _, _], rfl, ⟨rfl, h2⟩, [_], [_, _, _, _], rfl, ⟨rfl, h3⟩, [_], [_, _, _], rfl, ⟨rfl, h4⟩, [_], [_, _], rfl, ⟨rfl, h5⟩, [_], [_], rfl, ⟨A, n, c, rfl, hs⟩, [_], [], rfl, rfl, rfl⟩
theorem size_Channel : lay_Channel.size = 7 := rfl
/-- A channel's cells. -/
abbrev chnA (r : Chn) (v : Value) : Array Value := #[.int .u64 r.Id, .int .u64 r.Local, .int .u64 r.Remote, .int .u64 r.Reserve, .int .u64 r.Most, v, .bool r.Open]
theorem agg_Channel {w : World} {S : Nat → Prop} {x : Chn} {s : Array Value} (h : lay_Channel.rep w S x s.toList) : ∃ A n c, s = #[.int .u64 x.Id, .int .u64 x.Local, .int .u64 x.Remote, .int .u64 x.Reserve, .int .u64 x.Most, .slice A n c, .bool x.Open] ∧ ChnWf x ∧ Sl lay_Hold w S A n c x.Holds := by
  obtain ⟨A, n, c, hc, h1, h2⟩ := rep_Channel.1 h
  exact ⟨A, n, c, Array.ext' hc, h1, h2⟩
theorem chan_in {w W : World} {t : Chn} {A : Option Addr} {n c : Nat} (h1 : ChnWf t) (hL : Sl lay_Hold w (· < w.heap.size) A n c t.Holds) (hb : Below w.heap.size w W) : lay_Channel.rep W (· < W.heap.size) t #[.int .u64 t.Id, .int .u64 t.Local, .int .u64 t.Remote, .int .u64 t.Reserve, .int .u64 t.Most, .slice A n c, .bool t.Open].toList := rep_Channel.2 ⟨_, _, _, rfl, h1, Sl.call hL hb⟩
end Go.Proofs.Ytannjlejghmfpaa
