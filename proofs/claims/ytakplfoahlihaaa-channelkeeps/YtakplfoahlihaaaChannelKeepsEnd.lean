/-
  The walk of the law: 'channelKeeps_walk', on the program as it landed.
-/
import Derived.Test.YtakplfoahlihaaaChannelKeepsWalk
import Derived.Test.YtakplfoahlihaaaChannel5
namespace Go.Proofs.Ytakplfoahlihaaa
open Go.RowKit Go.WalkArith

theorem channelKeeps_walk (s0 : Array Value) (x0 : Chn) (A1 : Option Addr) (n1 c1 : Nat) (x1 : List Int) (A2 : Option Addr) (n2 c2 : Nat) (x2 : List Int) (A3 : Option Addr) (n3 c3 : Nat) (x3 : List Int) (w : World) (r0 : lay_Channel.rep w (· < w.heap.size) x0 s0.toList) (r1 : Rd w w.heap.size .u8 A1 n1 c1 x1) (r2 : Rd w w.heap.size .u64 A2 n2 c2 x2) (r3 : Rd w w.heap.size .u64 A3 n3 c3 x3) :
    Calls Try.prog 5 #[.agg s0, .slice A1 n1 c1, .slice A2 n2 c2, .slice A3 n3 c3] w fun e w' => e = .returned (.bool true) ∧ Below w.heap.size w w' :=
  channelKeeps_walkH channel_spec s0 x0 A1 n1 c1 x1 A2 n2 c2 x2 A3 n3 c3 x3 w r0 r1 r2 r3
end Go.Proofs.Ytakplfoahlihaaa
