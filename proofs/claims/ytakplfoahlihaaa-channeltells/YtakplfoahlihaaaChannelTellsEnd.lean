/-
  The walk of the law: 'channelTells_walk', on the program as it landed.
-/
import Derived.Test.YtakplfoahlihaaaChannelTellsWalk
import Derived.Test.YtakplfoahlihaaaChannel5
namespace Go.Proofs.Ytakplfoahlihaaa
open Go.RowKit Go.WalkArith

theorem channelTells_walk (s0 : Array Value) (x0 : Chn) (s1 : Array Value) (x1 : Chn) (w : World) (r0 : lay_Channel.rep w (· < w.heap.size) x0 s0.toList) (r1 : lay_Channel.rep w (· < w.heap.size) x1 s1.toList) :
    Calls Try.prog 4 #[.agg s0, .agg s1] w fun e w' => e = .returned (.bool true) ∧ Below w.heap.size w w' :=
  channelTells_walkH channel_spec s0 x0 s1 x1 w r0 r1
end Go.Proofs.Ytakplfoahlihaaa
