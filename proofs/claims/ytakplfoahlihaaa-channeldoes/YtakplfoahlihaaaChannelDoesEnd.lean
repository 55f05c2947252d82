/-
  The walk of the law: 'channelDoes_walk', on the program as it landed.
-/
import Derived.Test.YtakplfoahlihaaaChannelDoesWalk
import Derived.Test.YtakplfoahlihaaaChannel5
namespace Go.Proofs.Ytakplfoahlihaaa
open Go.RowKit Go.WalkArith

theorem channelDoes_walk (s0 : Array Value) (x0 : Chn) (a1 a2 : Int) (w : World) (r0 : lay_Channel.rep w (· < w.heap.size) x0 s0.toList) (b1 : 0 ≤ a1 ∧ a1 ≤ 18446744073709551615) (b2 : 0 ≤ a2 ∧ a2 ≤ 18446744073709551615) :
    Calls Try.prog 3 #[.agg s0, .int .u64 a1, .int .u64 a2] w fun e w' => e = .returned (.bool true) ∧ Below w.heap.size w w' :=
  channelDoes_walkH channel_spec s0 x0 a1 a2 w r0 b1 b2
end Go.Proofs.Ytakplfoahlihaaa
