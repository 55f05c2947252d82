/-
  The walk of the law: 'channelApart_walk', on the program as it landed.
-/
import Derived.Test.YtakplfoahlihaaaChannelApartWalk
import Derived.Test.YtakplfoahlihaaaChannel5
namespace Go.Proofs.Ytakplfoahlihaaa
open Go.RowKit Go.WalkArith

theorem channelApart_walk (s0 : Array Value) (x0 : Chn) (a1 a2 : Int) (a3 a4 : Bool) (w : World) (r0 : lay_Channel.rep w (· < w.heap.size) x0 s0.toList) (b1 : 0 ≤ a1 ∧ a1 ≤ 18446744073709551615) (b2 : 0 ≤ a2 ∧ a2 ≤ 18446744073709551615) :
    Calls Try.prog 8 #[.agg s0, .int .u64 a1, .int .u64 a2, .bool a3, .bool a4] w fun e w' => e = .returned (.bool true) ∧ Below w.heap.size w w' :=
  channelApart_walkH channel_spec s0 x0 a1 a2 a3 a4 w r0 b1 b2
end Go.Proofs.Ytakplfoahlihaaa
