/-
  No cell of these rows narrows 'for every input' (looked for: loops, veiled, ifaces, maps, wideKeys, modest, calm, conditions, laid).
  DERIVED. THE GIVEN ROWS OF THIS SEAT. 7 by the template 'for every input the law returns true; each argument reads behind the call as it read before'; 0 by the template 'total and deterministic' (their statements: YtakplfoahlihaaaTotals.lean).
  GIVEN WITH THE SEED: the statements are not yours to turn. If you find one false, say at which input.
  Laid BY PROGRAM, IN A SANDBOX (cutbox-rows.mjs): the forced cells as the released guide's own fill.sh prints them over the translation 30075c0e004ff840… (all of the seat's roots in one cut). By AI agents, Wed Nov 11 2026. No macro, syntax, notation, axiom, sorry.
-/
import Derived.Test.YtakplfoahlihaaaChecked
import GoSem.Claim
import GoSem.ClaimJoined
import GoSem.ClaimMapViews
import Derived.JoinedTies
import Derived.KernelRfl
namespace Go.Proofs.Ytakplfoahlihaaa
/- THE CELL 'sum', in the pinned program and in every row, IS THE sha256 OF THE DUMP (.gsa) THAT YtakplfoahlihaaaProg.lean LOADS. Nothing in Lean hashes anything: it is a label: what it is worth is what the hold of that sum in a sandbox is worth. -/
noncomputable def Try.pinned : Pinned := { name := "ytakplfoahlihaaa", sum := "30075c0e004ff840c14e7ad51d1119d0524a34189522b53c45e9b75806e91498", checked := Try.checked }
namespace Rows
def none {H : Type} : Left H := { results := [], args := [] }

/-- 'damsonlaw09.ChannelDoes': WHATEVER THE INPUT: true; the input reads as it did. -/
def channelDoesSpec : ChangeSpec := { name := "channelDoes", fn := fun _ => fun
  | [d1, d2, d3] => { results := [.lit (.bool true)], args := [d1, d2, d3] }
  | _ => none }
def channelDoesRow : OpenClaim := { program := "ytakplfoahlihaaa", sum := "30075c0e004ff840c14e7ad51d1119d0524a34189522b53c45e9b75806e91498", func := "damson/damsonlaw09.ChannelDoes", spec := "channelDoes", unfollowed := true, recurses := true, apart := false }
def ChannelDoesSaid : Prop := channelDoesRow.holds Try.pinned (OpenSpec.ofChange channelDoesSpec)

/-- ITS FALSE NEIGHBOUR: 'it returns false'. Refute it at one input. -/
def channelDoesWrong : ChangeSpec := { name := "channelDoes", fn := fun _ => fun
  | [d1, d2, d3] => { results := [.lit (.bool false)], args := [d1, d2, d3] }
  | _ => none }
def ChannelDoesWrongFalsely : Prop := channelDoesRow.holds Try.pinned (OpenSpec.ofChange channelDoesWrong)

/-- 'damsonlaw09.ChannelTells': WHATEVER THE INPUT: true; the input reads as it did. -/
def channelTellsSpec : ChangeSpec := { name := "channelTells", fn := fun _ => fun
  | [d1, d2] => { results := [.lit (.bool true)], args := [d1, d2] }
  | _ => none }
def channelTellsRow : OpenClaim := { program := "ytakplfoahlihaaa", sum := "30075c0e004ff840c14e7ad51d1119d0524a34189522b53c45e9b75806e91498", func := "damson/damsonlaw09.ChannelTells", spec := "channelTells", unfollowed := true, recurses := true, apart := false }
def ChannelTellsSaid : Prop := channelTellsRow.holds Try.pinned (OpenSpec.ofChange channelTellsSpec)

/-- ITS FALSE NEIGHBOUR: 'it returns false'. Refute it at one input. -/
def channelTellsWrong : ChangeSpec := { name := "channelTells", fn := fun _ => fun
  | [d1, d2] => { results := [.lit (.bool false)], args := [d1, d2] }
  | _ => none }
def ChannelTellsWrongFalsely : Prop := channelTellsRow.holds Try.pinned (OpenSpec.ofChange channelTellsWrong)

/-- 'damsonlaw09.ChannelKeeps': WHATEVER THE INPUT: true; the input reads as it did. -/
def channelKeepsSpec : ChangeSpec := { name := "channelKeeps", fn := fun _ => fun
  | [d1, d2, d3, d4] => { results := [.lit (.bool true)], args := [d1, d2, d3, d4] }
  | _ => none }
def channelKeepsRow : OpenClaim := { program := "ytakplfoahlihaaa", sum := "30075c0e004ff840c14e7ad51d1119d0524a34189522b53c45e9b75806e91498", func := "damson/damsonlaw09.ChannelKeeps", spec := "channelKeeps", unfollowed := true, recurses := true, apart := false }
def ChannelKeepsSaid : Prop := channelKeepsRow.holds Try.pinned (OpenSpec.ofChange channelKeepsSpec)

/-- ITS FALSE NEIGHBOUR: 'it returns false'. Refute it at one input. -/
def channelKeepsWrong : ChangeSpec := { name := "channelKeeps", fn := fun _ => fun
  | [d1, d2, d3, d4] => { results := [.lit (.bool false)], args := [d1, d2, d3, d4] }
  | _ => none }
def ChannelKeepsWrongFalsely : Prop := channelKeepsRow.holds Try.pinned (OpenSpec.ofChange channelKeepsWrong)

/-- 'damsonlaw09.ChannelBack': WHATEVER THE INPUT: true; the input reads as it did. -/
def channelBackSpec : ChangeSpec := { name := "channelBack", fn := fun _ => fun
  | [d1, d2, d3] => { results := [.lit (.bool true)], args := [d1, d2, d3] }
  | _ => none }
def channelBackRow : OpenClaim := { program := "ytakplfoahlihaaa", sum := "30075c0e004ff840c14e7ad51d1119d0524a34189522b53c45e9b75806e91498", func := "damson/damsonlaw09.ChannelBack", spec := "channelBack", unfollowed := true, recurses := true, apart := false }
def ChannelBackSaid : Prop := channelBackRow.holds Try.pinned (OpenSpec.ofChange channelBackSpec)

/-- ITS FALSE NEIGHBOUR: 'it returns false'. Refute it at one input. -/
def channelBackWrong : ChangeSpec := { name := "channelBack", fn := fun _ => fun
  | [d1, d2, d3] => { results := [.lit (.bool false)], args := [d1, d2, d3] }
  | _ => none }
def ChannelBackWrongFalsely : Prop := channelBackRow.holds Try.pinned (OpenSpec.ofChange channelBackWrong)

/-- 'damsonlaw09.ChannelRoom': WHATEVER THE INPUT: true; the input reads as it did. -/
def channelRoomSpec : ChangeSpec := { name := "channelRoom", fn := fun _ => fun
  | [d1, d2, d3] => { results := [.lit (.bool true)], args := [d1, d2, d3] }
  | _ => none }
def channelRoomRow : OpenClaim := { program := "ytakplfoahlihaaa", sum := "30075c0e004ff840c14e7ad51d1119d0524a34189522b53c45e9b75806e91498", func := "damson/damsonlaw09.ChannelRoom", spec := "channelRoom", unfollowed := true, recurses := true, apart := false }
def ChannelRoomSaid : Prop := channelRoomRow.holds Try.pinned (OpenSpec.ofChange channelRoomSpec)

/-- ITS FALSE NEIGHBOUR: 'it returns false'. Refute it at one input. -/
def channelRoomWrong : ChangeSpec := { name := "channelRoom", fn := fun _ => fun
  | [d1, d2, d3] => { results := [.lit (.bool false)], args := [d1, d2, d3] }
  | _ => none }
def ChannelRoomWrongFalsely : Prop := channelRoomRow.holds Try.pinned (OpenSpec.ofChange channelRoomWrong)

/-- 'damsonlaw09.ChannelApart': WHATEVER THE INPUT: true; the input reads as it did. -/
def channelApartSpec : ChangeSpec := { name := "channelApart", fn := fun _ => fun
  | [d1, d2, d3, d4, d5] => { results := [.lit (.bool true)], args := [d1, d2, d3, d4, d5] }
  | _ => none }
def channelApartRow : OpenClaim := { program := "ytakplfoahlihaaa", sum := "30075c0e004ff840c14e7ad51d1119d0524a34189522b53c45e9b75806e91498", func := "damson/damsonlaw09.ChannelApart", spec := "channelApart", unfollowed := true, recurses := true, apart := false }
def ChannelApartSaid : Prop := channelApartRow.holds Try.pinned (OpenSpec.ofChange channelApartSpec)

/-- ITS FALSE NEIGHBOUR: 'it returns false'. Refute it at one input. -/
def channelApartWrong : ChangeSpec := { name := "channelApart", fn := fun _ => fun
  | [d1, d2, d3, d4, d5] => { results := [.lit (.bool false)], args := [d1, d2, d3, d4, d5] }
  | _ => none }
def ChannelApartWrongFalsely : Prop := channelApartRow.holds Try.pinned (OpenSpec.ofChange channelApartWrong)

/-- 'damsonlaw09.ChannelShut': WHATEVER THE INPUT: true; the input reads as it did. -/
def channelShutSpec : ChangeSpec := { name := "channelShut", fn := fun _ => fun
  | [d1, d2, d3] => { results := [.lit (.bool true)], args := [d1, d2, d3] }
  | _ => none }
def channelShutRow : OpenClaim := { program := "ytakplfoahlihaaa", sum := "30075c0e004ff840c14e7ad51d1119d0524a34189522b53c45e9b75806e91498", func := "damson/damsonlaw09.ChannelShut", spec := "channelShut", unfollowed := true, recurses := true, apart := false }
def ChannelShutSaid : Prop := channelShutRow.holds Try.pinned (OpenSpec.ofChange channelShutSpec)

/-- ITS FALSE NEIGHBOUR: 'it returns false'. Refute it at one input. -/
def channelShutWrong : ChangeSpec := { name := "channelShut", fn := fun _ => fun
  | [d1, d2, d3] => { results := [.lit (.bool false)], args := [d1, d2, d3] }
  | _ => none }
def ChannelShutWrongFalsely : Prop := channelShutRow.holds Try.pinned (OpenSpec.ofChange channelShutWrong)

/- THE SECOND FORM. 'bulk': how many values and letters a reading holds, each counted each time it is reached (what is shared counts as often as it is met; a slice's spare places count too). A statement '..UptoSaid' is the law's where the arguments, and the package variables that the reading takes, are together of bulk at most 1048576: NARROWER than '..Said'. Prove '..Said' where nothing that the law and all that it calls make is longer than what came in: it says more and counts as full. Else prove '..UptoSaid'. A law counts once. -/
mutual
def uptoBulk {H : Type} : DataW H → Nat
  | .lit (.string bytes) => bytes.length + 1
  | .lit _ => 1
  | .nil => 1
  | .ptr d => uptoBulk d + 1
  | .slice elems spare => uptoBulkAll elems + uptoBulkAll spare + 1
  | .agg parts => uptoBulkAll parts + 1
  | .iface _ d => uptoBulk d + 1
  | .map entries => uptoBulkEntries entries + 1
  | .held _ => 1
def uptoBulkAll {H : Type} : List (DataW H) → Nat
  | [] => 0
  | d :: r => uptoBulk d + uptoBulkAll r
def uptoBulkEntries {H : Type} : List (Lit × DataW H) → Nat
  | [] => 0
  | x :: r => uptoBulkEntry x + uptoBulkEntries r
def uptoBulkEntry {H : Type} : Lit × DataW H → Nat
  | (.string bytes, d) => bytes.length + uptoBulk d + 1
  | (_, d) => uptoBulk d + 1
 end
def uptoSmall : (H : Type) → List (DataW H) → Bool := fun _ ds => decide (uptoBulkAll ds ≤ 1048576)
def OpenSpec.upto (s : _root_.Go.ChangeSpec) : _root_.Go.OpenSpec := { _root_.Go.OpenSpec.ofChange s with cond := some uptoSmall }

/-- 'damsonlaw09.ChannelDoes', WHERE WHAT IT READS IS OF BULK AT MOST 1048576: true; the input reads as it did. -/
def channelDoesUptoRow : OpenClaim := { program := "ytakplfoahlihaaa", sum := "30075c0e004ff840c14e7ad51d1119d0524a34189522b53c45e9b75806e91498", func := "damson/damsonlaw09.ChannelDoes", spec := "channelDoes", unfollowed := true, recurses := true, apart := false, narrowed := true }
def ChannelDoesUptoSaid : Prop := channelDoesUptoRow.holds Try.pinned (OpenSpec.upto channelDoesSpec)

/-- 'damsonlaw09.ChannelTells', WHERE WHAT IT READS IS OF BULK AT MOST 1048576: true; the input reads as it did. -/
def channelTellsUptoRow : OpenClaim := { program := "ytakplfoahlihaaa", sum := "30075c0e004ff840c14e7ad51d1119d0524a34189522b53c45e9b75806e91498", func := "damson/damsonlaw09.ChannelTells", spec := "channelTells", unfollowed := true, recurses := true, apart := false, narrowed := true }
def ChannelTellsUptoSaid : Prop := channelTellsUptoRow.holds Try.pinned (OpenSpec.upto channelTellsSpec)

/-- 'damsonlaw09.ChannelKeeps', WHERE WHAT IT READS IS OF BULK AT MOST 1048576: true; the input reads as it did. -/
def channelKeepsUptoRow : OpenClaim := { program := "ytakplfoahlihaaa", sum := "30075c0e004ff840c14e7ad51d1119d0524a34189522b53c45e9b75806e91498", func := "damson/damsonlaw09.ChannelKeeps", spec := "channelKeeps", unfollowed := true, recurses := true, apart := false, narrowed := true }
def ChannelKeepsUptoSaid : Prop := channelKeepsUptoRow.holds Try.pinned (OpenSpec.upto channelKeepsSpec)

/-- 'damsonlaw09.ChannelBack', WHERE WHAT IT READS IS OF BULK AT MOST 1048576: true; the input reads as it did. -/
def channelBackUptoRow : OpenClaim := { program := "ytakplfoahlihaaa", sum := "30075c0e004ff840c14e7ad51d1119d0524a34189522b53c45e9b75806e91498", func := "damson/damsonlaw09.ChannelBack", spec := "channelBack", unfollowed := true, recurses := true, apart := false, narrowed := true }
def ChannelBackUptoSaid : Prop := channelBackUptoRow.holds Try.pinned (OpenSpec.upto channelBackSpec)

/-- 'damsonlaw09.ChannelRoom', WHERE WHAT IT READS IS OF BULK AT MOST 1048576: true; the input reads as it did. -/
def channelRoomUptoRow : OpenClaim := { program := "ytakplfoahlihaaa", sum := "30075c0e004ff840c14e7ad51d1119d0524a34189522b53c45e9b75806e91498", func := "damson/damsonlaw09.ChannelRoom", spec := "channelRoom", unfollowed := true, recurses := true, apart := false, narrowed := true }
def ChannelRoomUptoSaid : Prop := channelRoomUptoRow.holds Try.pinned (OpenSpec.upto channelRoomSpec)

/-- 'damsonlaw09.ChannelApart', WHERE WHAT IT READS IS OF BULK AT MOST 1048576: true; the input reads as it did. -/
def channelApartUptoRow : OpenClaim := { program := "ytakplfoahlihaaa", sum := "30075c0e004ff840c14e7ad51d1119d0524a34189522b53c45e9b75806e91498", func := "damson/damsonlaw09.ChannelApart", spec := "channelApart", unfollowed := true, recurses := true, apart := false, narrowed := true }
def ChannelApartUptoSaid : Prop := channelApartUptoRow.holds Try.pinned (OpenSpec.upto channelApartSpec)

/-- 'damsonlaw09.ChannelShut', WHERE WHAT IT READS IS OF BULK AT MOST 1048576: true; the input reads as it did. -/
def channelShutUptoRow : OpenClaim := { program := "ytakplfoahlihaaa", sum := "30075c0e004ff840c14e7ad51d1119d0524a34189522b53c45e9b75806e91498", func := "damson/damsonlaw09.ChannelShut", spec := "channelShut", unfollowed := true, recurses := true, apart := false, narrowed := true }
def ChannelShutUptoSaid : Prop := channelShutUptoRow.holds Try.pinned (OpenSpec.upto channelShutSpec)

end Rows
end Go.Proofs.Ytakplfoahlihaaa
