/-
  No cell of these rows narrows 'for every input' (looked for: loops, veiled, ifaces, maps, wideKeys, modest, calm, conditions, laid).
  DERIVED. THE GIVEN ROWS OF THIS SEAT. 5 by the template 'for every input the law returns true; each argument reads behind the call as it read before'; 0 by the template 'total and deterministic' (their statements: YtikfdfdancgnpaaTotals.lean).
  GIVEN WITH THE SEED: the statements are not yours to turn. If you find one false, say at which input.
  Laid BY PROGRAM, IN A SANDBOX (cutbox-rows.mjs): the forced cells as the released guide's own fill.sh prints them over the translation 54708e644f21e669… (all of the seat's roots in one cut). By AI agents, Wed Nov 11 2026. No macro, syntax, notation, axiom, sorry.
-/
import Derived.Test.YtikfdfdancgnpaaChecked
import GoSem.Claim
import GoSem.ClaimJoined
import GoSem.ClaimMapViews
import Derived.JoinedTies
import Derived.KernelRfl
namespace Go.Proofs.Ytikfdfdancgnpaa
/- THE CELL 'sum', in the pinned program and in every row, IS THE sha256 OF THE DUMP (.gsa) THAT YtikfdfdancgnpaaProg.lean LOADS. Nothing in Lean hashes anything: it is a label: what it is worth is what the hold of that sum in a sandbox is worth. -/
noncomputable def Try.pinned : Pinned := { name := "ytikfdfdancgnpaa", sum := "54708e644f21e66900e02d63a9549cace1ccbdfcc869b01a72d435ac2732e811", checked := Try.checked }
namespace Rows
def none {H : Type} : Left H := { results := [], args := [] }

/-- 'damsonlaw06.CaveatDoes': WHATEVER THE INPUT: true; the input reads as it did. -/
def caveatDoesSpec : ChangeSpec := { name := "caveatDoes", fn := fun _ => fun
  | [d1, d2, d3, d4] => { results := [.lit (.bool true)], args := [d1, d2, d3, d4] }
  | _ => none }
def caveatDoesRow : OpenClaim := { program := "ytikfdfdancgnpaa", sum := "54708e644f21e66900e02d63a9549cace1ccbdfcc869b01a72d435ac2732e811", func := "damson/damsonlaw06.CaveatDoes", spec := "caveatDoes", unfollowed := true, recurses := true, apart := false }
def CaveatDoesSaid : Prop := caveatDoesRow.holds Try.pinned (OpenSpec.ofChange caveatDoesSpec)

/-- ITS FALSE NEIGHBOUR: 'it returns false'. Refute it at one input. -/
def caveatDoesWrong : ChangeSpec := { name := "caveatDoes", fn := fun _ => fun
  | [d1, d2, d3, d4] => { results := [.lit (.bool false)], args := [d1, d2, d3, d4] }
  | _ => none }
def CaveatDoesWrongFalsely : Prop := caveatDoesRow.holds Try.pinned (OpenSpec.ofChange caveatDoesWrong)

/-- 'damsonlaw06.CaveatBack': WHATEVER THE INPUT: true; the input reads as it did. -/
def caveatBackSpec : ChangeSpec := { name := "caveatBack", fn := fun _ => fun
  | [d1, d2] => { results := [.lit (.bool true)], args := [d1, d2] }
  | _ => none }
def caveatBackRow : OpenClaim := { program := "ytikfdfdancgnpaa", sum := "54708e644f21e66900e02d63a9549cace1ccbdfcc869b01a72d435ac2732e811", func := "damson/damsonlaw06.CaveatBack", spec := "caveatBack", unfollowed := true, recurses := true, apart := false }
def CaveatBackSaid : Prop := caveatBackRow.holds Try.pinned (OpenSpec.ofChange caveatBackSpec)

/-- ITS FALSE NEIGHBOUR: 'it returns false'. Refute it at one input. -/
def caveatBackWrong : ChangeSpec := { name := "caveatBack", fn := fun _ => fun
  | [d1, d2] => { results := [.lit (.bool false)], args := [d1, d2] }
  | _ => none }
def CaveatBackWrongFalsely : Prop := caveatBackRow.holds Try.pinned (OpenSpec.ofChange caveatBackWrong)

/-- 'damsonlaw06.CaveatMore': WHATEVER THE INPUT: true; the input reads as it did. -/
def caveatMoreSpec : ChangeSpec := { name := "caveatMore", fn := fun _ => fun
  | [d1, d2, d3] => { results := [.lit (.bool true)], args := [d1, d2, d3] }
  | _ => none }
def caveatMoreRow : OpenClaim := { program := "ytikfdfdancgnpaa", sum := "54708e644f21e66900e02d63a9549cace1ccbdfcc869b01a72d435ac2732e811", func := "damson/damsonlaw06.CaveatMore", spec := "caveatMore", unfollowed := true, recurses := true, apart := false }
def CaveatMoreSaid : Prop := caveatMoreRow.holds Try.pinned (OpenSpec.ofChange caveatMoreSpec)

/-- ITS FALSE NEIGHBOUR: 'it returns false'. Refute it at one input. -/
def caveatMoreWrong : ChangeSpec := { name := "caveatMore", fn := fun _ => fun
  | [d1, d2, d3] => { results := [.lit (.bool false)], args := [d1, d2, d3] }
  | _ => none }
def CaveatMoreWrongFalsely : Prop := caveatMoreRow.holds Try.pinned (OpenSpec.ofChange caveatMoreWrong)

/-- 'damsonlaw06.CaveatTighter': WHATEVER THE INPUT: true; the input reads as it did. -/
def caveatTighterSpec : ChangeSpec := { name := "caveatTighter", fn := fun _ => fun
  | [d1, d2, d3] => { results := [.lit (.bool true)], args := [d1, d2, d3] }
  | _ => none }
def caveatTighterRow : OpenClaim := { program := "ytikfdfdancgnpaa", sum := "54708e644f21e66900e02d63a9549cace1ccbdfcc869b01a72d435ac2732e811", func := "damson/damsonlaw06.CaveatTighter", spec := "caveatTighter", unfollowed := true, recurses := true, apart := false }
def CaveatTighterSaid : Prop := caveatTighterRow.holds Try.pinned (OpenSpec.ofChange caveatTighterSpec)

/-- ITS FALSE NEIGHBOUR: 'it returns false'. Refute it at one input. -/
def caveatTighterWrong : ChangeSpec := { name := "caveatTighter", fn := fun _ => fun
  | [d1, d2, d3] => { results := [.lit (.bool false)], args := [d1, d2, d3] }
  | _ => none }
def CaveatTighterWrongFalsely : Prop := caveatTighterRow.holds Try.pinned (OpenSpec.ofChange caveatTighterWrong)

/-- 'damsonlaw06.CaveatCaps': WHATEVER THE INPUT: true; the input reads as it did. -/
def caveatCapsSpec : ChangeSpec := { name := "caveatCaps", fn := fun _ => fun
  | [d1, d2, d3] => { results := [.lit (.bool true)], args := [d1, d2, d3] }
  | _ => none }
def caveatCapsRow : OpenClaim := { program := "ytikfdfdancgnpaa", sum := "54708e644f21e66900e02d63a9549cace1ccbdfcc869b01a72d435ac2732e811", func := "damson/damsonlaw06.CaveatCaps", spec := "caveatCaps", unfollowed := true, recurses := true, apart := false }
def CaveatCapsSaid : Prop := caveatCapsRow.holds Try.pinned (OpenSpec.ofChange caveatCapsSpec)

/-- ITS FALSE NEIGHBOUR: 'it returns false'. Refute it at one input. -/
def caveatCapsWrong : ChangeSpec := { name := "caveatCaps", fn := fun _ => fun
  | [d1, d2, d3] => { results := [.lit (.bool false)], args := [d1, d2, d3] }
  | _ => none }
def CaveatCapsWrongFalsely : Prop := caveatCapsRow.holds Try.pinned (OpenSpec.ofChange caveatCapsWrong)

/- THE SECOND FORM. 'bulk': how many values and letters a reading holds, each counted each time it is reached (what is shared counts as often as it is met; a slice's spare places count too). A statement '..UptoSaid' is the law's where the arguments, and the package variables that the reading takes, are together of bulk at most 1048576: NARROWER than '..Said'. Prove '..Said' where nothing that the law and all that it calls make is longer than what came in: it says more and counts as full. Else prove '..UptoSaid'. A law counts once. -/
mutual
def uptoBulk {H : Type} : DataW H → Nat
  | .lit (.string bytes) => bytes.length + 1
  | .lit _ => 1
  | .nil => 1
  | .ptr d => uptoBulk d + 1
  | .slice elems spare => uptoBulkAll elems + uptoBulkAll spare + 1
  | .agg parts => uptoBulkAll parts + 1
  | .iface _ d => uptoBulk d + 1
  | .map entries => uptoBulkEntries entries + 1
  | .held _ => 1
def uptoBulkAll {H : Type} : List (DataW H) → Nat
  | [] => 0
  | d :: r => uptoBulk d + uptoBulkAll r
def uptoBulkEntries {H : Type} : List (Lit × DataW H) → Nat
  | [] => 0
  | x :: r => uptoBulkEntry x + uptoBulkEntries r
def uptoBulkEntry {H : Type} : Lit × DataW H → Nat
  | (.string bytes, d) => bytes.length + uptoBulk d + 1
  | (_, d) => uptoBulk d + 1
 end
def uptoSmall : (H : Type) → List (DataW H) → Bool := fun _ ds => decide (uptoBulkAll ds ≤ 1048576)
def OpenSpec.upto (s : _root_.Go.ChangeSpec) : _root_.Go.OpenSpec := { _root_.Go.OpenSpec.ofChange s with cond := some uptoSmall }

/-- 'damsonlaw06.CaveatDoes', WHERE WHAT IT READS IS OF BULK AT MOST 1048576: true; the input reads as it did. -/
def caveatDoesUptoRow : OpenClaim := { program := "ytikfdfdancgnpaa", sum := "54708e644f21e66900e02d63a9549cace1ccbdfcc869b01a72d435ac2732e811", func := "damson/damsonlaw06.CaveatDoes", spec := "caveatDoes", unfollowed := true, recurses := true, apart := false, narrowed := true }
def CaveatDoesUptoSaid : Prop := caveatDoesUptoRow.holds Try.pinned (OpenSpec.upto caveatDoesSpec)

/-- 'damsonlaw06.CaveatBack', WHERE WHAT IT READS IS OF BULK AT MOST 1048576: true; the input reads as it did. -/
def caveatBackUptoRow : OpenClaim := { program := "ytikfdfdancgnpaa", sum := "54708e644f21e66900e02d63a9549cace1ccbdfcc869b01a72d435ac2732e811", func := "damson/damsonlaw06.CaveatBack", spec := "caveatBack", unfollowed := true, recurses := true, apart := false, narrowed := true }
def CaveatBackUptoSaid : Prop := caveatBackUptoRow.holds Try.pinned (OpenSpec.upto caveatBackSpec)

/-- 'damsonlaw06.CaveatMore', WHERE WHAT IT READS IS OF BULK AT MOST 1048576: true; the input reads as it did. -/
def caveatMoreUptoRow : OpenClaim := { program := "ytikfdfdancgnpaa", sum := "54708e644f21e66900e02d63a9549cace1ccbdfcc869b01a72d435ac2732e811", func := "damson/damsonlaw06.CaveatMore", spec := "caveatMore", unfollowed := true, recurses := true, apart := false, narrowed := true }
def CaveatMoreUptoSaid : Prop := caveatMoreUptoRow.holds Try.pinned (OpenSpec.upto caveatMoreSpec)

/-- 'damsonlaw06.CaveatTighter', WHERE WHAT IT READS IS OF BULK AT MOST 1048576: true; the input reads as it did. -/
def caveatTighterUptoRow : OpenClaim := { program := "ytikfdfdancgnpaa", sum := "54708e644f21e66900e02d63a9549cace1ccbdfcc869b01a72d435ac2732e811", func := "damson/damsonlaw06.CaveatTighter", spec := "caveatTighter", unfollowed := true, recurses := true, apart := false, narrowed := true }
def CaveatTighterUptoSaid : Prop := caveatTighterUptoRow.holds Try.pinned (OpenSpec.upto caveatTighterSpec)

/-- 'damsonlaw06.CaveatCaps', WHERE WHAT IT READS IS OF BULK AT MOST 1048576: true; the input reads as it did. -/
def caveatCapsUptoRow : OpenClaim := { program := "ytikfdfdancgnpaa", sum := "54708e644f21e66900e02d63a9549cace1ccbdfcc869b01a72d435ac2732e811", func := "damson/damsonlaw06.CaveatCaps", spec := "caveatCaps", unfollowed := true, recurses := true, apart := false, narrowed := true }
def CaveatCapsUptoSaid : Prop := caveatCapsUptoRow.holds Try.pinned (OpenSpec.upto caveatCapsSpec)

end Rows
end Go.Proofs.Ytikfdfdancgnpaa
