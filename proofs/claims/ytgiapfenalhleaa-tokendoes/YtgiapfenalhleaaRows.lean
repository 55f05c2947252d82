/-
  No cell of these rows narrows 'for every input' (looked for: loops, veiled, ifaces, maps, wideKeys, modest, calm, conditions, laid).
  DERIVED. THE GIVEN ROWS OF THIS SEAT. 6 by the template 'for every input the law returns true; each argument reads behind the call as it read before'; 0 by the template 'total and deterministic' (their statements: YtgiapfenalhleaaTotals.lean).
  GIVEN WITH THE SEED: the statements are not yours to turn. If you find one false, say at which input.
  Laid BY PROGRAM, IN A SANDBOX (cutbox-rows.mjs): the forced cells as the released guide's own fill.sh prints them over the translation ba0609186b8ad07e… (all of the seat's roots in one cut). By AI agents, Wed Nov 11 2026. No macro, syntax, notation, axiom, sorry.
-/
import Derived.Test.YtgiapfenalhleaaChecked
import GoSem.Claim
import GoSem.ClaimJoined
import GoSem.ClaimMapViews
import Derived.JoinedTies
import Derived.KernelRfl
namespace Go.Proofs.Ytgiapfenalhleaa
/- THE CELL 'sum', in the pinned program and in every row, IS THE sha256 OF THE DUMP (.gsa) THAT YtgiapfenalhleaaProg.lean LOADS. Nothing in Lean hashes anything: it is a label: what it is worth is what the hold of that sum in a sandbox is worth. -/
noncomputable def Try.pinned : Pinned := { name := "ytgiapfenalhleaa", sum := "ba0609186b8ad07eebe3cf4d0f95a22fd249391bdd8680044455efb51c2e4f8e", checked := Try.checked }
namespace Rows
def none {H : Type} : Left H := { results := [], args := [] }

/-- 'damsonlaw07.TokenDoes': WHATEVER THE INPUT: true; the input reads as it did. -/
def tokenDoesSpec : ChangeSpec := { name := "tokenDoes", fn := fun _ => fun
  | [d1, d2, d3, d4, d5, d6] => { results := [.lit (.bool true)], args := [d1, d2, d3, d4, d5, d6] }
  | _ => none }
def tokenDoesRow : OpenClaim := { program := "ytgiapfenalhleaa", sum := "ba0609186b8ad07eebe3cf4d0f95a22fd249391bdd8680044455efb51c2e4f8e", func := "damson/damsonlaw07.TokenDoes", spec := "tokenDoes", unfollowed := true, recurses := true, plainKeys := false, apart := false }
def TokenDoesSaid : Prop := tokenDoesRow.holds Try.pinned (OpenSpec.ofChange tokenDoesSpec)

/-- ITS FALSE NEIGHBOUR: 'it returns false'. Refute it at one input. -/
def tokenDoesWrong : ChangeSpec := { name := "tokenDoes", fn := fun _ => fun
  | [d1, d2, d3, d4, d5, d6] => { results := [.lit (.bool false)], args := [d1, d2, d3, d4, d5, d6] }
  | _ => none }
def TokenDoesWrongFalsely : Prop := tokenDoesRow.holds Try.pinned (OpenSpec.ofChange tokenDoesWrong)

/-- 'damsonlaw07.TokenWrites': WHATEVER THE INPUT: true; the input reads as it did. -/
def tokenWritesSpec : ChangeSpec := { name := "tokenWrites", fn := fun _ => fun
  | [d1, d2] => { results := [.lit (.bool true)], args := [d1, d2] }
  | _ => none }
def tokenWritesRow : OpenClaim := { program := "ytgiapfenalhleaa", sum := "ba0609186b8ad07eebe3cf4d0f95a22fd249391bdd8680044455efb51c2e4f8e", func := "damson/damsonlaw07.TokenWrites", spec := "tokenWrites", unfollowed := true, recurses := true, plainKeys := false, apart := false }
def TokenWritesSaid : Prop := tokenWritesRow.holds Try.pinned (OpenSpec.ofChange tokenWritesSpec)

/-- ITS FALSE NEIGHBOUR: 'it returns false'. Refute it at one input. -/
def tokenWritesWrong : ChangeSpec := { name := "tokenWrites", fn := fun _ => fun
  | [d1, d2] => { results := [.lit (.bool false)], args := [d1, d2] }
  | _ => none }
def TokenWritesWrongFalsely : Prop := tokenWritesRow.holds Try.pinned (OpenSpec.ofChange tokenWritesWrong)

/-- 'damsonlaw07.TokenBack': WHATEVER THE INPUT: true; the input reads as it did. -/
def tokenBackSpec : ChangeSpec := { name := "tokenBack", fn := fun _ => fun
  | [d1, d2] => { results := [.lit (.bool true)], args := [d1, d2] }
  | _ => none }
def tokenBackRow : OpenClaim := { program := "ytgiapfenalhleaa", sum := "ba0609186b8ad07eebe3cf4d0f95a22fd249391bdd8680044455efb51c2e4f8e", func := "damson/damsonlaw07.TokenBack", spec := "tokenBack", unfollowed := true, recurses := true, plainKeys := false, apart := false }
def TokenBackSaid : Prop := tokenBackRow.holds Try.pinned (OpenSpec.ofChange tokenBackSpec)

/-- ITS FALSE NEIGHBOUR: 'it returns false'. Refute it at one input. -/
def tokenBackWrong : ChangeSpec := { name := "tokenBack", fn := fun _ => fun
  | [d1, d2] => { results := [.lit (.bool false)], args := [d1, d2] }
  | _ => none }
def TokenBackWrongFalsely : Prop := tokenBackRow.holds Try.pinned (OpenSpec.ofChange tokenBackWrong)

/-- 'damsonlaw07.TokenRight': WHATEVER THE INPUT: true; the input reads as it did. -/
def tokenRightSpec : ChangeSpec := { name := "tokenRight", fn := fun _ => fun
  | [d1, d2, d3, d4, d5, d6] => { results := [.lit (.bool true)], args := [d1, d2, d3, d4, d5, d6] }
  | _ => none }
def tokenRightRow : OpenClaim := { program := "ytgiapfenalhleaa", sum := "ba0609186b8ad07eebe3cf4d0f95a22fd249391bdd8680044455efb51c2e4f8e", func := "damson/damsonlaw07.TokenRight", spec := "tokenRight", unfollowed := true, recurses := true, plainKeys := false, apart := false }
def TokenRightSaid : Prop := tokenRightRow.holds Try.pinned (OpenSpec.ofChange tokenRightSpec)

/-- ITS FALSE NEIGHBOUR: 'it returns false'. Refute it at one input. -/
def tokenRightWrong : ChangeSpec := { name := "tokenRight", fn := fun _ => fun
  | [d1, d2, d3, d4, d5, d6] => { results := [.lit (.bool false)], args := [d1, d2, d3, d4, d5, d6] }
  | _ => none }
def TokenRightWrongFalsely : Prop := tokenRightRow.holds Try.pinned (OpenSpec.ofChange tokenRightWrong)

/-- 'damsonlaw07.TokenFewer': WHATEVER THE INPUT: true; the input reads as it did. -/
def tokenFewerSpec : ChangeSpec := { name := "tokenFewer", fn := fun _ => fun
  | [d1, d2, d3, d4] => { results := [.lit (.bool true)], args := [d1, d2, d3, d4] }
  | _ => none }
def tokenFewerRow : OpenClaim := { program := "ytgiapfenalhleaa", sum := "ba0609186b8ad07eebe3cf4d0f95a22fd249391bdd8680044455efb51c2e4f8e", func := "damson/damsonlaw07.TokenFewer", spec := "tokenFewer", unfollowed := true, recurses := true, plainKeys := false, apart := false }
def TokenFewerSaid : Prop := tokenFewerRow.holds Try.pinned (OpenSpec.ofChange tokenFewerSpec)

/-- ITS FALSE NEIGHBOUR: 'it returns false'. Refute it at one input. -/
def tokenFewerWrong : ChangeSpec := { name := "tokenFewer", fn := fun _ => fun
  | [d1, d2, d3, d4] => { results := [.lit (.bool false)], args := [d1, d2, d3, d4] }
  | _ => none }
def TokenFewerWrongFalsely : Prop := tokenFewerRow.holds Try.pinned (OpenSpec.ofChange tokenFewerWrong)

/-- 'damsonlaw07.TokenOrder': WHATEVER THE INPUT: true; the input reads as it did. -/
def tokenOrderSpec : ChangeSpec := { name := "tokenOrder", fn := fun _ => fun
  | [d1, d2, d3, d4, d5] => { results := [.lit (.bool true)], args := [d1, d2, d3, d4, d5] }
  | _ => none }
def tokenOrderRow : OpenClaim := { program := "ytgiapfenalhleaa", sum := "ba0609186b8ad07eebe3cf4d0f95a22fd249391bdd8680044455efb51c2e4f8e", func := "damson/damsonlaw07.TokenOrder", spec := "tokenOrder", unfollowed := true, recurses := true, plainKeys := false, apart := false }
def TokenOrderSaid : Prop := tokenOrderRow.holds Try.pinned (OpenSpec.ofChange tokenOrderSpec)

/-- ITS FALSE NEIGHBOUR: 'it returns false'. Refute it at one input. -/
def tokenOrderWrong : ChangeSpec := { name := "tokenOrder", fn := fun _ => fun
  | [d1, d2, d3, d4, d5] => { results := [.lit (.bool false)], args := [d1, d2, d3, d4, d5] }
  | _ => none }
def TokenOrderWrongFalsely : Prop := tokenOrderRow.holds Try.pinned (OpenSpec.ofChange tokenOrderWrong)

/- THE SECOND FORM. 'bulk': how many values and letters a reading holds, each counted each time it is reached (what is shared counts as often as it is met; a slice's spare places count too). A statement '..UptoSaid' is the law's where the arguments, and the package variables that the reading takes, are together of bulk at most 1048576: NARROWER than '..Said'. Prove '..Said' where nothing that the law and all that it calls make is longer than what came in: it says more and counts as full. Else prove '..UptoSaid'. A law counts once. -/
mutual
def uptoBulk {H : Type} : DataW H → Nat
  | .lit (.string bytes) => bytes.length + 1
  | .lit _ => 1
  | .nil => 1
  | .ptr d => uptoBulk d + 1
  | .slice elems spare => uptoBulkAll elems + uptoBulkAll spare + 1
  | .agg parts => uptoBulkAll parts + 1
  | .iface _ d => uptoBulk d + 1
  | .map entries => uptoBulkEntries entries + 1
  | .held _ => 1
def uptoBulkAll {H : Type} : List (DataW H) → Nat
  | [] => 0
  | d :: r => uptoBulk d + uptoBulkAll r
def uptoBulkEntries {H : Type} : List (Lit × DataW H) → Nat
  | [] => 0
  | x :: r => uptoBulkEntry x + uptoBulkEntries r
def uptoBulkEntry {H : Type} : Lit × DataW H → Nat
  | (.string bytes, d) => bytes.length + uptoBulk d + 1
  | (_, d) => uptoBulk d + 1
 end
def uptoSmall : (H : Type) → List (DataW H) → Bool := fun _ ds => decide (uptoBulkAll ds ≤ 1048576)
def OpenSpec.upto (s : _root_.Go.ChangeSpec) : _root_.Go.OpenSpec := { _root_.Go.OpenSpec.ofChange s with cond := some uptoSmall }

/-- 'damsonlaw07.TokenDoes', WHERE WHAT IT READS IS OF BULK AT MOST 1048576: true; the input reads as it did. -/
def tokenDoesUptoRow : OpenClaim := { program := "ytgiapfenalhleaa", sum := "ba0609186b8ad07eebe3cf4d0f95a22fd249391bdd8680044455efb51c2e4f8e", func := "damson/damsonlaw07.TokenDoes", spec := "tokenDoes", unfollowed := true, recurses := true, plainKeys := false, apart := false, narrowed := true }
def TokenDoesUptoSaid : Prop := tokenDoesUptoRow.holds Try.pinned (OpenSpec.upto tokenDoesSpec)

/-- 'damsonlaw07.TokenWrites', WHERE WHAT IT READS IS OF BULK AT MOST 1048576: true; the input reads as it did. -/
def tokenWritesUptoRow : OpenClaim := { program := "ytgiapfenalhleaa", sum := "ba0609186b8ad07eebe3cf4d0f95a22fd249391bdd8680044455efb51c2e4f8e", func := "damson/damsonlaw07.TokenWrites", spec := "tokenWrites", unfollowed := true, recurses := true, plainKeys := false, apart := false, narrowed := true }
def TokenWritesUptoSaid : Prop := tokenWritesUptoRow.holds Try.pinned (OpenSpec.upto tokenWritesSpec)

/-- 'damsonlaw07.TokenBack', WHERE WHAT IT READS IS OF BULK AT MOST 1048576: true; the input reads as it did. -/
def tokenBackUptoRow : OpenClaim := { program := "ytgiapfenalhleaa", sum := "ba0609186b8ad07eebe3cf4d0f95a22fd249391bdd8680044455efb51c2e4f8e", func := "damson/damsonlaw07.TokenBack", spec := "tokenBack", unfollowed := true, recurses := true, plainKeys := false, apart := false, narrowed := true }
def TokenBackUptoSaid : Prop := tokenBackUptoRow.holds Try.pinned (OpenSpec.upto tokenBackSpec)

/-- 'damsonlaw07.TokenRight', WHERE WHAT IT READS IS OF BULK AT MOST 1048576: true; the input reads as it did. -/
def tokenRightUptoRow : OpenClaim := { program := "ytgiapfenalhleaa", sum := "ba0609186b8ad07eebe3cf4d0f95a22fd249391bdd8680044455efb51c2e4f8e", func := "damson/damsonlaw07.TokenRight", spec := "tokenRight", unfollowed := true, recurses := true, plainKeys := false, apart := false, narrowed := true }
def TokenRightUptoSaid : Prop := tokenRightUptoRow.holds Try.pinned (OpenSpec.upto tokenRightSpec)

/-- 'damsonlaw07.TokenFewer', WHERE WHAT IT READS IS OF BULK AT MOST 1048576: true; the input reads as it did. -/
def tokenFewerUptoRow : OpenClaim := { program := "ytgiapfenalhleaa", sum := "ba0609186b8ad07eebe3cf4d0f95a22fd249391bdd8680044455efb51c2e4f8e", func := "damson/damsonlaw07.TokenFewer", spec := "tokenFewer", unfollowed := true, recurses := true, plainKeys := false, apart := false, narrowed := true }
def TokenFewerUptoSaid : Prop := tokenFewerUptoRow.holds Try.pinned (OpenSpec.upto tokenFewerSpec)

/-- 'damsonlaw07.TokenOrder', WHERE WHAT IT READS IS OF BULK AT MOST 1048576: true; the input reads as it did. -/
def tokenOrderUptoRow : OpenClaim := { program := "ytgiapfenalhleaa", sum := "ba0609186b8ad07eebe3cf4d0f95a22fd249391bdd8680044455efb51c2e4f8e", func := "damson/damsonlaw07.TokenOrder", spec := "tokenOrder", unfollowed := true, recurses := true, plainKeys := false, apart := false, narrowed := true }
def TokenOrderUptoSaid : Prop := tokenOrderUptoRow.holds Try.pinned (OpenSpec.upto tokenOrderSpec)

end Rows
end Go.Proofs.Ytgiapfenalhleaa
