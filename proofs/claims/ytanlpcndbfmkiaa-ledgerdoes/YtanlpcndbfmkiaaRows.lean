/-
  No cell of these rows narrows 'for every input' (looked for: loops, veiled, ifaces, maps, wideKeys, modest, calm, conditions, laid).
  DERIVED. THE GIVEN ROWS OF THIS SEAT. 6 by the template 'for every input the law returns true; each argument reads behind the call as it read before'; 0 by the template 'total and deterministic' (their statements: YtanlpcndbfmkiaaTotals.lean).
  GIVEN WITH THE SEED: the statements are not yours to turn. If you find one false, say at which input.
  Laid BY PROGRAM, IN A SANDBOX (cutbox-rows.mjs): the forced cells as the released guide's own fill.sh prints them over the translation 4660eafa9a26b763… (all of the seat's roots in one cut). By AI agents, Wed Nov 11 2026. No macro, syntax, notation, axiom, sorry.
-/
import Derived.Test.YtanlpcndbfmkiaaChecked
import GoSem.Claim
import GoSem.ClaimJoined
import GoSem.ClaimMapViews
import Derived.JoinedTies
import Derived.KernelRfl
namespace Go.Proofs.Ytanlpcndbfmkiaa
/- THE CELL 'sum', in the pinned program and in every row, IS THE sha256 OF THE DUMP (.gsa) THAT YtanlpcndbfmkiaaProg.lean LOADS. Nothing in Lean hashes anything: it is a label: what it is worth is what the hold of that sum in a sandbox is worth. -/
noncomputable def Try.pinned : Pinned := { name := "ytanlpcndbfmkiaa", sum := "4660eafa9a26b7634bdafd2c04ac7f2ed110c439be9c4970d1ff30aa18bd8208", checked := Try.checked }
namespace Rows
def none {H : Type} : Left H := { results := [], args := [] }

/-- 'damsonlaw10.LedgerDoes': WHATEVER THE INPUT: true; the input reads as it did. -/
def ledgerDoesSpec : ChangeSpec := { name := "ledgerDoes", fn := fun _ => fun
  | [d1, d2, d3, d4, d5, d6] => { results := [.lit (.bool true)], args := [d1, d2, d3, d4, d5, d6] }
  | _ => none }
def ledgerDoesRow : OpenClaim := { program := "ytanlpcndbfmkiaa", sum := "4660eafa9a26b7634bdafd2c04ac7f2ed110c439be9c4970d1ff30aa18bd8208", func := "damson/damsonlaw10.LedgerDoes", spec := "ledgerDoes", inPlace := ["slices.overlaps[damson/api.Channel]"], unfollowed := true, recurses := true, apart := false }
def LedgerDoesSaid : Prop := ledgerDoesRow.holds Try.pinned (OpenSpec.ofChange ledgerDoesSpec)

/-- ITS FALSE NEIGHBOUR: 'it returns false'. Refute it at one input. -/
def ledgerDoesWrong : ChangeSpec := { name := "ledgerDoes", fn := fun _ => fun
  | [d1, d2, d3, d4, d5, d6] => { results := [.lit (.bool false)], args := [d1, d2, d3, d4, d5, d6] }
  | _ => none }
def LedgerDoesWrongFalsely : Prop := ledgerDoesRow.holds Try.pinned (OpenSpec.ofChange ledgerDoesWrong)

/-- 'damsonlaw10.LedgerTells': WHATEVER THE INPUT: true; the input reads as it did. -/
def ledgerTellsSpec : ChangeSpec := { name := "ledgerTells", fn := fun _ => fun
  | [d1, d2, d3, d4] => { results := [.lit (.bool true)], args := [d1, d2, d3, d4] }
  | _ => none }
def ledgerTellsRow : OpenClaim := { program := "ytanlpcndbfmkiaa", sum := "4660eafa9a26b7634bdafd2c04ac7f2ed110c439be9c4970d1ff30aa18bd8208", func := "damson/damsonlaw10.LedgerTells", spec := "ledgerTells", inPlace := ["slices.overlaps[damson/api.Channel]"], unfollowed := true, recurses := true, apart := false }
def LedgerTellsSaid : Prop := ledgerTellsRow.holds Try.pinned (OpenSpec.ofChange ledgerTellsSpec)

/-- ITS FALSE NEIGHBOUR: 'it returns false'. Refute it at one input. -/
def ledgerTellsWrong : ChangeSpec := { name := "ledgerTells", fn := fun _ => fun
  | [d1, d2, d3, d4] => { results := [.lit (.bool false)], args := [d1, d2, d3, d4] }
  | _ => none }
def LedgerTellsWrongFalsely : Prop := ledgerTellsRow.holds Try.pinned (OpenSpec.ofChange ledgerTellsWrong)

/-- 'damsonlaw10.LedgerKeeps': WHATEVER THE INPUT: true; the input reads as it did. -/
def ledgerKeepsSpec : ChangeSpec := { name := "ledgerKeeps", fn := fun _ => fun
  | [d1, d2, d3, d4, d5] => { results := [.lit (.bool true)], args := [d1, d2, d3, d4, d5] }
  | _ => none }
def ledgerKeepsRow : OpenClaim := { program := "ytanlpcndbfmkiaa", sum := "4660eafa9a26b7634bdafd2c04ac7f2ed110c439be9c4970d1ff30aa18bd8208", func := "damson/damsonlaw10.LedgerKeeps", spec := "ledgerKeeps", inPlace := ["slices.overlaps[damson/api.Channel]"], unfollowed := true, recurses := true, apart := false }
def LedgerKeepsSaid : Prop := ledgerKeepsRow.holds Try.pinned (OpenSpec.ofChange ledgerKeepsSpec)

/-- ITS FALSE NEIGHBOUR: 'it returns false'. Refute it at one input. -/
def ledgerKeepsWrong : ChangeSpec := { name := "ledgerKeeps", fn := fun _ => fun
  | [d1, d2, d3, d4, d5] => { results := [.lit (.bool false)], args := [d1, d2, d3, d4, d5] }
  | _ => none }
def LedgerKeepsWrongFalsely : Prop := ledgerKeepsRow.holds Try.pinned (OpenSpec.ofChange ledgerKeepsWrong)

/-- 'damsonlaw10.LedgerOne': WHATEVER THE INPUT: true; the input reads as it did. -/
def ledgerOneSpec : ChangeSpec := { name := "ledgerOne", fn := fun _ => fun
  | [d1, d2, d3, d4, d5] => { results := [.lit (.bool true)], args := [d1, d2, d3, d4, d5] }
  | _ => none }
def ledgerOneRow : OpenClaim := { program := "ytanlpcndbfmkiaa", sum := "4660eafa9a26b7634bdafd2c04ac7f2ed110c439be9c4970d1ff30aa18bd8208", func := "damson/damsonlaw10.LedgerOne", spec := "ledgerOne", inPlace := ["slices.overlaps[damson/api.Channel]"], unfollowed := true, recurses := true, apart := false }
def LedgerOneSaid : Prop := ledgerOneRow.holds Try.pinned (OpenSpec.ofChange ledgerOneSpec)

/-- ITS FALSE NEIGHBOUR: 'it returns false'. Refute it at one input. -/
def ledgerOneWrong : ChangeSpec := { name := "ledgerOne", fn := fun _ => fun
  | [d1, d2, d3, d4, d5] => { results := [.lit (.bool false)], args := [d1, d2, d3, d4, d5] }
  | _ => none }
def LedgerOneWrongFalsely : Prop := ledgerOneRow.holds Try.pinned (OpenSpec.ofChange ledgerOneWrong)

/-- 'damsonlaw10.LedgerOurs': WHATEVER THE INPUT: true; the input reads as it did. -/
def ledgerOursSpec : ChangeSpec := { name := "ledgerOurs", fn := fun _ => fun
  | [d1, d2, d3, d4] => { results := [.lit (.bool true)], args := [d1, d2, d3, d4] }
  | _ => none }
def ledgerOursRow : OpenClaim := { program := "ytanlpcndbfmkiaa", sum := "4660eafa9a26b7634bdafd2c04ac7f2ed110c439be9c4970d1ff30aa18bd8208", func := "damson/damsonlaw10.LedgerOurs", spec := "ledgerOurs", inPlace := ["slices.overlaps[damson/api.Channel]"], unfollowed := true, recurses := true, apart := false }
def LedgerOursSaid : Prop := ledgerOursRow.holds Try.pinned (OpenSpec.ofChange ledgerOursSpec)

/-- ITS FALSE NEIGHBOUR: 'it returns false'. Refute it at one input. -/
def ledgerOursWrong : ChangeSpec := { name := "ledgerOurs", fn := fun _ => fun
  | [d1, d2, d3, d4] => { results := [.lit (.bool false)], args := [d1, d2, d3, d4] }
  | _ => none }
def LedgerOursWrongFalsely : Prop := ledgerOursRow.holds Try.pinned (OpenSpec.ofChange ledgerOursWrong)

/-- 'damsonlaw10.LedgerOpens': WHATEVER THE INPUT: true; the input reads as it did. -/
def ledgerOpensSpec : ChangeSpec := { name := "ledgerOpens", fn := fun _ => fun
  | [d1, d2, d3] => { results := [.lit (.bool true)], args := [d1, d2, d3] }
  | _ => none }
def ledgerOpensRow : OpenClaim := { program := "ytanlpcndbfmkiaa", sum := "4660eafa9a26b7634bdafd2c04ac7f2ed110c439be9c4970d1ff30aa18bd8208", func := "damson/damsonlaw10.LedgerOpens", spec := "ledgerOpens", inPlace := ["slices.overlaps[damson/api.Channel]"], unfollowed := true, recurses := true, apart := false }
def LedgerOpensSaid : Prop := ledgerOpensRow.holds Try.pinned (OpenSpec.ofChange ledgerOpensSpec)

/-- ITS FALSE NEIGHBOUR: 'it returns false'. Refute it at one input. -/
def ledgerOpensWrong : ChangeSpec := { name := "ledgerOpens", fn := fun _ => fun
  | [d1, d2, d3] => { results := [.lit (.bool false)], args := [d1, d2, d3] }
  | _ => none }
def LedgerOpensWrongFalsely : Prop := ledgerOpensRow.holds Try.pinned (OpenSpec.ofChange ledgerOpensWrong)

/- THE SECOND FORM. 'bulk': how many values and letters a reading holds, each counted each time it is reached (what is shared counts as often as it is met; a slice's spare places count too). A statement '..UptoSaid' is the law's where the arguments, and the package variables that the reading takes, are together of bulk at most 1048576: NARROWER than '..Said'. Prove '..Said' where nothing that the law and all that it calls make is longer than what came in: it says more and counts as full. Else prove '..UptoSaid'. A law counts once. -/
mutual
def uptoBulk {H : Type} : DataW H → Nat
  | .lit (.string bytes) => bytes.length + 1
  | .lit _ => 1
  | .nil => 1
  | .ptr d => uptoBulk d + 1
  | .slice elems spare => uptoBulkAll elems + uptoBulkAll spare + 1
  | .agg parts => uptoBulkAll parts + 1
  | .iface _ d => uptoBulk d + 1
  | .map entries => uptoBulkEntries entries + 1
  | .held _ => 1
def uptoBulkAll {H : Type} : List (DataW H) → Nat
  | [] => 0
  | d :: r => uptoBulk d + uptoBulkAll r
def uptoBulkEntries {H : Type} : List (Lit × DataW H) → Nat
  | [] => 0
  | x :: r => uptoBulkEntry x + uptoBulkEntries r
def uptoBulkEntry {H : Type} : Lit × DataW H → Nat
  | (.string bytes, d) => bytes.length + uptoBulk d + 1
  | (_, d) => uptoBulk d + 1
 end
def uptoSmall : (H : Type) → List (DataW H) → Bool := fun _ ds => decide (uptoBulkAll ds ≤ 1048576)
def OpenSpec.upto (s : _root_.Go.ChangeSpec) : _root_.Go.OpenSpec := { _root_.Go.OpenSpec.ofChange s with cond := some uptoSmall }

/-- 'damsonlaw10.LedgerDoes', WHERE WHAT IT READS IS OF BULK AT MOST 1048576: true; the input reads as it did. -/
def ledgerDoesUptoRow : OpenClaim := { program := "ytanlpcndbfmkiaa", sum := "4660eafa9a26b7634bdafd2c04ac7f2ed110c439be9c4970d1ff30aa18bd8208", func := "damson/damsonlaw10.LedgerDoes", spec := "ledgerDoes", inPlace := ["slices.overlaps[damson/api.Channel]"], unfollowed := true, recurses := true, apart := false, narrowed := true }
def LedgerDoesUptoSaid : Prop := ledgerDoesUptoRow.holds Try.pinned (OpenSpec.upto ledgerDoesSpec)

/-- 'damsonlaw10.LedgerTells', WHERE WHAT IT READS IS OF BULK AT MOST 1048576: true; the input reads as it did. -/
def ledgerTellsUptoRow : OpenClaim := { program := "ytanlpcndbfmkiaa", sum := "4660eafa9a26b7634bdafd2c04ac7f2ed110c439be9c4970d1ff30aa18bd8208", func := "damson/damsonlaw10.LedgerTells", spec := "ledgerTells", inPlace := ["slices.overlaps[damson/api.Channel]"], unfollowed := true, recurses := true, apart := false, narrowed := true }
def LedgerTellsUptoSaid : Prop := ledgerTellsUptoRow.holds Try.pinned (OpenSpec.upto ledgerTellsSpec)

/-- 'damsonlaw10.LedgerKeeps', WHERE WHAT IT READS IS OF BULK AT MOST 1048576: true; the input reads as it did. -/
def ledgerKeepsUptoRow : OpenClaim := { program := "ytanlpcndbfmkiaa", sum := "4660eafa9a26b7634bdafd2c04ac7f2ed110c439be9c4970d1ff30aa18bd8208", func := "damson/damsonlaw10.LedgerKeeps", spec := "ledgerKeeps", inPlace := ["slices.overlaps[damson/api.Channel]"], unfollowed := true, recurses := true, apart := false, narrowed := true }
def LedgerKeepsUptoSaid : Prop := ledgerKeepsUptoRow.holds Try.pinned (OpenSpec.upto ledgerKeepsSpec)

/-- 'damsonlaw10.LedgerOne', WHERE WHAT IT READS IS OF BULK AT MOST 1048576: true; the input reads as it did. -/
def ledgerOneUptoRow : OpenClaim := { program := "ytanlpcndbfmkiaa", sum := "4660eafa9a26b7634bdafd2c04ac7f2ed110c439be9c4970d1ff30aa18bd8208", func := "damson/damsonlaw10.LedgerOne", spec := "ledgerOne", inPlace := ["slices.overlaps[damson/api.Channel]"], unfollowed := true, recurses := true, apart := false, narrowed := true }
def LedgerOneUptoSaid : Prop := ledgerOneUptoRow.holds Try.pinned (OpenSpec.upto ledgerOneSpec)

/-- 'damsonlaw10.LedgerOurs', WHERE WHAT IT READS IS OF BULK AT MOST 1048576: true; the input reads as it did. -/
def ledgerOursUptoRow : OpenClaim := { program := "ytanlpcndbfmkiaa", sum := "4660eafa9a26b7634bdafd2c04ac7f2ed110c439be9c4970d1ff30aa18bd8208", func := "damson/damsonlaw10.LedgerOurs", spec := "ledgerOurs", inPlace := ["slices.overlaps[damson/api.Channel]"], unfollowed := true, recurses := true, apart := false, narrowed := true }
def LedgerOursUptoSaid : Prop := ledgerOursUptoRow.holds Try.pinned (OpenSpec.upto ledgerOursSpec)

/-- 'damsonlaw10.LedgerOpens', WHERE WHAT IT READS IS OF BULK AT MOST 1048576: true; the input reads as it did. -/
def ledgerOpensUptoRow : OpenClaim := { program := "ytanlpcndbfmkiaa", sum := "4660eafa9a26b7634bdafd2c04ac7f2ed110c439be9c4970d1ff30aa18bd8208", func := "damson/damsonlaw10.LedgerOpens", spec := "ledgerOpens", inPlace := ["slices.overlaps[damson/api.Channel]"], unfollowed := true, recurses := true, apart := false, narrowed := true }
def LedgerOpensUptoSaid : Prop := ledgerOpensUptoRow.holds Try.pinned (OpenSpec.upto ledgerOpensSpec)

end Rows
end Go.Proofs.Ytanlpcndbfmkiaa
