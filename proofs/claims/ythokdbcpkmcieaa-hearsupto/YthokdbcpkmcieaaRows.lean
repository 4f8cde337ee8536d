/-
  No cell of these rows narrows 'for every input' (looked for: loops, veiled, ifaces, maps, wideKeys, modest, calm, conditions, laid).
  DERIVED. THE GIVEN ROWS OF THIS SEAT. 4 by the template 'for every input the law returns true; each argument reads behind the call as it read before'; 0 by the template 'total and deterministic' (their statements: YthokdbcpkmcieaaTotals.lean).
  GIVEN WITH THE SEED: the statements are not yours to turn. If you find one false, say at which input.
  Laid BY PROGRAM, IN A SANDBOX (cutbox-rows.mjs): the forced cells as the released guide's own fill.sh prints them over the translation 297c486b70fd1ebb… (all of the seat's roots in one cut). By AI agents, Wed Nov 11 2026. No macro, syntax, notation, axiom, sorry.
-/
import Derived.Test.YthokdbcpkmcieaaChecked
import GoSem.Claim
import GoSem.ClaimJoined
import GoSem.ClaimMapViews
import Derived.JoinedTies
import Derived.KernelRfl
namespace Go.Proofs.Ythokdbcpkmcieaa
/- THE CELL 'sum', in the pinned program and in every row, IS THE sha256 OF THE DUMP (.gsa) THAT YthokdbcpkmcieaaProg.lean LOADS. Nothing in Lean hashes anything: it is a label: what it is worth is what the hold of that sum in a sandbox is worth. -/
noncomputable def Try.pinned : Pinned := { name := "ythokdbcpkmcieaa", sum := "297c486b70fd1ebbc927ac07ad8240355026a0cc08d900877161cb61483c5a05", checked := Try.checked }
namespace Rows
def none {H : Type} : Left H := { results := [], args := [] }

/-- 'burnishlaw.Hears': WHATEVER THE INPUT: true; the input reads as it did. -/
def hearsSpec : ChangeSpec := { name := "hears", fn := fun _ => fun
  | [d1, d2] => { results := [.lit (.bool true)], args := [d1, d2] }
  | _ => none }
def hearsRow : OpenClaim := { program := "ythokdbcpkmcieaa", sum := "297c486b70fd1ebbc927ac07ad8240355026a0cc08d900877161cb61483c5a05", func := "burnish/burnishlaw.Hears", spec := "hears", apart := false }
def HearsSaid : Prop := hearsRow.holds Try.pinned (OpenSpec.ofChange hearsSpec)

/-- ITS FALSE NEIGHBOUR: 'it returns false'. Refute it at one input. -/
def hearsWrong : ChangeSpec := { name := "hears", fn := fun _ => fun
  | [d1, d2] => { results := [.lit (.bool false)], args := [d1, d2] }
  | _ => none }
def HearsWrongFalsely : Prop := hearsRow.holds Try.pinned (OpenSpec.ofChange hearsWrong)

/-- 'burnishkeep.Framed': WHATEVER THE INPUT: true; the input reads as it did. -/
def framedSpec : ChangeSpec := { name := "framed", fn := fun _ => fun
  | [d1, d2, d3] => { results := [.lit (.bool true)], args := [d1, d2, d3] }
  | _ => none }
def framedRow : OpenClaim := { program := "ythokdbcpkmcieaa", sum := "297c486b70fd1ebbc927ac07ad8240355026a0cc08d900877161cb61483c5a05", func := "burnish/burnishkeep.Framed", spec := "framed", apart := false }
def FramedSaid : Prop := framedRow.holds Try.pinned (OpenSpec.ofChange framedSpec)

/-- ITS FALSE NEIGHBOUR: 'it returns false'. Refute it at one input. -/
def framedWrong : ChangeSpec := { name := "framed", fn := fun _ => fun
  | [d1, d2, d3] => { results := [.lit (.bool false)], args := [d1, d2, d3] }
  | _ => none }
def FramedWrongFalsely : Prop := framedRow.holds Try.pinned (OpenSpec.ofChange framedWrong)

/-- 'burnishkeep.Torn': WHATEVER THE INPUT: true; the input reads as it did. -/
def tornSpec : ChangeSpec := { name := "torn", fn := fun _ => fun
  | [d1, d2, d3, d4] => { results := [.lit (.bool true)], args := [d1, d2, d3, d4] }
  | _ => none }
def tornRow : OpenClaim := { program := "ythokdbcpkmcieaa", sum := "297c486b70fd1ebbc927ac07ad8240355026a0cc08d900877161cb61483c5a05", func := "burnish/burnishkeep.Torn", spec := "torn", inPlace := ["internal/abi.NoEscape"], unfollowed := true, recurses := true, apart := false }
def TornSaid : Prop := tornRow.holds Try.pinned (OpenSpec.ofChange tornSpec)

/-- ITS FALSE NEIGHBOUR: 'it returns false'. Refute it at one input. -/
def tornWrong : ChangeSpec := { name := "torn", fn := fun _ => fun
  | [d1, d2, d3, d4] => { results := [.lit (.bool false)], args := [d1, d2, d3, d4] }
  | _ => none }
def TornWrongFalsely : Prop := tornRow.holds Try.pinned (OpenSpec.ofChange tornWrong)

/-- 'burnishkeep.Once': WHATEVER THE INPUT: true; the input reads as it did. -/
def onceSpec : ChangeSpec := { name := "once", fn := fun _ => fun
  | [d1, d2, d3] => { results := [.lit (.bool true)], args := [d1, d2, d3] }
  | _ => none }
def onceRow : OpenClaim := { program := "ythokdbcpkmcieaa", sum := "297c486b70fd1ebbc927ac07ad8240355026a0cc08d900877161cb61483c5a05", func := "burnish/burnishkeep.Once", spec := "once", inPlace := ["internal/abi.NoEscape"], unfollowed := true, recurses := true, apart := false }
def OnceSaid : Prop := onceRow.holds Try.pinned (OpenSpec.ofChange onceSpec)

/-- ITS FALSE NEIGHBOUR: 'it returns false'. Refute it at one input. -/
def onceWrong : ChangeSpec := { name := "once", fn := fun _ => fun
  | [d1, d2, d3] => { results := [.lit (.bool false)], args := [d1, d2, d3] }
  | _ => none }
def OnceWrongFalsely : Prop := onceRow.holds Try.pinned (OpenSpec.ofChange onceWrong)

/- THE SECOND FORM. 'bulk': how many values and letters a reading holds, each counted each time it is reached (what is shared counts as often as it is met; a slice's spare places count too). A statement '..UptoSaid' is the law's where the arguments, and the package variables that the reading takes, are together of bulk at most 1048576: NARROWER than '..Said'. Prove '..Said' where nothing that the law and all that it calls make is longer than what came in: it says more and counts as full. Else prove '..UptoSaid'. A law counts once. -/
mutual
def uptoBulk {H : Type} : DataW H → Nat
  | .lit (.string bytes) => bytes.length + 1
  | .lit _ => 1
  | .nil => 1
  | .ptr d => uptoBulk d + 1
  | .slice elems spare => uptoBulkAll elems + uptoBulkAll spare + 1
  | .agg parts => uptoBulkAll parts + 1
  | .iface _ d => uptoBulk d + 1
  | .map entries => uptoBulkEntries entries + 1
  | .held _ => 1
def uptoBulkAll {H : Type} : List (DataW H) → Nat
  | [] => 0
  | d :: r => uptoBulk d + uptoBulkAll r
def uptoBulkEntries {H : Type} : List (Lit × DataW H) → Nat
  | [] => 0
  | x :: r => uptoBulkEntry x + uptoBulkEntries r
def uptoBulkEntry {H : Type} : Lit × DataW H → Nat
  | (.string bytes, d) => bytes.length + uptoBulk d + 1
  | (_, d) => uptoBulk d + 1
 end
def uptoSmall : (H : Type) → List (DataW H) → Bool := fun _ ds => decide (uptoBulkAll ds ≤ 1048576)
def OpenSpec.upto (s : _root_.Go.ChangeSpec) : _root_.Go.OpenSpec := { _root_.Go.OpenSpec.ofChange s with cond := some uptoSmall }

/-- 'burnishlaw.Hears', WHERE WHAT IT READS IS OF BULK AT MOST 1048576: true; the input reads as it did. -/
def hearsUptoRow : OpenClaim := { program := "ythokdbcpkmcieaa", sum := "297c486b70fd1ebbc927ac07ad8240355026a0cc08d900877161cb61483c5a05", func := "burnish/burnishlaw.Hears", spec := "hears", apart := false, narrowed := true }
def HearsUptoSaid : Prop := hearsUptoRow.holds Try.pinned (OpenSpec.upto hearsSpec)

/-- 'burnishkeep.Framed', WHERE WHAT IT READS IS OF BULK AT MOST 1048576: true; the input reads as it did. -/
def framedUptoRow : OpenClaim := { program := "ythokdbcpkmcieaa", sum := "297c486b70fd1ebbc927ac07ad8240355026a0cc08d900877161cb61483c5a05", func := "burnish/burnishkeep.Framed", spec := "framed", apart := false, narrowed := true }
def FramedUptoSaid : Prop := framedUptoRow.holds Try.pinned (OpenSpec.upto framedSpec)

/-- 'burnishkeep.Torn', WHERE WHAT IT READS IS OF BULK AT MOST 1048576: true; the input reads as it did. -/
def tornUptoRow : OpenClaim := { program := "ythokdbcpkmcieaa", sum := "297c486b70fd1ebbc927ac07ad8240355026a0cc08d900877161cb61483c5a05", func := "burnish/burnishkeep.Torn", spec := "torn", inPlace := ["internal/abi.NoEscape"], unfollowed := true, recurses := true, apart := false, narrowed := true }
def TornUptoSaid : Prop := tornUptoRow.holds Try.pinned (OpenSpec.upto tornSpec)

/-- 'burnishkeep.Once', WHERE WHAT IT READS IS OF BULK AT MOST 1048576: true; the input reads as it did. -/
def onceUptoRow : OpenClaim := { program := "ythokdbcpkmcieaa", sum := "297c486b70fd1ebbc927ac07ad8240355026a0cc08d900877161cb61483c5a05", func := "burnish/burnishkeep.Once", spec := "once", inPlace := ["internal/abi.NoEscape"], unfollowed := true, recurses := true, apart := false, narrowed := true }
def OnceUptoSaid : Prop := onceUptoRow.holds Try.pinned (OpenSpec.upto onceSpec)

end Rows
end Go.Proofs.Ythokdbcpkmcieaa
