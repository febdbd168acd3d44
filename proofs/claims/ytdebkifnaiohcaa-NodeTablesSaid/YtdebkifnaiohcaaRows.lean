/-
  No cell of these rows narrows 'for every input' (looked for: loops, veiled, ifaces, maps, wideKeys, modest, calm, conditions, laid).
  DERIVED. THE GIVEN ROWS OF THIS SEAT. 4 by the template 'for every input the law returns true; each argument reads behind the call as it read before'; 0 by the template 'total and deterministic' (their statements: YtdebkifnaiohcaaTotals.lean).
  GIVEN WITH THE SEED: the statements are not yours to turn. If you find one false, say at which input.
  Laid BY PROGRAM, IN A SANDBOX (cutbox-rows.mjs): the forced cells as the released guide's own fill.sh prints them over the translation e734fd5678cc75cd… (all of the seat's roots in one cut). By AI agents, Wed Nov 11 2026. No macro, syntax, notation, axiom, sorry.
-/
import Derived.Test.YtdebkifnaiohcaaChecked
import GoSem.Claim
import GoSem.ClaimJoined
import GoSem.ClaimMapViews
import Derived.JoinedTies
import Derived.KernelRfl
namespace Go.Proofs.Ytdebkifnaiohcaa
/- THE CELL 'sum', in the pinned program and in every row, IS THE sha256 OF THE DUMP (.gsa) THAT YtdebkifnaiohcaaProg.lean LOADS. Nothing in Lean hashes anything: it is a label: what it is worth is what the hold of that sum in a sandbox is worth. -/
noncomputable def Try.pinned : Pinned := { name := "ytdebkifnaiohcaa", sum := "e734fd5678cc75cdd726e2350980a0604a38b523c8fc2324c44c31004819772f", checked := Try.checked }
namespace Rows
def none {H : Type} : Left H := { results := [], args := [] }

/-- 'garrisonlaw06.NodeBytes': WHATEVER THE INPUT: true; the input reads as it did. -/
def nodeBytesSpec : ChangeSpec := { name := "nodeBytes", fn := fun _ => fun
  | [d1, d2, d3] => { results := [.lit (.bool true)], args := [d1, d2, d3] }
  | _ => none }
def nodeBytesRow : OpenClaim := { program := "ytdebkifnaiohcaa", sum := "e734fd5678cc75cdd726e2350980a0604a38b523c8fc2324c44c31004819772f", func := "garrison/garrisonlaw06.NodeBytes", spec := "nodeBytes", plainKeys := false, apart := false }
def NodeBytesSaid : Prop := nodeBytesRow.holds Try.pinned (OpenSpec.ofChange nodeBytesSpec)

/-- ITS FALSE NEIGHBOUR: 'it returns false'. Refute it at one input. -/
def nodeBytesWrong : ChangeSpec := { name := "nodeBytes", fn := fun _ => fun
  | [d1, d2, d3] => { results := [.lit (.bool false)], args := [d1, d2, d3] }
  | _ => none }
def NodeBytesWrongFalsely : Prop := nodeBytesRow.holds Try.pinned (OpenSpec.ofChange nodeBytesWrong)

/-- 'garrisonlaw06.NodeTables': WHATEVER THE INPUT: true; the input reads as it did. -/
def nodeTablesSpec : ChangeSpec := { name := "nodeTables", fn := fun _ => fun
  | [d1, d2, d3, d4] => { results := [.lit (.bool true)], args := [d1, d2, d3, d4] }
  | _ => none }
def nodeTablesRow : OpenClaim := { program := "ytdebkifnaiohcaa", sum := "e734fd5678cc75cdd726e2350980a0604a38b523c8fc2324c44c31004819772f", func := "garrison/garrisonlaw06.NodeTables", spec := "nodeTables", plainKeys := false, apart := false }
def NodeTablesSaid : Prop := nodeTablesRow.holds Try.pinned (OpenSpec.ofChange nodeTablesSpec)

/-- ITS FALSE NEIGHBOUR: 'it returns false'. Refute it at one input. -/
def nodeTablesWrong : ChangeSpec := { name := "nodeTables", fn := fun _ => fun
  | [d1, d2, d3, d4] => { results := [.lit (.bool false)], args := [d1, d2, d3, d4] }
  | _ => none }
def NodeTablesWrongFalsely : Prop := nodeTablesRow.holds Try.pinned (OpenSpec.ofChange nodeTablesWrong)

/-- 'garrisonlaw06.NodeSpreads': WHATEVER THE INPUT: true; the input reads as it did. -/
def nodeSpreadsSpec : ChangeSpec := { name := "nodeSpreads", fn := fun _ => fun
  | [d] => { results := [.lit (.bool true)], args := [d] }
  | _ => none }
def nodeSpreadsRow : OpenClaim := { program := "ytdebkifnaiohcaa", sum := "e734fd5678cc75cdd726e2350980a0604a38b523c8fc2324c44c31004819772f", func := "garrison/garrisonlaw06.NodeSpreads", spec := "nodeSpreads", plainKeys := false, apart := false }
def NodeSpreadsSaid : Prop := nodeSpreadsRow.holds Try.pinned (OpenSpec.ofChange nodeSpreadsSpec)

/-- ITS FALSE NEIGHBOUR: 'it returns false'. Refute it at one input. -/
def nodeSpreadsWrong : ChangeSpec := { name := "nodeSpreads", fn := fun _ => fun
  | [d] => { results := [.lit (.bool false)], args := [d] }
  | _ => none }
def NodeSpreadsWrongFalsely : Prop := nodeSpreadsRow.holds Try.pinned (OpenSpec.ofChange nodeSpreadsWrong)

/-- 'garrisonlaw06.NodeAll': WHATEVER THE INPUT: true; the input reads as it did. -/
def nodeAllSpec : ChangeSpec := { name := "nodeAll", fn := fun _ => fun
  | [d] => { results := [.lit (.bool true)], args := [d] }
  | _ => none }
def nodeAllRow : OpenClaim := { program := "ytdebkifnaiohcaa", sum := "e734fd5678cc75cdd726e2350980a0604a38b523c8fc2324c44c31004819772f", func := "garrison/garrisonlaw06.NodeAll", spec := "nodeAll", plainKeys := false, apart := false }
def NodeAllSaid : Prop := nodeAllRow.holds Try.pinned (OpenSpec.ofChange nodeAllSpec)

/-- ITS FALSE NEIGHBOUR: 'it returns false'. Refute it at one input. -/
def nodeAllWrong : ChangeSpec := { name := "nodeAll", fn := fun _ => fun
  | [d] => { results := [.lit (.bool false)], args := [d] }
  | _ => none }
def NodeAllWrongFalsely : Prop := nodeAllRow.holds Try.pinned (OpenSpec.ofChange nodeAllWrong)

/- THE SECOND FORM. 'bulk': how many values and letters a reading holds, each counted each time it is reached (what is shared counts as often as it is met; a slice's spare places count too). A statement '..UptoSaid' is the law's where the arguments, and the package variables that the reading takes, are together of bulk at most 1048576: NARROWER than '..Said'. Prove '..Said' where nothing that the law and all that it calls make is longer than what came in: it says more and counts as full. Else prove '..UptoSaid'. A law counts once. -/
mutual
def uptoBulk {H : Type} : DataW H → Nat
  | .lit (.string bytes) => bytes.length + 1
  | .lit _ => 1
  | .nil => 1
  | .ptr d => uptoBulk d + 1
  | .slice elems spare => uptoBulkAll elems + uptoBulkAll spare + 1
  | .agg parts => uptoBulkAll parts + 1
  | .iface _ d => uptoBulk d + 1
  | .map entries => uptoBulkEntries entries + 1
  | .held _ => 1
def uptoBulkAll {H : Type} : List (DataW H) → Nat
  | [] => 0
  | d :: r => uptoBulk d + uptoBulkAll r
def uptoBulkEntries {H : Type} : List (Lit × DataW H) → Nat
  | [] => 0
  | x :: r => uptoBulkEntry x + uptoBulkEntries r
def uptoBulkEntry {H : Type} : Lit × DataW H → Nat
  | (.string bytes, d) => bytes.length + uptoBulk d + 1
  | (_, d) => uptoBulk d + 1
 end
def uptoSmall : (H : Type) → List (DataW H) → Bool := fun _ ds => decide (uptoBulkAll ds ≤ 1048576)
def OpenSpec.upto (s : _root_.Go.ChangeSpec) : _root_.Go.OpenSpec := { _root_.Go.OpenSpec.ofChange s with cond := some uptoSmall }

/-- 'garrisonlaw06.NodeBytes', WHERE WHAT IT READS IS OF BULK AT MOST 1048576: true; the input reads as it did. -/
def nodeBytesUptoRow : OpenClaim := { program := "ytdebkifnaiohcaa", sum := "e734fd5678cc75cdd726e2350980a0604a38b523c8fc2324c44c31004819772f", func := "garrison/garrisonlaw06.NodeBytes", spec := "nodeBytes", plainKeys := false, apart := false, narrowed := true }
def NodeBytesUptoSaid : Prop := nodeBytesUptoRow.holds Try.pinned (OpenSpec.upto nodeBytesSpec)

/-- 'garrisonlaw06.NodeTables', WHERE WHAT IT READS IS OF BULK AT MOST 1048576: true; the input reads as it did. -/
def nodeTablesUptoRow : OpenClaim := { program := "ytdebkifnaiohcaa", sum := "e734fd5678cc75cdd726e2350980a0604a38b523c8fc2324c44c31004819772f", func := "garrison/garrisonlaw06.NodeTables", spec := "nodeTables", plainKeys := false, apart := false, narrowed := true }
def NodeTablesUptoSaid : Prop := nodeTablesUptoRow.holds Try.pinned (OpenSpec.upto nodeTablesSpec)

/-- 'garrisonlaw06.NodeSpreads', WHERE WHAT IT READS IS OF BULK AT MOST 1048576: true; the input reads as it did. -/
def nodeSpreadsUptoRow : OpenClaim := { program := "ytdebkifnaiohcaa", sum := "e734fd5678cc75cdd726e2350980a0604a38b523c8fc2324c44c31004819772f", func := "garrison/garrisonlaw06.NodeSpreads", spec := "nodeSpreads", plainKeys := false, apart := false, narrowed := true }
def NodeSpreadsUptoSaid : Prop := nodeSpreadsUptoRow.holds Try.pinned (OpenSpec.upto nodeSpreadsSpec)

/-- 'garrisonlaw06.NodeAll', WHERE WHAT IT READS IS OF BULK AT MOST 1048576: true; the input reads as it did. -/
def nodeAllUptoRow : OpenClaim := { program := "ytdebkifnaiohcaa", sum := "e734fd5678cc75cdd726e2350980a0604a38b523c8fc2324c44c31004819772f", func := "garrison/garrisonlaw06.NodeAll", spec := "nodeAll", plainKeys := false, apart := false, narrowed := true }
def NodeAllUptoSaid : Prop := nodeAllUptoRow.holds Try.pinned (OpenSpec.upto nodeAllSpec)

end Rows
end Go.Proofs.Ytdebkifnaiohcaa
