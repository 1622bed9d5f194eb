/-
  No cell of these rows narrows 'for every input' (looked for: loops, veiled, ifaces, maps, wideKeys, modest, calm, conditions, laid).
  DERIVED. THE GIVEN ROWS OF THIS SEAT. 4 by the template 'for every input the law returns true; each argument reads behind the call as it read before'; 0 by the template 'total and deterministic' (their statements: YtpdiainbcekpiaaTotals.lean).
  GIVEN WITH THE SEED: the statements are not yours to turn. If you find one false, say at which input.
  Laid BY PROGRAM, IN A SANDBOX (cutbox-rows.mjs): the forced cells as the released guide's own fill.sh prints them over the translation 0732ab5756dfc580… (all of the seat's roots in one cut). By AI agents, Wed Nov 11 2026. No macro, syntax, notation, axiom, sorry.
-/
import Derived.Test.YtpdiainbcekpiaaChecked
import GoSem.Claim
import GoSem.ClaimJoined
import GoSem.ClaimMapViews
import Derived.JoinedTies
import Derived.KernelRfl
namespace Go.Proofs.Ytpdiainbcekpiaa
/- THE CELL 'sum', in the pinned program and in every row, IS THE sha256 OF THE DUMP (.gsa) THAT YtpdiainbcekpiaaProg.lean LOADS. Nothing in Lean hashes anything: it is a label: what it is worth is what the hold of that sum in a sandbox is worth. -/
noncomputable def Try.pinned : Pinned := { name := "ytpdiainbcekpiaa", sum := "0732ab5756dfc580455eee8400427ca7583cbce040cf593fb8c0da3e64bc119f", checked := Try.checked }
namespace Rows
def none {H : Type} : Left H := { results := [], args := [] }

/-- 'exchangepointlaw14.ForwardWays': WHATEVER THE INPUT: true; the input reads as it did. -/
def forwardWaysSpec : ChangeSpec := { name := "forwardWays", fn := fun _ => fun
  | [d1, d2, d3, d4, d5, d6] => { results := [.lit (.bool true)], args := [d1, d2, d3, d4, d5, d6] }
  | _ => none }
def forwardWaysRow : OpenClaim := { program := "ytpdiainbcekpiaa", sum := "0732ab5756dfc580455eee8400427ca7583cbce040cf593fb8c0da3e64bc119f", func := "exchangepoint/exchangepointlaw14.ForwardWays", spec := "forwardWays", apart := false }
def ForwardWaysSaid : Prop := forwardWaysRow.holds Try.pinned (OpenSpec.ofChange forwardWaysSpec)

/-- ITS FALSE NEIGHBOUR: 'it returns false'. Refute it at one input. -/
def forwardWaysWrong : ChangeSpec := { name := "forwardWays", fn := fun _ => fun
  | [d1, d2, d3, d4, d5, d6] => { results := [.lit (.bool false)], args := [d1, d2, d3, d4, d5, d6] }
  | _ => none }
def ForwardWaysWrongFalsely : Prop := forwardWaysRow.holds Try.pinned (OpenSpec.ofChange forwardWaysWrong)

/-- 'exchangepointlaw14.ForwardLoads': WHATEVER THE INPUT: true; the input reads as it did. -/
def forwardLoadsSpec : ChangeSpec := { name := "forwardLoads", fn := fun _ => fun
  | [d1, d2, d3] => { results := [.lit (.bool true)], args := [d1, d2, d3] }
  | _ => none }
def forwardLoadsRow : OpenClaim := { program := "ytpdiainbcekpiaa", sum := "0732ab5756dfc580455eee8400427ca7583cbce040cf593fb8c0da3e64bc119f", func := "exchangepoint/exchangepointlaw14.ForwardLoads", spec := "forwardLoads", apart := false }
def ForwardLoadsSaid : Prop := forwardLoadsRow.holds Try.pinned (OpenSpec.ofChange forwardLoadsSpec)

/-- ITS FALSE NEIGHBOUR: 'it returns false'. Refute it at one input. -/
def forwardLoadsWrong : ChangeSpec := { name := "forwardLoads", fn := fun _ => fun
  | [d1, d2, d3] => { results := [.lit (.bool false)], args := [d1, d2, d3] }
  | _ => none }
def ForwardLoadsWrongFalsely : Prop := forwardLoadsRow.holds Try.pinned (OpenSpec.ofChange forwardLoadsWrong)

/-- 'exchangepointlaw14.ForwardShortest': WHATEVER THE INPUT: true; the input reads as it did. -/
def forwardShortestSpec : ChangeSpec := { name := "forwardShortest", fn := fun _ => fun
  | [d1, d2, d3, d4] => { results := [.lit (.bool true)], args := [d1, d2, d3, d4] }
  | _ => none }
def forwardShortestRow : OpenClaim := { program := "ytpdiainbcekpiaa", sum := "0732ab5756dfc580455eee8400427ca7583cbce040cf593fb8c0da3e64bc119f", func := "exchangepoint/exchangepointlaw14.ForwardShortest", spec := "forwardShortest", apart := false }
def ForwardShortestSaid : Prop := forwardShortestRow.holds Try.pinned (OpenSpec.ofChange forwardShortestSpec)

/-- ITS FALSE NEIGHBOUR: 'it returns false'. Refute it at one input. -/
def forwardShortestWrong : ChangeSpec := { name := "forwardShortest", fn := fun _ => fun
  | [d1, d2, d3, d4] => { results := [.lit (.bool false)], args := [d1, d2, d3, d4] }
  | _ => none }
def ForwardShortestWrongFalsely : Prop := forwardShortestRow.holds Try.pinned (OpenSpec.ofChange forwardShortestWrong)

/-- 'exchangepointlaw14.ForwardBack': WHATEVER THE INPUT: true; the input reads as it did. -/
def forwardBackSpec : ChangeSpec := { name := "forwardBack", fn := fun _ => fun
  | [d1, d2, d3, d4] => { results := [.lit (.bool true)], args := [d1, d2, d3, d4] }
  | _ => none }
def forwardBackRow : OpenClaim := { program := "ytpdiainbcekpiaa", sum := "0732ab5756dfc580455eee8400427ca7583cbce040cf593fb8c0da3e64bc119f", func := "exchangepoint/exchangepointlaw14.ForwardBack", spec := "forwardBack", apart := false }
def ForwardBackSaid : Prop := forwardBackRow.holds Try.pinned (OpenSpec.ofChange forwardBackSpec)

/-- ITS FALSE NEIGHBOUR: 'it returns false'. Refute it at one input. -/
def forwardBackWrong : ChangeSpec := { name := "forwardBack", fn := fun _ => fun
  | [d1, d2, d3, d4] => { results := [.lit (.bool false)], args := [d1, d2, d3, d4] }
  | _ => none }
def ForwardBackWrongFalsely : Prop := forwardBackRow.holds Try.pinned (OpenSpec.ofChange forwardBackWrong)

/- THE SECOND FORM. 'bulk': how many values and letters a reading holds, each counted each time it is reached (what is shared counts as often as it is met; a slice's spare places count too). A statement '..UptoSaid' is the law's where the arguments, and the package variables that the reading takes, are together of bulk at most 1048576: NARROWER than '..Said'. Prove '..Said' where nothing that the law and all that it calls make is longer than what came in: it says more and counts as full. Else prove '..UptoSaid'. A law counts once. -/
mutual
def uptoBulk {H : Type} : DataW H → Nat
  | .lit (.string bytes) => bytes.length + 1
  | .lit _ => 1
  | .nil => 1
  | .ptr d => uptoBulk d + 1
  | .slice elems spare => uptoBulkAll elems + uptoBulkAll spare + 1
  | .agg parts => uptoBulkAll parts + 1
  | .iface _ d => uptoBulk d + 1
  | .map entries => uptoBulkEntries entries + 1
  | .held _ => 1
def uptoBulkAll {H : Type} : List (DataW H) → Nat
  | [] => 0
  | d :: r => uptoBulk d + uptoBulkAll r
def uptoBulkEntries {H : Type} : List (Lit × DataW H) → Nat
  | [] => 0
  | x :: r => uptoBulkEntry x + uptoBulkEntries r
def uptoBulkEntry {H : Type} : Lit × DataW H → Nat
  | (.string bytes, d) => bytes.length + uptoBulk d + 1
  | (_, d) => uptoBulk d + 1
 end
def uptoSmall : (H : Type) → List (DataW H) → Bool := fun _ ds => decide (uptoBulkAll ds ≤ 1048576)
def OpenSpec.upto (s : _root_.Go.ChangeSpec) : _root_.Go.OpenSpec := { _root_.Go.OpenSpec.ofChange s with cond := some uptoSmall }

/-- 'exchangepointlaw14.ForwardWays', WHERE WHAT IT READS IS OF BULK AT MOST 1048576: true; the input reads as it did. -/
def forwardWaysUptoRow : OpenClaim := { program := "ytpdiainbcekpiaa", sum := "0732ab5756dfc580455eee8400427ca7583cbce040cf593fb8c0da3e64bc119f", func := "exchangepoint/exchangepointlaw14.ForwardWays", spec := "forwardWays", apart := false, narrowed := true }
def ForwardWaysUptoSaid : Prop := forwardWaysUptoRow.holds Try.pinned (OpenSpec.upto forwardWaysSpec)

/-- 'exchangepointlaw14.ForwardLoads', WHERE WHAT IT READS IS OF BULK AT MOST 1048576: true; the input reads as it did. -/
def forwardLoadsUptoRow : OpenClaim := { program := "ytpdiainbcekpiaa", sum := "0732ab5756dfc580455eee8400427ca7583cbce040cf593fb8c0da3e64bc119f", func := "exchangepoint/exchangepointlaw14.ForwardLoads", spec := "forwardLoads", apart := false, narrowed := true }
def ForwardLoadsUptoSaid : Prop := forwardLoadsUptoRow.holds Try.pinned (OpenSpec.upto forwardLoadsSpec)

/-- 'exchangepointlaw14.ForwardShortest', WHERE WHAT IT READS IS OF BULK AT MOST 1048576: true; the input reads as it did. -/
def forwardShortestUptoRow : OpenClaim := { program := "ytpdiainbcekpiaa", sum := "0732ab5756dfc580455eee8400427ca7583cbce040cf593fb8c0da3e64bc119f", func := "exchangepoint/exchangepointlaw14.ForwardShortest", spec := "forwardShortest", apart := false, narrowed := true }
def ForwardShortestUptoSaid : Prop := forwardShortestUptoRow.holds Try.pinned (OpenSpec.upto forwardShortestSpec)

/-- 'exchangepointlaw14.ForwardBack', WHERE WHAT IT READS IS OF BULK AT MOST 1048576: true; the input reads as it did. -/
def forwardBackUptoRow : OpenClaim := { program := "ytpdiainbcekpiaa", sum := "0732ab5756dfc580455eee8400427ca7583cbce040cf593fb8c0da3e64bc119f", func := "exchangepoint/exchangepointlaw14.ForwardBack", spec := "forwardBack", apart := false, narrowed := true }
def ForwardBackUptoSaid : Prop := forwardBackUptoRow.holds Try.pinned (OpenSpec.upto forwardBackSpec)

end Rows
end Go.Proofs.Ytpdiainbcekpiaa
