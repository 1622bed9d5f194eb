/-
  No cell of these rows narrows 'for every input' (looked for: loops, veiled, ifaces, maps, wideKeys, modest, calm, conditions, laid).
  DERIVED. THE GIVEN ROWS OF THIS SEAT. 5 by the template 'for every input the law returns true; each argument reads behind the call as it read before'; 0 by the template 'total and deterministic' (their statements: YtlehkllcbedkhaaTotals.lean).
  GIVEN WITH THE SEED: the statements are not yours to turn. If you find one false, say at which input.
  Laid BY PROGRAM, IN A SANDBOX (cutbox-rows.mjs): the forced cells as the released guide's own fill.sh prints them over the translation 01b870aab793942c… (all of the seat's roots in one cut). By AI agents, Wed Nov 11 2026. No macro, syntax, notation, axiom, sorry.
-/
import Derived.Test.YtlehkllcbedkhaaChecked
import GoSem.Claim
import GoSem.ClaimJoined
import GoSem.ClaimMapViews
import Derived.JoinedTies
import Derived.KernelRfl
namespace Go.Proofs.Ytlehkllcbedkhaa
/- THE CELL 'sum', in the pinned program and in every row, IS THE sha256 OF THE DUMP (.gsa) THAT YtlehkllcbedkhaaProg.lean LOADS. Nothing in Lean hashes anything: it is a label: what it is worth is what the hold of that sum in a sandbox is worth. -/
noncomputable def Try.pinned : Pinned := { name := "ytlehkllcbedkhaa", sum := "01b870aab793942c24051cb9f85dbc4a9832ced49ce2da6104f69dacb78be07f", checked := Try.checked }
namespace Rows
def none {H : Type} : Left H := { results := [], args := [] }

/-- 'exchangepointlaw40.PercentileRates': WHATEVER THE INPUT: true; the input reads as it did. -/
def percentileRatesSpec : ChangeSpec := { name := "percentileRates", fn := fun _ => fun
  | [d1, d2, d3, d4, d5, d6] => { results := [.lit (.bool true)], args := [d1, d2, d3, d4, d5, d6] }
  | _ => none }
def percentileRatesRow : OpenClaim := { program := "ytlehkllcbedkhaa", sum := "01b870aab793942c24051cb9f85dbc4a9832ced49ce2da6104f69dacb78be07f", func := "exchangepoint/exchangepointlaw40.PercentileRates", spec := "percentileRates", unfollowed := true, recurses := true, apart := false }
def PercentileRatesSaid : Prop := percentileRatesRow.holds Try.pinned (OpenSpec.ofChange percentileRatesSpec)

/-- ITS FALSE NEIGHBOUR: 'it returns false'. Refute it at one input. -/
def percentileRatesWrong : ChangeSpec := { name := "percentileRates", fn := fun _ => fun
  | [d1, d2, d3, d4, d5, d6] => { results := [.lit (.bool false)], args := [d1, d2, d3, d4, d5, d6] }
  | _ => none }
def PercentileRatesWrongFalsely : Prop := percentileRatesRow.holds Try.pinned (OpenSpec.ofChange percentileRatesWrong)

/-- 'exchangepointlaw40.PercentileMerges': WHATEVER THE INPUT: true; the input reads as it did. -/
def percentileMergesSpec : ChangeSpec := { name := "percentileMerges", fn := fun _ => fun
  | [d1, d2, d3, d4, d5, d6] => { results := [.lit (.bool true)], args := [d1, d2, d3, d4, d5, d6] }
  | _ => none }
def percentileMergesRow : OpenClaim := { program := "ytlehkllcbedkhaa", sum := "01b870aab793942c24051cb9f85dbc4a9832ced49ce2da6104f69dacb78be07f", func := "exchangepoint/exchangepointlaw40.PercentileMerges", spec := "percentileMerges", unfollowed := true, recurses := true, apart := false }
def PercentileMergesSaid : Prop := percentileMergesRow.holds Try.pinned (OpenSpec.ofChange percentileMergesSpec)

/-- ITS FALSE NEIGHBOUR: 'it returns false'. Refute it at one input. -/
def percentileMergesWrong : ChangeSpec := { name := "percentileMerges", fn := fun _ => fun
  | [d1, d2, d3, d4, d5, d6] => { results := [.lit (.bool false)], args := [d1, d2, d3, d4, d5, d6] }
  | _ => none }
def PercentileMergesWrongFalsely : Prop := percentileMergesRow.holds Try.pinned (OpenSpec.ofChange percentileMergesWrong)

/-- 'exchangepointlaw40.PercentileRank': WHATEVER THE INPUT: true; the input reads as it did. -/
def percentileRankSpec : ChangeSpec := { name := "percentileRank", fn := fun _ => fun
  | [d1, d2] => { results := [.lit (.bool true)], args := [d1, d2] }
  | _ => none }
def percentileRankRow : OpenClaim := { program := "ytlehkllcbedkhaa", sum := "01b870aab793942c24051cb9f85dbc4a9832ced49ce2da6104f69dacb78be07f", func := "exchangepoint/exchangepointlaw40.PercentileRank", spec := "percentileRank", unfollowed := true, recurses := true, apart := false }
def PercentileRankSaid : Prop := percentileRankRow.holds Try.pinned (OpenSpec.ofChange percentileRankSpec)

/-- ITS FALSE NEIGHBOUR: 'it returns false'. Refute it at one input. -/
def percentileRankWrong : ChangeSpec := { name := "percentileRank", fn := fun _ => fun
  | [d1, d2] => { results := [.lit (.bool false)], args := [d1, d2] }
  | _ => none }
def PercentileRankWrongFalsely : Prop := percentileRankRow.holds Try.pinned (OpenSpec.ofChange percentileRankWrong)

/-- 'exchangepointlaw40.PercentileOrder': WHATEVER THE INPUT: true; the input reads as it did. -/
def percentileOrderSpec : ChangeSpec := { name := "percentileOrder", fn := fun _ => fun
  | [d1, d2, d3, d4] => { results := [.lit (.bool true)], args := [d1, d2, d3, d4] }
  | _ => none }
def percentileOrderRow : OpenClaim := { program := "ytlehkllcbedkhaa", sum := "01b870aab793942c24051cb9f85dbc4a9832ced49ce2da6104f69dacb78be07f", func := "exchangepoint/exchangepointlaw40.PercentileOrder", spec := "percentileOrder", unfollowed := true, recurses := true, apart := false }
def PercentileOrderSaid : Prop := percentileOrderRow.holds Try.pinned (OpenSpec.ofChange percentileOrderSpec)

/-- ITS FALSE NEIGHBOUR: 'it returns false'. Refute it at one input. -/
def percentileOrderWrong : ChangeSpec := { name := "percentileOrder", fn := fun _ => fun
  | [d1, d2, d3, d4] => { results := [.lit (.bool false)], args := [d1, d2, d3, d4] }
  | _ => none }
def PercentileOrderWrongFalsely : Prop := percentileOrderRow.holds Try.pinned (OpenSpec.ofChange percentileOrderWrong)

/-- 'exchangepointlaw40.PercentileParts': WHATEVER THE INPUT: true; the input reads as it did. -/
def percentilePartsSpec : ChangeSpec := { name := "percentileParts", fn := fun _ => fun
  | [d1, d2] => { results := [.lit (.bool true)], args := [d1, d2] }
  | _ => none }
def percentilePartsRow : OpenClaim := { program := "ytlehkllcbedkhaa", sum := "01b870aab793942c24051cb9f85dbc4a9832ced49ce2da6104f69dacb78be07f", func := "exchangepoint/exchangepointlaw40.PercentileParts", spec := "percentileParts", unfollowed := true, recurses := true, apart := false }
def PercentilePartsSaid : Prop := percentilePartsRow.holds Try.pinned (OpenSpec.ofChange percentilePartsSpec)

/-- ITS FALSE NEIGHBOUR: 'it returns false'. Refute it at one input. -/
def percentilePartsWrong : ChangeSpec := { name := "percentileParts", fn := fun _ => fun
  | [d1, d2] => { results := [.lit (.bool false)], args := [d1, d2] }
  | _ => none }
def PercentilePartsWrongFalsely : Prop := percentilePartsRow.holds Try.pinned (OpenSpec.ofChange percentilePartsWrong)

/- THE SECOND FORM. 'bulk': how many values and letters a reading holds, each counted each time it is reached (what is shared counts as often as it is met; a slice's spare places count too). A statement '..UptoSaid' is the law's where the arguments, and the package variables that the reading takes, are together of bulk at most 1048576: NARROWER than '..Said'. Prove '..Said' where nothing that the law and all that it calls make is longer than what came in: it says more and counts as full. Else prove '..UptoSaid'. A law counts once. -/
mutual
def uptoBulk {H : Type} : DataW H → Nat
  | .lit (.string bytes) => bytes.length + 1
  | .lit _ => 1
  | .nil => 1
  | .ptr d => uptoBulk d + 1
  | .slice elems spare => uptoBulkAll elems + uptoBulkAll spare + 1
  | .agg parts => uptoBulkAll parts + 1
  | .iface _ d => uptoBulk d + 1
  | .map entries => uptoBulkEntries entries + 1
  | .held _ => 1
def uptoBulkAll {H : Type} : List (DataW H) → Nat
  | [] => 0
  | d :: r => uptoBulk d + uptoBulkAll r
def uptoBulkEntries {H : Type} : List (Lit × DataW H) → Nat
  | [] => 0
  | x :: r => uptoBulkEntry x + uptoBulkEntries r
def uptoBulkEntry {H : Type} : Lit × DataW H → Nat
  | (.string bytes, d) => bytes.length + uptoBulk d + 1
  | (_, d) => uptoBulk d + 1
 end
def uptoSmall : (H : Type) → List (DataW H) → Bool := fun _ ds => decide (uptoBulkAll ds ≤ 1048576)
def OpenSpec.upto (s : _root_.Go.ChangeSpec) : _root_.Go.OpenSpec := { _root_.Go.OpenSpec.ofChange s with cond := some uptoSmall }

/-- 'exchangepointlaw40.PercentileRates', WHERE WHAT IT READS IS OF BULK AT MOST 1048576: true; the input reads as it did. -/
def percentileRatesUptoRow : OpenClaim := { program := "ytlehkllcbedkhaa", sum := "01b870aab793942c24051cb9f85dbc4a9832ced49ce2da6104f69dacb78be07f", func := "exchangepoint/exchangepointlaw40.PercentileRates", spec := "percentileRates", unfollowed := true, recurses := true, apart := false, narrowed := true }
def PercentileRatesUptoSaid : Prop := percentileRatesUptoRow.holds Try.pinned (OpenSpec.upto percentileRatesSpec)

/-- 'exchangepointlaw40.PercentileMerges', WHERE WHAT IT READS IS OF BULK AT MOST 1048576: true; the input reads as it did. -/
def percentileMergesUptoRow : OpenClaim := { program := "ytlehkllcbedkhaa", sum := "01b870aab793942c24051cb9f85dbc4a9832ced49ce2da6104f69dacb78be07f", func := "exchangepoint/exchangepointlaw40.PercentileMerges", spec := "percentileMerges", unfollowed := true, recurses := true, apart := false, narrowed := true }
def PercentileMergesUptoSaid : Prop := percentileMergesUptoRow.holds Try.pinned (OpenSpec.upto percentileMergesSpec)

/-- 'exchangepointlaw40.PercentileRank', WHERE WHAT IT READS IS OF BULK AT MOST 1048576: true; the input reads as it did. -/
def percentileRankUptoRow : OpenClaim := { program := "ytlehkllcbedkhaa", sum := "01b870aab793942c24051cb9f85dbc4a9832ced49ce2da6104f69dacb78be07f", func := "exchangepoint/exchangepointlaw40.PercentileRank", spec := "percentileRank", unfollowed := true, recurses := true, apart := false, narrowed := true }
def PercentileRankUptoSaid : Prop := percentileRankUptoRow.holds Try.pinned (OpenSpec.upto percentileRankSpec)

/-- 'exchangepointlaw40.PercentileOrder', WHERE WHAT IT READS IS OF BULK AT MOST 1048576: true; the input reads as it did. -/
def percentileOrderUptoRow : OpenClaim := { program := "ytlehkllcbedkhaa", sum := "01b870aab793942c24051cb9f85dbc4a9832ced49ce2da6104f69dacb78be07f", func := "exchangepoint/exchangepointlaw40.PercentileOrder", spec := "percentileOrder", unfollowed := true, recurses := true, apart := false, narrowed := true }
def PercentileOrderUptoSaid : Prop := percentileOrderUptoRow.holds Try.pinned (OpenSpec.upto percentileOrderSpec)

/-- 'exchangepointlaw40.PercentileParts', WHERE WHAT IT READS IS OF BULK AT MOST 1048576: true; the input reads as it did. -/
def percentilePartsUptoRow : OpenClaim := { program := "ytlehkllcbedkhaa", sum := "01b870aab793942c24051cb9f85dbc4a9832ced49ce2da6104f69dacb78be07f", func := "exchangepoint/exchangepointlaw40.PercentileParts", spec := "percentileParts", unfollowed := true, recurses := true, apart := false, narrowed := true }
def PercentilePartsUptoSaid : Prop := percentilePartsUptoRow.holds Try.pinned (OpenSpec.upto percentilePartsSpec)

end Rows
end Go.Proofs.Ytlehkllcbedkhaa
