/-
  No cell of these rows narrows 'for every input' (looked for: loops, veiled, ifaces, maps, wideKeys, modest, calm, conditions, laid).
  DERIVED. THE GIVEN ROWS OF THIS SEAT. 5 by the template 'for every input the law returns true; each argument reads behind the call as it read before'; 0 by the template 'total and deterministic' (their statements: YtpclmngkpkinoaaTotals.lean).
  GIVEN WITH THE SEED: the statements are not yours to turn. If you find one false, say at which input.
  Laid BY PROGRAM, IN A SANDBOX (cutbox-rows.mjs): the forced cells as the released guide's own fill.sh prints them over the translation 1cf25ca785a82c0e… (all of the seat's roots in one cut). By AI agents, Wed Nov 11 2026. No macro, syntax, notation, axiom, sorry.
-/
import Derived.Test.YtpclmngkpkinoaaChecked
import GoSem.Claim
import GoSem.ClaimJoined
import GoSem.ClaimMapViews
import Derived.JoinedTies
import Derived.KernelRfl
namespace Go.Proofs.Ytpclmngkpkinoaa
/- THE CELL 'sum', in the pinned program and in every row, IS THE sha256 OF THE DUMP (.gsa) THAT YtpclmngkpkinoaaProg.lean LOADS. Nothing in Lean hashes anything: it is a label: what it is worth is what the hold of that sum in a sandbox is worth. -/
noncomputable def Try.pinned : Pinned := { name := "ytpclmngkpkinoaa", sum := "1cf25ca785a82c0eac596f5e808c505300693c9623d056a979fa40c0df6434fd", checked := Try.checked }
namespace Rows
def none {H : Type} : Left H := { results := [], args := [] }

/-- 'exchangepointlaw32.SessionReads': WHATEVER THE INPUT: true; the input reads as it did. -/
def sessionReadsSpec : ChangeSpec := { name := "sessionReads", fn := fun _ => fun
  | [d1, d2, d3, d4] => { results := [.lit (.bool true)], args := [d1, d2, d3, d4] }
  | _ => none }
def sessionReadsRow : OpenClaim := { program := "ytpclmngkpkinoaa", sum := "1cf25ca785a82c0eac596f5e808c505300693c9623d056a979fa40c0df6434fd", func := "exchangepoint/exchangepointlaw32.SessionReads", spec := "sessionReads", unfollowed := true, recurses := true, apart := false }
def SessionReadsSaid : Prop := sessionReadsRow.holds Try.pinned (OpenSpec.ofChange sessionReadsSpec)

/-- ITS FALSE NEIGHBOUR: 'it returns false'. Refute it at one input. -/
def sessionReadsWrong : ChangeSpec := { name := "sessionReads", fn := fun _ => fun
  | [d1, d2, d3, d4] => { results := [.lit (.bool false)], args := [d1, d2, d3, d4] }
  | _ => none }
def SessionReadsWrongFalsely : Prop := sessionReadsRow.holds Try.pinned (OpenSpec.ofChange sessionReadsWrong)

/-- 'exchangepointlaw32.SessionBack': WHATEVER THE INPUT: true; the input reads as it did. -/
def sessionBackSpec : ChangeSpec := { name := "sessionBack", fn := fun _ => fun
  | [d1, d2] => { results := [.lit (.bool true)], args := [d1, d2] }
  | _ => none }
def sessionBackRow : OpenClaim := { program := "ytpclmngkpkinoaa", sum := "1cf25ca785a82c0eac596f5e808c505300693c9623d056a979fa40c0df6434fd", func := "exchangepoint/exchangepointlaw32.SessionBack", spec := "sessionBack", unfollowed := true, recurses := true, apart := false }
def SessionBackSaid : Prop := sessionBackRow.holds Try.pinned (OpenSpec.ofChange sessionBackSpec)

/-- ITS FALSE NEIGHBOUR: 'it returns false'. Refute it at one input. -/
def sessionBackWrong : ChangeSpec := { name := "sessionBack", fn := fun _ => fun
  | [d1, d2] => { results := [.lit (.bool false)], args := [d1, d2] }
  | _ => none }
def SessionBackWrongFalsely : Prop := sessionBackRow.holds Try.pinned (OpenSpec.ofChange sessionBackWrong)

/-- 'exchangepointlaw32.SessionRuns': WHATEVER THE INPUT: true; the input reads as it did. -/
def sessionRunsSpec : ChangeSpec := { name := "sessionRuns", fn := fun _ => fun
  | [d1, d2, d3, d4] => { results := [.lit (.bool true)], args := [d1, d2, d3, d4] }
  | _ => none }
def sessionRunsRow : OpenClaim := { program := "ytpclmngkpkinoaa", sum := "1cf25ca785a82c0eac596f5e808c505300693c9623d056a979fa40c0df6434fd", func := "exchangepoint/exchangepointlaw32.SessionRuns", spec := "sessionRuns", unfollowed := true, recurses := true, apart := false }
def SessionRunsSaid : Prop := sessionRunsRow.holds Try.pinned (OpenSpec.ofChange sessionRunsSpec)

/-- ITS FALSE NEIGHBOUR: 'it returns false'. Refute it at one input. -/
def sessionRunsWrong : ChangeSpec := { name := "sessionRuns", fn := fun _ => fun
  | [d1, d2, d3, d4] => { results := [.lit (.bool false)], args := [d1, d2, d3, d4] }
  | _ => none }
def SessionRunsWrongFalsely : Prop := sessionRunsRow.holds Try.pinned (OpenSpec.ofChange sessionRunsWrong)

/-- 'exchangepointlaw32.SessionMeets': WHATEVER THE INPUT: true; the input reads as it did. -/
def sessionMeetsSpec : ChangeSpec := { name := "sessionMeets", fn := fun _ => fun
  | [d1, d2, d3] => { results := [.lit (.bool true)], args := [d1, d2, d3] }
  | _ => none }
def sessionMeetsRow : OpenClaim := { program := "ytpclmngkpkinoaa", sum := "1cf25ca785a82c0eac596f5e808c505300693c9623d056a979fa40c0df6434fd", func := "exchangepoint/exchangepointlaw32.SessionMeets", spec := "sessionMeets", unfollowed := true, recurses := true, apart := false }
def SessionMeetsSaid : Prop := sessionMeetsRow.holds Try.pinned (OpenSpec.ofChange sessionMeetsSpec)

/-- ITS FALSE NEIGHBOUR: 'it returns false'. Refute it at one input. -/
def sessionMeetsWrong : ChangeSpec := { name := "sessionMeets", fn := fun _ => fun
  | [d1, d2, d3] => { results := [.lit (.bool false)], args := [d1, d2, d3] }
  | _ => none }
def SessionMeetsWrongFalsely : Prop := sessionMeetsRow.holds Try.pinned (OpenSpec.ofChange sessionMeetsWrong)

/-- 'exchangepointlaw32.SessionSilent': WHATEVER THE INPUT: true; the input reads as it did. -/
def sessionSilentSpec : ChangeSpec := { name := "sessionSilent", fn := fun _ => fun
  | [d1, d2] => { results := [.lit (.bool true)], args := [d1, d2] }
  | _ => none }
def sessionSilentRow : OpenClaim := { program := "ytpclmngkpkinoaa", sum := "1cf25ca785a82c0eac596f5e808c505300693c9623d056a979fa40c0df6434fd", func := "exchangepoint/exchangepointlaw32.SessionSilent", spec := "sessionSilent", unfollowed := true, recurses := true, apart := false }
def SessionSilentSaid : Prop := sessionSilentRow.holds Try.pinned (OpenSpec.ofChange sessionSilentSpec)

/-- ITS FALSE NEIGHBOUR: 'it returns false'. Refute it at one input. -/
def sessionSilentWrong : ChangeSpec := { name := "sessionSilent", fn := fun _ => fun
  | [d1, d2] => { results := [.lit (.bool false)], args := [d1, d2] }
  | _ => none }
def SessionSilentWrongFalsely : Prop := sessionSilentRow.holds Try.pinned (OpenSpec.ofChange sessionSilentWrong)

/- THE SECOND FORM. 'bulk': how many values and letters a reading holds, each counted each time it is reached (what is shared counts as often as it is met; a slice's spare places count too). A statement '..UptoSaid' is the law's where the arguments, and the package variables that the reading takes, are together of bulk at most 1048576: NARROWER than '..Said'. Prove '..Said' where nothing that the law and all that it calls make is longer than what came in: it says more and counts as full. Else prove '..UptoSaid'. A law counts once. -/
mutual
def uptoBulk {H : Type} : DataW H → Nat
  | .lit (.string bytes) => bytes.length + 1
  | .lit _ => 1
  | .nil => 1
  | .ptr d => uptoBulk d + 1
  | .slice elems spare => uptoBulkAll elems + uptoBulkAll spare + 1
  | .agg parts => uptoBulkAll parts + 1
  | .iface _ d => uptoBulk d + 1
  | .map entries => uptoBulkEntries entries + 1
  | .held _ => 1
def uptoBulkAll {H : Type} : List (DataW H) → Nat
  | [] => 0
  | d :: r => uptoBulk d + uptoBulkAll r
def uptoBulkEntries {H : Type} : List (Lit × DataW H) → Nat
  | [] => 0
  | x :: r => uptoBulkEntry x + uptoBulkEntries r
def uptoBulkEntry {H : Type} : Lit × DataW H → Nat
  | (.string bytes, d) => bytes.length + uptoBulk d + 1
  | (_, d) => uptoBulk d + 1
 end
def uptoSmall : (H : Type) → List (DataW H) → Bool := fun _ ds => decide (uptoBulkAll ds ≤ 1048576)
def OpenSpec.upto (s : _root_.Go.ChangeSpec) : _root_.Go.OpenSpec := { _root_.Go.OpenSpec.ofChange s with cond := some uptoSmall }

/-- 'exchangepointlaw32.SessionReads', WHERE WHAT IT READS IS OF BULK AT MOST 1048576: true; the input reads as it did. -/
def sessionReadsUptoRow : OpenClaim := { program := "ytpclmngkpkinoaa", sum := "1cf25ca785a82c0eac596f5e808c505300693c9623d056a979fa40c0df6434fd", func := "exchangepoint/exchangepointlaw32.SessionReads", spec := "sessionReads", unfollowed := true, recurses := true, apart := false, narrowed := true }
def SessionReadsUptoSaid : Prop := sessionReadsUptoRow.holds Try.pinned (OpenSpec.upto sessionReadsSpec)

/-- 'exchangepointlaw32.SessionBack', WHERE WHAT IT READS IS OF BULK AT MOST 1048576: true; the input reads as it did. -/
def sessionBackUptoRow : OpenClaim := { program := "ytpclmngkpkinoaa", sum := "1cf25ca785a82c0eac596f5e808c505300693c9623d056a979fa40c0df6434fd", func := "exchangepoint/exchangepointlaw32.SessionBack", spec := "sessionBack", unfollowed := true, recurses := true, apart := false, narrowed := true }
def SessionBackUptoSaid : Prop := sessionBackUptoRow.holds Try.pinned (OpenSpec.upto sessionBackSpec)

/-- 'exchangepointlaw32.SessionRuns', WHERE WHAT IT READS IS OF BULK AT MOST 1048576: true; the input reads as it did. -/
def sessionRunsUptoRow : OpenClaim := { program := "ytpclmngkpkinoaa", sum := "1cf25ca785a82c0eac596f5e808c505300693c9623d056a979fa40c0df6434fd", func := "exchangepoint/exchangepointlaw32.SessionRuns", spec := "sessionRuns", unfollowed := true, recurses := true, apart := false, narrowed := true }
def SessionRunsUptoSaid : Prop := sessionRunsUptoRow.holds Try.pinned (OpenSpec.upto sessionRunsSpec)

/-- 'exchangepointlaw32.SessionMeets', WHERE WHAT IT READS IS OF BULK AT MOST 1048576: true; the input reads as it did. -/
def sessionMeetsUptoRow : OpenClaim := { program := "ytpclmngkpkinoaa", sum := "1cf25ca785a82c0eac596f5e808c505300693c9623d056a979fa40c0df6434fd", func := "exchangepoint/exchangepointlaw32.SessionMeets", spec := "sessionMeets", unfollowed := true, recurses := true, apart := false, narrowed := true }
def SessionMeetsUptoSaid : Prop := sessionMeetsUptoRow.holds Try.pinned (OpenSpec.upto sessionMeetsSpec)

/-- 'exchangepointlaw32.SessionSilent', WHERE WHAT IT READS IS OF BULK AT MOST 1048576: true; the input reads as it did. -/
def sessionSilentUptoRow : OpenClaim := { program := "ytpclmngkpkinoaa", sum := "1cf25ca785a82c0eac596f5e808c505300693c9623d056a979fa40c0df6434fd", func := "exchangepoint/exchangepointlaw32.SessionSilent", spec := "sessionSilent", unfollowed := true, recurses := true, apart := false, narrowed := true }
def SessionSilentUptoSaid : Prop := sessionSilentUptoRow.holds Try.pinned (OpenSpec.upto sessionSilentSpec)

end Rows
end Go.Proofs.Ytpclmngkpkinoaa
