/-
  Rows that are handed out beside another value. No program is named here.
-/
import Derived.Test.YtogchaijglbjaaaCutAbsC
namespace Go.Proofs.Ytogchaijglbjaaa
open Go.RowKit
def roundsA (P : Program) (N : Nat) (ini : Ini) (c : Code) (Q : Exit → St → Prop) : Nat → St → Prop
  | 0, _ => False
  | n + 1, st => Awp P N ini c (andThen (roundsA P N ini c Q n) Q) st
end Go.Proofs.Ytogchaijglbjaaa
