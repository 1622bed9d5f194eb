/-
  A function's region by its number: so that a theorem can speak of one region alone. No program is named here.
-/
import Derived.Test.YtpclmngkpkinoaaUse
namespace Go.Proofs.Ytpclmngkpkinoaa
open Go.RowKit

/-- The region of that number in a piece of code; nothing if there is none. -/
def findRegion (n : Nat) : Code → Code
  | .region i ops d => match Nat.beq i n with | true => .region i ops d | false => .skip
  | .seq a b => match findRegion n a with | .skip => findRegion n b | c => c
  | .cond _ a b => match findRegion n a with | .skip => findRegion n b | c => c
  | .block _ b => findRegion n b
  | .loop b => findRegion n b
  | .scope b => findRegion n b
  | _ => .skip
def regionAt (f : Func) (n : Nat) : Code := match f.body with | some c => findRegion n c | none => .skip
end Go.Proofs.Ytpclmngkpkinoaa
