/-
  As EqH.
-/
import Derived.Test.YtboddbheljenhaaGreatDoorEqH
namespace Go.Proofs.YtboddbheljenhaaGreatDoor
end Go.Proofs.YtboddbheljenhaaGreatDoor
