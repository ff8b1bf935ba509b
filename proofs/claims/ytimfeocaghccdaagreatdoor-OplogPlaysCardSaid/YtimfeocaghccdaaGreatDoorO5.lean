/-
  An operation's parts. No conditions.
-/
import Derived.Test.YtimfeocaghccdaaGreatDoorOPure
namespace Go.Proofs.YtimfeocaghccdaaGreatDoor
set_option maxRecDepth 100000
open Go.RowKit
set_option linter.unusedVariables false

/-- An operation's parts. -/
structure O5 where
  n : Int
  r : Int
  d : Int
  t : Int
  l : List UInt8
def O5.R (o : O5) : Bool := opR o.n o.r o.d o.t o.l
end Go.Proofs.YtimfeocaghccdaaGreatDoor
