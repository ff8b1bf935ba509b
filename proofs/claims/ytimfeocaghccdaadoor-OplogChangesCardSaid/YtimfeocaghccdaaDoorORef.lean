/-
  Contracts of the document's Right and Cmp of operations. Conditions: names are no longer than a thousand bytes.
-/
import Derived.Test.YtimfeocaghccdaaDoorOCmp2
import Derived.Test.YtimfeocaghccdaaDoorSRef
import Derived.Test.YtimfeocaghccdaaDoorNRefRight
namespace Go.Proofs.YtimfeocaghccdaaDoor
set_option maxRecDepth 100000
open Go.RowKit
set_option linter.unusedVariables false

end Go.Proofs.YtimfeocaghccdaaDoor
