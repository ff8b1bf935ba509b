/-
  Contracts of package op: the four ways in which two operations are held against each other, and Cmp, which takes them in turn. No conditions.
-/
import Derived.Test.YtlcmkikjgelfaaaDoorOSmall
import Derived.Test.YtlcmkikjgelfaaaDoorSCmp
import Derived.Test.YtlcmkikjgelfaaaDoorShelf
import Derived.Shelf.Small.Strs
namespace Go.Proofs.YtlcmkikjgelfaaaDoor
set_option maxRecDepth 100000
open Go.RowKit Go.Shelf
set_option linter.unusedVariables false

theorem lib_compare (l k : List UInt8) (w : World) : Calls Tryd.prog 76 #[.string (bs l), .string (bs k)] w (fun e w' => e = .returned (.int .i64 (cN l k)) ∧ w' = w) := by
  have h := Any.strings_Compare Tryd.lays106 (bs l) (bs k) w
  rw [bs_data, bs_data] at h
  exact h
end Go.Proofs.YtlcmkikjgelfaaaDoor
