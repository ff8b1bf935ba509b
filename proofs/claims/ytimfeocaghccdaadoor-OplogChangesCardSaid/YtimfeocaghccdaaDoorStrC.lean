/-
  strings.Clone, by the library's contract, over lists of bytes. Conditions: the text is not longer than 2^48 bytes.
-/
import Derived.Test.YtimfeocaghccdaaDoorNRight
import Derived.Shelf.Strconv.Clone
namespace Go.Proofs.YtimfeocaghccdaaDoor
set_option maxRecDepth 100000
open Go.RowKit Go.Shelf
set_option linter.unusedVariables false
set_option maxRecDepth 100000

theorem lib_clone (l : List UInt8) (w : World) (hl : l.length ≤ 281474976710656) : Calls Tryd.prog 34 #[.string (bs l)] w fun e w' => e = .returned (.string (bs l)) ∧ Below w.heap.size w w' :=
  Any.stringslite_Clone Tryd.laysM316 (bs l) w (by rw [bs_size]; exact hl)
theorem clone_any (l : List UInt8) (w : World) (hl : l.length ≤ 281474976710656) : Calls Tryd.prog 21 #[.string (bs l)] w fun e w' => e = .returned (.string (bs l)) ∧ Below w.heap.size w w' := by
  go_enter Tryd.func21, Tryd.ntmps21
  go_wp2_with fail
  refine (lib_clone l w hl).mono ?_
  rintro e w1 ⟨rfl, hb⟩
  go_wp2
  go_ret
  exact ⟨rfl, hb⟩
end Go.Proofs.YtimfeocaghccdaaDoor
