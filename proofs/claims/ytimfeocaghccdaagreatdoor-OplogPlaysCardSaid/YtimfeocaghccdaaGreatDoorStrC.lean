/-
  strings.Clone, by the library's contract, over lists of bytes. Conditions: the text is not longer than 2^48 bytes.
-/
import Derived.Test.YtimfeocaghccdaaGreatDoorNRight
import Derived.Shelf.Strconv.Clone
namespace Go.Proofs.YtimfeocaghccdaaGreatDoor
set_option maxRecDepth 100000
open Go.RowKit Go.Shelf
set_option linter.unusedVariables false
set_option maxRecDepth 100000

theorem lib_clone (l : List UInt8) (w : World) (hl : l.length ≤ 281474976710656) : Calls Tryz.prog 57 #[.string (bs l)] w fun e w' => e = .returned (.string (bs l)) ∧ Below w.heap.size w w' :=
  Any.stringslite_Clone Tryz.laysM316 (bs l) w (by rw [bs_size]; exact hl)
theorem clone_any (l : List UInt8) (w : World) (hl : l.length ≤ 281474976710656) : Calls Tryz.prog 33 #[.string (bs l)] w fun e w' => e = .returned (.string (bs l)) ∧ Below w.heap.size w w' := by
  go_enter Tryz.func33, Tryz.ntmps33
  go_wp2_with fail
  refine (lib_clone l w hl).mono ?_
  rintro e w1 ⟨rfl, hb⟩
  go_wp2
  go_ret
  exact ⟨rfl, hb⟩
end Go.Proofs.YtimfeocaghccdaaGreatDoor
