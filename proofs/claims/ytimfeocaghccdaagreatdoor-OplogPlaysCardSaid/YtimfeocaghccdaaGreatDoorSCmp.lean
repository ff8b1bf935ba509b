/-
  Contracts of package stamp: ID, and the comparison (cmp.Compare of ints, inTurn, Cmp). No conditions but that the numbers are of the machine's.
-/
import Derived.Test.YtimfeocaghccdaaGreatDoorSWalks
namespace Go.Proofs.YtimfeocaghccdaaGreatDoor
set_option maxRecDepth 100000
open Go.RowKit
set_option linter.unusedVariables false

/-- A number (with a sign) is answered, all that was there is as it was. -/
def NumRet (n : Int) (w : World) (e : Ending) (w' : World) : Prop := e = .returned (.int .i64 n) ∧ Below w.heap.size w w'

theorem nan_any (n : Int) (w : World) : Calls Tryz.prog 122 #[.int .i64 n] w (fun e w' => e = .returned (.bool false) ∧ w' = w) := by
  go_enter Tryz.func122, Tryz.ntmps122
  go_wp2
  go_ret
  exact ⟨rfl, rfl⟩

theorem compare_any (a b : Int) (w : World) : Calls Tryz.prog 93 #[.int .i64 a, .int .i64 b] w (fun e w' => e = .returned (.int .i64 (cm a b)) ∧ w' = w) := by
  go_enter Tryz.func93, Tryz.ntmps93
  go_wp2_with fail
  refine (nan_any a w).mono ?_
  rintro e w' ⟨rfl, rfl⟩
  go_wp2_with fail
  refine (nan_any b _).mono ?_
  rintro e w' ⟨rfl, rfl⟩
  by_cases h1 : a < b
  · have E := hide (show cm a b = -1 by simp [cm, h1])
    go_wp2
    go_ret
    rw [E.out]
    exact ⟨rfl, rfl⟩
  · by_cases h2 : b < a
    · have E := hide (show cm a b = 1 by simp [cm, h1, h2])
      go_wp2
      go_ret
      rw [E.out]
      exact ⟨rfl, rfl⟩
    · have E := hide (show cm a b = 0 by simp [cm, h1, h2])
      go_wp2
      go_ret
      rw [E.out]
      exact ⟨rfl, rfl⟩
end Go.Proofs.YtimfeocaghccdaaGreatDoor
