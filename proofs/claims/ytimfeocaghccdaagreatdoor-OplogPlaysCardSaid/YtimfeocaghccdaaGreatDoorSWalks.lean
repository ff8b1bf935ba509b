/-
  Contracts of package stamp: within, replica, Right, ID. No conditions but that the numbers are of the machine's.
-/
import Derived.Test.YtimfeocaghccdaaGreatDoorSPure
namespace Go.Proofs.YtimfeocaghccdaaGreatDoor
set_option maxRecDepth 100000
open Go.RowKit
set_option linter.unusedVariables false

theorem within_any (n a b : Int) (w : World) : Calls Tryz.prog 95 #[.int .i64 n, .int .i64 a, .int .i64 b] w (fun e w' => e = .returned (.bool (inP n a b)) ∧ w' = w) := by
  by_cases h1 : a ≤ n
  · by_cases h2 : n ≤ b
    · have E := hide (show inP n a b = true by simp [inP]; omega)
      go_enter Tryz.func95, Tryz.ntmps95
      go_wp2
      go_ret
      rw [E.out]
      exact ⟨rfl, rfl⟩
    · have E := hide (show inP n a b = false by simp [inP]; omega)
      go_enter Tryz.func95, Tryz.ntmps95
      go_wp2
      go_ret
      rw [E.out]
      exact ⟨rfl, rfl⟩
  · have E := hide (show inP n a b = false by simp [inP]; omega)
    go_enter Tryz.func95, Tryz.ntmps95
    go_wp2
    go_ret
    rw [E.out]
    exact ⟨rfl, rfl⟩

theorem replica_any (r : Int) (w : World) : Calls Tryz.prog 96 #[.int .i64 r] w (fun e w' => e = .returned (.bool (inP r 0 255)) ∧ w' = w) := by
  go_enter Tryz.func96, Tryz.ntmps96
  go_wp2_with fail
  refine (within_any r 0 255 w).mono ?_
  rintro e w' ⟨rfl, rfl⟩
  go_wp2
  go_ret
  exact ⟨rfl, rfl⟩

theorem sright_any (n r : Int) (w : World) : Calls Tryz.prog 74 #[st n r] w (BoolRet (stR n r) w) := by
  unfold st
  go_enter Tryz.func74, Tryz.ntmps74
  go_wp2_with fail
  refine (within_any n 1 16777215 _).mono ?_
  rintro e w' ⟨rfl, rfl⟩
  cases h1 : inP n 1 16777215 with
  | false =>
    have E := hide (show stR n r = false by have := inP_f h1; simp [stR]; omega)
    clear h1
    go_wp2
    go_ret
    rw [E.out]
    exact ⟨rfl, (Below.refl _ _).alloc (Nat.le_refl _) _⟩
  | true =>
    have H1 := hide h1
    clear h1
    go_wp2_with fail
    refine (replica_any r _).mono ?_
    rintro e w' ⟨rfl, rfl⟩
    have E := hide (show inP r 0 255 = stR n r by have := inP_t H1.out; simp [stR, inP]; omega)
    go_wp2
    go_ret
    rw [E.out]
    exact ⟨rfl, (Below.refl _ _).alloc (Nat.le_refl _) _⟩
end Go.Proofs.YtimfeocaghccdaaGreatDoor
