/-
  Contracts of package stamp: ID, and the comparison (cmp.Compare of ints, inTurn, Cmp). No conditions but that the numbers are of the machine's.
-/
import Derived.Test.YtmmnnmljilhahaaSWalks
namespace Go.Proofs.Ytmmnnmljilhahaa
open Go.RowKit
set_option linter.unusedVariables false

/-- A number (with a sign) is answered, all that was there is as it was. -/
def NumRet (n : Int) (w : World) (e : Ending) (w' : World) : Prop := e = .returned (.int .i64 n) ∧ Below w.heap.size w w'

theorem sid_any (n r : Int) (w : World) : Calls Try.prog 11 #[st n r] w (NumRet (stI n r) w) := by
  have K := hide (sright_any n r)
  unfold st at K
  unfold st
  go_enter Try.func11, Try.ntmps11
  go_wp2_with fail
  refine (K.out _).mono ?_
  rintro e w1 ⟨rfl, hb⟩
  obtain ⟨c0, c1⟩ := (Bx.new w n r 23).below hb (by simp)
  have B1 := hide ((Below.refl w.heap.size w).alloc (Nat.le_refl _) _ |>.trans (hb.mono (by simp)))
  clear hb
  cases h1 : stR n r with
  | false =>
    have E := hide (show stI n r = 0 by simp [stI, h1])
    clear h1
    go_wp2
    go_ret
    rw [E.out]
    exact ⟨rfl, B1.out⟩
  | true =>
    have hr := stR_t h1
    have E := hide (show stI n r = n * 256 + r by simp [stI, h1])
    clear h1
    go_wp2
    go_ret
    rw [E.out]
    exact ⟨rfl, B1.out⟩

theorem nan_any (n : Int) (w : World) : Calls Try.prog 22 #[.int .i64 n] w (fun e w' => e = .returned (.bool false) ∧ w' = w) := by
  go_enter Try.func22, Try.ntmps22
  go_wp2
  go_ret
  exact ⟨rfl, rfl⟩

theorem compare_any (a b : Int) (w : World) : Calls Try.prog 21 #[.int .i64 a, .int .i64 b] w (fun e w' => e = .returned (.int .i64 (cm a b)) ∧ w' = w) := by
  go_enter Try.func21, Try.ntmps21
  go_wp2_with fail
  refine (nan_any a w).mono ?_
  rintro e w' ⟨rfl, rfl⟩
  go_wp2_with fail
  refine (nan_any b _).mono ?_
  rintro e w' ⟨rfl, rfl⟩
  by_cases h1 : a < b
  · have E := hide (show cm a b = -1 by simp [cm, h1])
    go_wp2
    go_ret
    rw [E.out]
    exact ⟨rfl, rfl⟩
  · by_cases h2 : b < a
    · have E := hide (show cm a b = 1 by simp [cm, h1, h2])
      go_wp2
      go_ret
      rw [E.out]
      exact ⟨rfl, rfl⟩
    · have E := hide (show cm a b = 0 by simp [cm, h1, h2])
      go_wp2
      go_ret
      rw [E.out]
      exact ⟨rfl, rfl⟩
end Go.Proofs.Ytmmnnmljilhahaa
