/-
  Contracts of package op: Node and parent; the document's Node. No conditions but that the numbers are of the machine's.
-/
import Derived.Test.YtimfeocaghccdaaGreatDoorOPure
namespace Go.Proofs.YtimfeocaghccdaaGreatDoor
set_option maxRecDepth 100000
open Go.RowKit
set_option linter.unusedVariables false

theorem node_any (n : Int) (w : World) : Calls Tryz.prog 75 #[.int .i64 n] w (fun e w' => e = .returned (.bool (ndB n)) ∧ w' = w) := by
  by_cases h1 : 256 ≤ n
  · by_cases h2 : n ≤ 4294967295
    · have E := hide (show ndB n = true from ndB_in ⟨h1, h2⟩)
      go_enter Tryz.func75, Tryz.ntmps75
      go_wp2
      go_ret
      rw [E.out]
      exact ⟨rfl, rfl⟩
    · have E := hide (show ndB n = false from ndB_out (by omega))
      go_enter Tryz.func75, Tryz.ntmps75
      go_wp2
      go_ret
      rw [E.out]
      exact ⟨rfl, rfl⟩
  · have E := hide (show ndB n = false from ndB_out (by omega))
    go_enter Tryz.func75, Tryz.ntmps75
    go_wp2
    go_ret
    rw [E.out]
    exact ⟨rfl, rfl⟩
theorem refNode_any (n : Int) (w : World) : Calls Tryz.prog 63 #[.int .i64 n] w (fun e w' => e = .returned (.bool (ndB n)) ∧ w' = w) := by
  by_cases h1 : 256 ≤ n
  · by_cases h2 : n ≤ 4294967295
    · have E := hide (show ndB n = true from ndB_in ⟨h1, h2⟩)
      go_enter Tryz.func63, Tryz.ntmps63
      go_wp2
      go_ret
      rw [E.out]
      exact ⟨rfl, rfl⟩
    · have E := hide (show ndB n = false from ndB_out (by omega))
      go_enter Tryz.func63, Tryz.ntmps63
      go_wp2
      go_ret
      rw [E.out]
      exact ⟨rfl, rfl⟩
  · have E := hide (show ndB n = false from ndB_out (by omega))
    go_enter Tryz.func63, Tryz.ntmps63
    go_wp2
    go_ret
    rw [E.out]
    exact ⟨rfl, rfl⟩
theorem parent_any (n : Int) (w : World) : Calls Tryz.prog 76 #[.int .i64 n] w (fun e w' => e = .returned (.bool (toB n)) ∧ w' = w) := by
  by_cases h0 : n = 0
  · subst h0
    have E := hide (show toB 0 = true by decide)
    go_enter Tryz.func76, Tryz.ntmps76
    go_wp2
    go_ret
    rw [E.out]
    exact ⟨rfl, rfl⟩
  · by_cases h1 : n = 1
    · subst h1
      have E := hide (show toB 1 = true by decide)
      go_enter Tryz.func76, Tryz.ntmps76
      go_wp2
      go_ret
      rw [E.out]
      exact ⟨rfl, rfl⟩
    · have E := hide (show (n == 0 || n == 1 || ndB n) = toB n by rw [toB_or]; simp [h0, h1])
      go_enter Tryz.func76, Tryz.ntmps76
      go_wp2_with fail
      refine (node_any n w).mono ?_
      rintro e w' ⟨rfl, rfl⟩
      go_wp2
      go_ret
      exact ⟨ret_bool E.out, rfl⟩
theorem below_two (w : World) (a b : Obj) : Below w.heap.size w ((w.alloc a).alloc b) := ((Below.refl w.heap.size w).alloc (Nat.le_refl _) a).alloc (by simp) b
end Go.Proofs.YtimfeocaghccdaaGreatDoor
