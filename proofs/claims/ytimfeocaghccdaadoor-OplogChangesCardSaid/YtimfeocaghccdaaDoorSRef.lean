/-
  Contracts of the document's answers for layer 4: Right, Cmp, Next, ID. No conditions but that the numbers are of the machine's.
-/
import Derived.Test.YtimfeocaghccdaaDoorSTurn
namespace Go.Proofs.YtimfeocaghccdaaDoor
set_option maxRecDepth 100000
open Go.RowKit
set_option linter.unusedVariables false

theorem stC_lt {n r m s : Int} (h : n < m ∨ n = m ∧ r < s) : stC n r m s = -1 := by
  rcases h with h | ⟨rfl, h⟩
  · have : cm n m = -1 := by unfold cm; rw [if_pos h]
    simp [stC, this]
  · have : cm n n = 0 := by simp [cm]
    simp [stC, cm, h]
theorem stC_gt {n r m s : Int} (h : m < n ∨ n = m ∧ s < r) : stC n r m s = 1 := by
  rcases h with h | ⟨rfl, h⟩
  · have : cm n m = 1 := by unfold cm; rw [if_neg (by omega), if_pos h]
    simp [stC, this]
  · have : cm n n = 0 := by simp [cm]
    have h2 : cm r s = 1 := by unfold cm; rw [if_neg (by omega), if_pos h]
    simp [stC, this, h2]
theorem stC_eq (n r : Int) : stC n r n r = 0 := by simp [stC, cm]

theorem inP_and {a b c : Int} (h : ¬ ((0 ≤ a ∧ a ≤ 16777215) ∧ (0 ≤ b ∧ b ≤ 16777215) ∧ 0 ≤ c ∧ c ≤ 255)) : (inP a 0 16777215 && inP b 0 16777215 && inP c 0 255) = false := by
  cases h1 : inP a 0 16777215 <;> cases h2 : inP b 0 16777215 <;> cases h3 : inP c 0 255 <;> try rfl
  exact absurd ⟨inP_t h1, inP_t h2, inP_t h3⟩ h
theorem inP_all {a b c : Int} (h : ((0 ≤ a ∧ a ≤ 16777215) ∧ (0 ≤ b ∧ b ≤ 16777215) ∧ 0 ≤ c ∧ c ≤ 255)) : (inP a 0 16777215 && inP b 0 16777215 && inP c 0 255) = true := by
  simp [inP]; omega

end Go.Proofs.YtimfeocaghccdaaDoor
