/-
  A number is one stamp's, or none's: plain numbers. No conditions.
-/
import Derived.Test.YtmmnnmljilhahaaSPure
namespace Go.Proofs.Ytmmnnmljilhahaa
set_option linter.unusedVariables false

/-- The stamp of a number has that number. -/
theorem of_yes {i : Int} (h : ofB i = true) : stR (ofN i) (ofR i) = true ∧ stI (ofN i) (ofR i) = i := by
  have hn : ofN i = i.tdiv 256 := by simp [ofN, h]
  have hr : ofR i = i.tmod 256 := by simp [ofR, h]
  have hR : stR (i.tdiv 256) (i.tmod 256) = true := h
  rw [hn, hr]
  refine ⟨hR, ?_⟩
  unfold stI
  rw [if_pos hR, Int.mul_comm]
  exact Int.mul_tdiv_add_tmod i 256
theorem of_no {i : Int} (h : ofB i = false) : ofN i = 0 ∧ ofR i = 0 := ⟨by simp [ofN, h], by simp [ofR, h]⟩
/-- What has a number is made of it. -/
theorem of_id {n r : Int} (h : stR n r = true) : ofB (stI n r) = true ∧ ofN (stI n r) = n ∧ ofR (stI n r) = r ∧ 256 ≤ stI n r ∧ stI n r ≤ 4294967295 := by
  have b := stR_t h
  have e : stI n r = n * 256 + r := by simp [stI, h]
  have d : (n * 256 + r).tdiv 256 = n := by
    rw [Int.tdiv_eq_ediv_of_nonneg (by omega)]; omega
  have m : (n * 256 + r).tmod 256 = r := by
    rw [Int.tmod_eq_emod_of_nonneg (by omega)]; omega
  have hB : ofB (stI n r) = true := by unfold ofB; rw [e, d, m, h]
  refine ⟨hB, ?_, ?_, by omega, by omega⟩
  · unfold ofN; rw [if_pos hB, e, d]
  · unfold ofR; rw [if_pos hB, e, m]
theorem id_no {n r : Int} (h : stR n r = false) : stI n r = 0 := by simp [stI, h]
end Go.Proofs.Ytmmnnmljilhahaa
