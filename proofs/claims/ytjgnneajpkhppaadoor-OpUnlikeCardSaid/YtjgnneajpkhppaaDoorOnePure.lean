/-
  What is scanned is what was written: the inverse of scan. No conditions.
-/
import Derived.Test.YtjgnneajpkhppaaDoorPure
namespace Go.Proofs.YtjgnneajpkhppaaDoor
open Go.RowKit
set_option linter.unusedVariables false

/-- What is scanned is a form. -/
theorem scanF_inv (f i acc : Nat) (l : List UInt8) (h : (scanF f i acc l).2.2 = 0) :
    ∃ m j, j < f ∧ (scanF f i acc l).2.1 = i + j + 1 ∧ l.take (j + 1) = formX j m ∧ (scanF f i acc l).1 = acc + m * 128 ^ i ∧ m < 128 ^ (j + 1) ∧ (j ≠ 0 ∨ 0 < i → m / 128 ^ j ≠ 0) := by
  induction f generalizing i acc l with
  | zero => simp [scanF] at h
  | succ f ih =>
    cases l with
    | nil => simp [scanF] at h
    | cons x t =>
      have hx256 := UInt8.toNat_lt x
      unfold scanF at h ⊢
      by_cases hx : 128 ≤ x.toNat
      · rw [if_pos hx] at h ⊢
        obtain ⟨m, j, hj, h1, h2, h3, h4, h5⟩ := ih _ _ _ h
        have hq : (x.toNat % 128 + 128 * m) / 128 = m := by omega
        refine ⟨x.toNat % 128 + 128 * m, j + 1, by omega, by omega, ?_, ?_, ?_, fun _ => ?_⟩
        · rw [List.take_succ_cons, h2]
          simp only [formX]
          rw [hq]
          congr 1
          have : (x.toNat % 128 + 128 * m) % 128 + 128 = x.toNat := by omega
          rw [this]
          simp [b8]
        · rw [h3, Nat.pow_succ, Nat.add_mul, Nat.add_assoc]
          congr 2
          rw [Nat.mul_comm (128 ^ i) 128, ← Nat.mul_assoc, Nat.mul_comm m 128]
        · rw [Nat.pow_succ]; omega
        · rw [show 128 ^ (j + 1) = 128 * 128 ^ j by rw [Nat.pow_succ, Nat.mul_comm], ← Nat.div_div_eq_div_mul, hq]
          exact h5 (.inr (by omega))
      · rw [if_neg hx] at h ⊢
        by_cases h0 : x.toNat = 0 ∧ 0 < i
        · rw [if_pos h0] at h
          simp at h
        · rw [if_neg h0] at h ⊢
          refine ⟨x.toNat % 128, 0, by omega, rfl, ?_, rfl, by simp; omega, fun hh => ?_⟩
          · simp only [List.take_succ_cons, List.take_zero, formX]
            congr 1
            rw [Nat.mod_eq_of_lt (by omega)]
            simp [b8]
          · simp only [Nat.pow_zero, Nat.div_one]
            omega

theorem ext_unique (m j : Nat) (hj : j ≤ 4) (h1 : m < 128 ^ (j + 1)) (h2 : j ≠ 0 → m / 128 ^ j ≠ 0) : ext m = j := by
  have hc : j = 0 ∨ j = 1 ∨ j = 2 ∨ j = 3 ∨ j = 4 := by omega
  unfold ext
  rcases hc with rfl | rfl | rfl | rfl | rfl
  all_goals simp only [Nat.reduceAdd, Nat.reducePow, ne_eq, Nat.reduceEqDiff, not_false_eq_true, true_imp_iff, not_true_eq_false, false_imp_iff] at h1 h2
  all_goals repeat' split
  all_goals omega

theorem scan_is_form (l : List UInt8) (h : (scan l).2.2 = 0) : form (scan l).1 = l.take (scan l).2.1 ∧ 1 ≤ (scan l).2.1 ∧ (scan l).2.1 ≤ 5 ∧ (scan l).2.1 ≤ l.length := by
  obtain ⟨m, j, hj, h1, h2, h3, h4, h5⟩ := scanF_inv 5 0 0 l h
  have hs : 0 < (scan l).2.1 ∧ (scan l).2.1 ≤ 0 + l.length ∧ (scan l).2.1 ≤ 0 + 5 := scanF_size 5 0 0 l h
  have e1 : (scan l).2.1 = j + 1 := by have : (scan l).2.1 = 0 + j + 1 := h1; omega
  have e3 : (scan l).1 = m := by have : (scan l).1 = 0 + m * 128 ^ 0 := h3; simpa using this
  refine ⟨?_, by omega, by omega, by omega⟩
  rw [e1, e3, h2]
  unfold form
  rw [ext_unique m j (by omega) h4 (fun hh => h5 (.inl hh))]
end Go.Proofs.YtjgnneajpkhppaaDoor
