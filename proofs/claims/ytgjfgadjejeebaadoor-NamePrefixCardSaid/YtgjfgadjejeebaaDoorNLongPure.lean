/-
  A name more is a path, if it isn't too long; what is no name makes none: over plain lists. No program, no world; no conditions beyond those that each statement bears.
-/
import Derived.Test.YtgjfgadjejeebaaDoorNJoin
namespace Go.Proofs.YtgjfgadjejeebaaDoor
set_option linter.unusedVariables false

theorem split_count (l : List UInt8) (m : List (List UInt8)) (h : splitP l = some m) : m.length ≤ 400 := by
  have h1 := (split_short l m h).2
  have h2 := J_count m
  omega
theorem root_of (s : List UInt8) (h : splitP s = some []) : s = [47] := (splitP_some s [] h).1
theorem one_right (t : List UInt8) (h : (splitS t).all right = true) : right t = decide ((splitS t).length = 1) := by
  have := one_part t h
  cases hr : right t with
  | true => exact (decide_eq_true (this.1 hr)).symm
  | false =>
    refine (decide_eq_false ?_).symm
    intro e
    have := this.2 e
    rw [hr] at this
    cases this
/-- The longer text, cut. -/
def longT (s t : List UInt8) (L : List (List UInt8)) : List UInt8 := if L = [] then s ++ t else s ++ 47 :: t
theorem longer (s t : List UInt8) (L : List (List UInt8)) (hs : splitP s = some L) (hn : L ≠ [] ∨ t ≠ []) :
    (∃ parts M, splitP (47 :: t) = some parts ∧ t ≠ [] ∧ (longT s t L).length ≤ 400 ∧ splitP (longT s t L) = some M ∧ M.length = L.length + parts.length ∧ right t = decide (parts.length = 1)) ∨
    (splitP (longT s t L) = none ∧ (splitP (47 :: t) = none ∨ (t = [] ∧ splitP (47 :: t) = some []) ∨ (∃ parts, splitP (47 :: t) = some parts ∧ t ≠ [] ∧ 400 < (longT s t L).length))) := by
  unfold longT
  by_cases hL : L = []
  · rw [if_pos hL]
    subst hL
    have ht : t ≠ [] := hn.resolve_left (fun h => h rfl)
    have e := root_of s hs
    subst e
    show (∃ parts M, splitP (47 :: t) = some parts ∧ t ≠ [] ∧ (47 :: t).length ≤ 400 ∧ splitP (47 :: t) = some M ∧ M.length = 0 + parts.length ∧ right t = decide (parts.length = 1)) ∨ (splitP (47 :: t) = none ∧ _)
    rw [split_stroke t ht]
    by_cases hc : (splitS t).all right = true ∧ t.length + 1 ≤ 400
    · left
      rw [if_pos hc]
      exact ⟨splitS t, splitS t, rfl, ht, by simpa using hc.2, rfl, by omega, one_right t hc.1⟩
    · right
      rw [if_neg hc]
      exact ⟨rfl, .inl rfl⟩
  · rw [if_neg hL, split_more s t L hs hL]
    by_cases ht : t = []
    · subst ht
      right
      refine ⟨?_, .inr (.inl ⟨rfl, rfl⟩)⟩
      rw [if_neg]
      rintro ⟨h, _⟩
      simp [splitS, right_nil] at h
    · rw [split_stroke t ht]
      by_cases hc : (splitS t).all right = true ∧ (s ++ 47 :: t).length ≤ 400
      · left
        have h2 : t.length + 1 ≤ 400 := by have := hc.2; simp at this; omega
        rw [if_pos hc, if_pos ⟨hc.1, h2⟩]
        exact ⟨splitS t, L ++ splitS t, rfl, ht, hc.2, rfl, by simp, one_right t hc.1⟩
      · right
        rw [if_neg hc]
        refine ⟨rfl, ?_⟩
        by_cases hd : (splitS t).all right = true ∧ t.length + 1 ≤ 400
        · rw [if_pos hd]
          refine .inr (.inr ⟨splitS t, rfl, ht, ?_⟩)
          rcases Nat.lt_or_ge 400 (s ++ 47 :: t).length with h | h
          · exact h
          · exact absurd ⟨hd.1, h⟩ hc
        · rw [if_neg hd]
          exact .inl rfl
end Go.Proofs.YtgjfgadjejeebaaDoor
