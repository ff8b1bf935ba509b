/-
  Contracts of the document's answers for layer 4: Right, Cmp, Next, ID. No conditions but that the numbers are of the machine's.
-/
import Derived.Test.YtimfeocaghccdaaGreatDoorSTurn
namespace Go.Proofs.YtimfeocaghccdaaGreatDoor
set_option maxRecDepth 100000
open Go.RowKit
set_option linter.unusedVariables false

theorem srefRight_any (n r : Int) (w : World) : Calls Tryz.prog 61 #[st n r] w (BoolRet (stR n r) w) := by
  unfold st
  by_cases h1 : 0 < n
  · by_cases h2 : n < 16777216
    · by_cases h3 : 0 ≤ r
      · by_cases h4 : r ≤ 255
        · have E := hide (show stR n r = true by simp [stR]; omega)
          go_enter Tryz.func61, Tryz.ntmps61
          go_wp2
          go_ret
          rw [E.out]
          exact ⟨rfl, (Below.refl _ _).alloc (Nat.le_refl _) _⟩
        · have E := hide (show stR n r = false by simp [stR]; omega)
          go_enter Tryz.func61, Tryz.ntmps61
          go_wp2
          go_ret
          rw [E.out]
          exact ⟨rfl, (Below.refl _ _).alloc (Nat.le_refl _) _⟩
      · have E := hide (show stR n r = false by simp [stR]; omega)
        go_enter Tryz.func61, Tryz.ntmps61
        go_wp2
        go_ret
        rw [E.out]
        exact ⟨rfl, (Below.refl _ _).alloc (Nat.le_refl _) _⟩
    · have E := hide (show stR n r = false by simp [stR]; omega)
      go_enter Tryz.func61, Tryz.ntmps61
      go_wp2
      go_ret
      rw [E.out]
      exact ⟨rfl, (Below.refl _ _).alloc (Nat.le_refl _) _⟩
  · have E := hide (show stR n r = false by simp [stR]; omega)
    go_enter Tryz.func61, Tryz.ntmps61
    go_wp2
    go_ret
    rw [E.out]
    exact ⟨rfl, (Below.refl _ _).alloc (Nat.le_refl _) _⟩

theorem stC_lt {n r m s : Int} (h : n < m ∨ n = m ∧ r < s) : stC n r m s = -1 := by
  rcases h with h | ⟨rfl, h⟩
  · have : cm n m = -1 := by unfold cm; rw [if_pos h]
    simp [stC, this]
  · have : cm n n = 0 := by simp [cm]
    simp [stC, cm, h]
theorem stC_gt {n r m s : Int} (h : m < n ∨ n = m ∧ s < r) : stC n r m s = 1 := by
  rcases h with h | ⟨rfl, h⟩
  · have : cm n m = 1 := by unfold cm; rw [if_neg (by omega), if_pos h]
    simp [stC, this]
  · have : cm n n = 0 := by simp [cm]
    have h2 : cm r s = 1 := by unfold cm; rw [if_neg (by omega), if_pos h]
    simp [stC, this, h2]
theorem stC_eq (n r : Int) : stC n r n r = 0 := by simp [stC, cm]

theorem refCmp_any (n r m s : Int) (w : World) : Calls Tryz.prog 88 #[st n r, st m s] w (NumRet (stC n r m s) w) := by
  have B2 := hide (fun x y => ((Below.refl w.heap.size w).alloc (Nat.le_refl _) x).alloc (by simp) y)
  unfold st
  rcases Int.lt_trichotomy n m with h | h | h
  · have E := hide (stC_lt (r := r) (s := s) (.inl h))
    go_enter Tryz.func88, Tryz.ntmps88
    go_wp2
    go_ret
    rw [E.out]
    exact ⟨rfl, B2.out _ _⟩
  · subst h
    rcases Int.lt_trichotomy r s with h | h | h
    · have E := hide (stC_lt (n := n) (m := n) (.inr ⟨rfl, h⟩))
      go_enter Tryz.func88, Tryz.ntmps88
      go_wp2
      go_ret
      rw [E.out]
      exact ⟨rfl, B2.out _ _⟩
    · subst h
      have E := hide (stC_eq n r)
      go_enter Tryz.func88, Tryz.ntmps88
      go_wp2
      go_ret
      rw [E.out]
      exact ⟨rfl, B2.out _ _⟩
    · have E := hide (stC_gt (n := n) (m := n) (.inr ⟨rfl, h⟩))
      go_enter Tryz.func88, Tryz.ntmps88
      go_wp2
      go_ret
      rw [E.out]
      exact ⟨rfl, B2.out _ _⟩
  · have E := hide (stC_gt (r := r) (s := s) (.inl h))
    go_enter Tryz.func88, Tryz.ntmps88
    go_wp2
    go_ret
    rw [E.out]
    exact ⟨rfl, B2.out _ _⟩

theorem inP_and {a b c : Int} (h : ¬ ((0 ≤ a ∧ a ≤ 16777215) ∧ (0 ≤ b ∧ b ≤ 16777215) ∧ 0 ≤ c ∧ c ≤ 255)) : (inP a 0 16777215 && inP b 0 16777215 && inP c 0 255) = false := by
  cases h1 : inP a 0 16777215 <;> cases h2 : inP b 0 16777215 <;> cases h3 : inP c 0 255 <;> try rfl
  exact absurd ⟨inP_t h1, inP_t h2, inP_t h3⟩ h
theorem inP_all {a b c : Int} (h : ((0 ≤ a ∧ a ≤ 16777215) ∧ (0 ≤ b ∧ b ≤ 16777215) ∧ 0 ≤ c ∧ c ≤ 255)) : (inP a 0 16777215 && inP b 0 16777215 && inP c 0 255) = true := by
  simp [inP]; omega

end Go.Proofs.YtimfeocaghccdaaGreatDoor
