/-
  Contracts of the document's answers for layer 4: Right, Cmp, Next, ID. No conditions but that the numbers are of the machine's.
-/
import Derived.Test.YtmmnnmljilhahaaSNext
namespace Go.Proofs.Ytmmnnmljilhahaa
open Go.RowKit
set_option linter.unusedVariables false

theorem refRight_any (n r : Int) (w : World) : Calls Try.prog 10 #[st n r] w (BoolRet (stR n r) w) := by
  unfold st
  by_cases h1 : 0 < n
  · by_cases h2 : n < 16777216
    · by_cases h3 : 0 ≤ r
      · by_cases h4 : r ≤ 255
        · have E := hide (show stR n r = true by simp [stR]; omega)
          go_enter Try.func10, Try.ntmps10
          go_wp2
          go_ret
          rw [E.out]
          exact ⟨rfl, (Below.refl _ _).alloc (Nat.le_refl _) _⟩
        · have E := hide (show stR n r = false by simp [stR]; omega)
          go_enter Try.func10, Try.ntmps10
          go_wp2
          go_ret
          rw [E.out]
          exact ⟨rfl, (Below.refl _ _).alloc (Nat.le_refl _) _⟩
      · have E := hide (show stR n r = false by simp [stR]; omega)
        go_enter Try.func10, Try.ntmps10
        go_wp2
        go_ret
        rw [E.out]
        exact ⟨rfl, (Below.refl _ _).alloc (Nat.le_refl _) _⟩
    · have E := hide (show stR n r = false by simp [stR]; omega)
      go_enter Try.func10, Try.ntmps10
      go_wp2
      go_ret
      rw [E.out]
      exact ⟨rfl, (Below.refl _ _).alloc (Nat.le_refl _) _⟩
  · have E := hide (show stR n r = false by simp [stR]; omega)
    go_enter Try.func10, Try.ntmps10
    go_wp2
    go_ret
    rw [E.out]
    exact ⟨rfl, (Below.refl _ _).alloc (Nat.le_refl _) _⟩

theorem refID_any (n r : Int) (w : World) : Calls Try.prog 12 #[st n r] w (NumRet (stI n r) w) := by
  have K := hide (refRight_any n r)
  unfold st at K
  unfold st
  go_enter Try.func12, Try.ntmps12
  go_wp2_with fail
  refine (K.out _).mono ?_
  rintro e w1 ⟨rfl, hb⟩
  obtain ⟨c0, c1⟩ := (Bx.new w n r 23).below hb (by simp)
  have B1 := hide ((Below.refl w.heap.size w).alloc (Nat.le_refl _) _ |>.trans (hb.mono (by simp)))
  clear hb
  cases h1 : stR n r with
  | false =>
    have E := hide (show stI n r = 0 by simp [stI, h1])
    clear h1
    go_wp2
    go_ret
    rw [E.out]
    exact ⟨rfl, B1.out⟩
  | true =>
    have hr := stR_t h1
    have E := hide (show stI n r = 256 * n + r by simp [stI, h1]; omega)
    clear h1
    go_wp2
    go_ret
    rw [E.out]
    exact ⟨rfl, B1.out⟩

theorem stC_lt {n r m s : Int} (h : n < m ∨ n = m ∧ r < s) : stC n r m s = -1 := by
  rcases h with h | ⟨rfl, h⟩
  · have : cm n m = -1 := by unfold cm; rw [if_pos h]
    simp [stC, this]
  · have : cm n n = 0 := by simp [cm]
    simp [stC, cm, h]
theorem stC_gt {n r m s : Int} (h : m < n ∨ n = m ∧ s < r) : stC n r m s = 1 := by
  rcases h with h | ⟨rfl, h⟩
  · have : cm n m = 1 := by unfold cm; rw [if_neg (by omega), if_pos h]
    simp [stC, this]
  · have : cm n n = 0 := by simp [cm]
    have h2 : cm r s = 1 := by unfold cm; rw [if_neg (by omega), if_pos h]
    simp [stC, this, h2]
theorem stC_eq (n r : Int) : stC n r n r = 0 := by simp [stC, cm]

theorem refCmp_any (n r m s : Int) (w : World) : Calls Try.prog 14 #[st n r, st m s] w (NumRet (stC n r m s) w) := by
  have B2 := hide (fun x y => ((Below.refl w.heap.size w).alloc (Nat.le_refl _) x).alloc (by simp) y)
  unfold st
  rcases Int.lt_trichotomy n m with h | h | h
  · have E := hide (stC_lt (r := r) (s := s) (.inl h))
    go_enter Try.func14, Try.ntmps14
    go_wp2
    go_ret
    rw [E.out]
    exact ⟨rfl, B2.out _ _⟩
  · subst h
    rcases Int.lt_trichotomy r s with h | h | h
    · have E := hide (stC_lt (n := n) (m := n) (.inr ⟨rfl, h⟩))
      go_enter Try.func14, Try.ntmps14
      go_wp2
      go_ret
      rw [E.out]
      exact ⟨rfl, B2.out _ _⟩
    · subst h
      have E := hide (stC_eq n r)
      go_enter Try.func14, Try.ntmps14
      go_wp2
      go_ret
      rw [E.out]
      exact ⟨rfl, B2.out _ _⟩
    · have E := hide (stC_gt (n := n) (m := n) (.inr ⟨rfl, h⟩))
      go_enter Try.func14, Try.ntmps14
      go_wp2
      go_ret
      rw [E.out]
      exact ⟨rfl, B2.out _ _⟩
  · have E := hide (stC_gt (r := r) (s := s) (.inl h))
    go_enter Try.func14, Try.ntmps14
    go_wp2
    go_ret
    rw [E.out]
    exact ⟨rfl, B2.out _ _⟩

theorem inP_and {a b c : Int} (h : ¬ ((0 ≤ a ∧ a ≤ 16777215) ∧ (0 ≤ b ∧ b ≤ 16777215) ∧ 0 ≤ c ∧ c ≤ 255)) : (inP a 0 16777215 && inP b 0 16777215 && inP c 0 255) = false := by
  cases h1 : inP a 0 16777215 <;> cases h2 : inP b 0 16777215 <;> cases h3 : inP c 0 255 <;> try rfl
  exact absurd ⟨inP_t h1, inP_t h2, inP_t h3⟩ h
theorem inP_all {a b c : Int} (h : ((0 ≤ a ∧ a ≤ 16777215) ∧ (0 ≤ b ∧ b ≤ 16777215) ∧ 0 ≤ c ∧ c ≤ 255)) : (inP a 0 16777215 && inP b 0 16777215 && inP c 0 255) = true := by
  simp [inP]; omega

theorem refNext_any (seen r most : Int) (w : World) : Calls Try.prog 16 #[.int .i64 seen, .int .i64 r, .int .i64 most] w (NextRet seen r most w) := by
  by_cases h0 : seen < 0
  · have E := hide (next_bad (seen := seen) (r := r) (most := most) (inP_and (by omega)))
    go_enter Try.func16, Try.ntmps16
    go_wp2
    (try simp only [Exit.inBlock, Exit.then])
    refine bodyPost_ret (v := .tuple #[.agg #[.int .i64 _, .int .i64 _], .int .i64 _]) ?_ rfl (next_ret E.out ?_)
    · rw [results_cell_tmp rfl]
      go_simp
    · exact (Below.refl _ _).alloc (Nat.le_refl _) _
  · skip
    by_cases h1 : 16777216 ≤ seen
    · have E := hide (next_bad (seen := seen) (r := r) (most := most) (inP_and (by omega)))
      go_enter Try.func16, Try.ntmps16
      go_wp2
      (try simp only [Exit.inBlock, Exit.then])
      refine bodyPost_ret (v := .tuple #[.agg #[.int .i64 _, .int .i64 _], .int .i64 _]) ?_ rfl (next_ret E.out ?_)
      · rw [results_cell_tmp rfl]
        go_simp
      · exact (Below.refl _ _).alloc (Nat.le_refl _) _
    · skip
      by_cases h2 : most < 0
      · have E := hide (next_bad (seen := seen) (r := r) (most := most) (inP_and (by omega)))
        go_enter Try.func16, Try.ntmps16
        go_wp2
        (try simp only [Exit.inBlock, Exit.then])
        refine bodyPost_ret (v := .tuple #[.agg #[.int .i64 _, .int .i64 _], .int .i64 _]) ?_ rfl (next_ret E.out ?_)
        · rw [results_cell_tmp rfl]
          go_simp
        · exact (Below.refl _ _).alloc (Nat.le_refl _) _
      · skip
        by_cases h3 : 16777216 ≤ most
        · have E := hide (next_bad (seen := seen) (r := r) (most := most) (inP_and (by omega)))
          go_enter Try.func16, Try.ntmps16
          go_wp2
          (try simp only [Exit.inBlock, Exit.then])
          refine bodyPost_ret (v := .tuple #[.agg #[.int .i64 _, .int .i64 _], .int .i64 _]) ?_ rfl (next_ret E.out ?_)
          · rw [results_cell_tmp rfl]
            go_simp
          · exact (Below.refl _ _).alloc (Nat.le_refl _) _
        · skip
          by_cases h4 : r < 0
          · have E := hide (next_bad (seen := seen) (r := r) (most := most) (inP_and (by omega)))
            go_enter Try.func16, Try.ntmps16
            go_wp2
            (try simp only [Exit.inBlock, Exit.then])
            refine bodyPost_ret (v := .tuple #[.agg #[.int .i64 _, .int .i64 _], .int .i64 _]) ?_ rfl (next_ret E.out ?_)
            · rw [results_cell_tmp rfl]
              go_simp
            · exact (Below.refl _ _).alloc (Nat.le_refl _) _
          · skip
            by_cases h5 : 255 < r
            · have E := hide (next_bad (seen := seen) (r := r) (most := most) (inP_and (by omega)))
              go_enter Try.func16, Try.ntmps16
              go_wp2
              (try simp only [Exit.inBlock, Exit.then])
              refine bodyPost_ret (v := .tuple #[.agg #[.int .i64 _, .int .i64 _], .int .i64 _]) ?_ rfl (next_ret E.out ?_)
              · rw [results_cell_tmp rfl]
                go_simp
              · exact (Below.refl _ _).alloc (Nat.le_refl _) _
            · skip
              have T := hide (inP_all (a := seen) (b := most) (c := r) (by omega))
              by_cases h6 : most ≤ seen
              · have E := hide (next_end T.out h6)
                go_enter Try.func16, Try.ntmps16
                go_wp2
                (try simp only [Exit.inBlock, Exit.then])
                refine bodyPost_ret (v := .tuple #[.agg #[.int .i64 _, .int .i64 _], .int .i64 _]) ?_ rfl (next_ret E.out ?_)
                · rw [results_cell_tmp rfl]
                  go_simp
                · exact (Below.refl _ _).alloc (Nat.le_refl _) _
              · have E := hide (next_good T.out (by omega))
                go_enter Try.func16, Try.ntmps16
                go_wp2
                (try simp only [Exit.inBlock, Exit.then])
                refine bodyPost_ret (v := .tuple #[.agg #[.int .i64 _, .int .i64 _], .int .i64 _]) ?_ rfl (next_ret E.out ?_)
                · rw [results_cell_tmp rfl]
                  go_simp
                · exact (Below.refl _ _).alloc (Nat.le_refl _) _
end Go.Proofs.Ytmmnnmljilhahaa
