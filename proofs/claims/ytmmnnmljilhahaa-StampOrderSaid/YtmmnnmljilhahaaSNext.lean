/-
  Contracts of package stamp: Next, Of. No conditions but that the numbers are of the machine's.
-/
import Derived.Test.YtmmnnmljilhahaaSTurn
import Derived.Laws.ResultCell
namespace Go.Proofs.Ytmmnnmljilhahaa
open Go.RowKit
set_option linter.unusedVariables false

/-- What Next leaves. -/
def NextRet (seen r most : Int) (w : World) (e : Ending) (w' : World) : Prop :=
  e = .returned (.tuple #[.agg #[.int .i64 (nxN seen r most), .int .i64 (nxR seen r most)], .int .i64 (nxE seen r most)]) ∧ Below w.heap.size w w'
/-- What Of leaves. -/
def OfRet (i : Int) (w : World) (e : Ending) (w' : World) : Prop :=
  e = .returned (.tuple #[.agg #[.int .i64 (ofN i), .int .i64 (ofR i)], .bool (ofB i)]) ∧ Below w.heap.size w w'

theorem next_bad {seen r most : Int} (h : (inP seen 0 16777215 && inP most 0 16777215 && inP r 0 255) = false) : nxN seen r most = 0 ∧ nxR seen r most = 0 ∧ nxE seen r most = 1 := by
  refine ⟨?_, ?_, ?_⟩
  · unfold nxN; rw [h]; rfl
  · unfold nxR; rw [h]; rfl
  · unfold nxE; rw [h]; rfl
theorem next_end {seen r most : Int} (h : (inP seen 0 16777215 && inP most 0 16777215 && inP r 0 255) = true) (h2 : most ≤ seen) : nxN seen r most = 0 ∧ nxR seen r most = 0 ∧ nxE seen r most = 5 := by
  have d : decide (seen < most) = false := by simp; omega
  refine ⟨?_, ?_, ?_⟩
  · unfold nxN; rw [h, d]; rfl
  · unfold nxR; rw [h, d]; rfl
  · unfold nxE; rw [h, d]; rfl
theorem next_good {seen r most : Int} (h : (inP seen 0 16777215 && inP most 0 16777215 && inP r 0 255) = true) (h2 : seen < most) : nxN seen r most = seen + 1 ∧ nxR seen r most = r ∧ nxE seen r most = 0 := by
  have d : decide (seen < most) = true := by simp; omega
  refine ⟨?_, ?_, ?_⟩
  · unfold nxN; rw [h, d]; rfl
  · unfold nxR; rw [h, d]; rfl
  · unfold nxE; rw [h, d]; rfl

theorem next_ret {seen r most a b c : Int} {w w' : World} (h : nxN seen r most = a ∧ nxR seen r most = b ∧ nxE seen r most = c) (hb : Below w.heap.size w w') :
    NextRet seen r most w (.returned (.tuple #[.agg #[.int .i64 a, .int .i64 b], .int .i64 c])) w' := by
  obtain ⟨rfl, rfl, rfl⟩ := h
  exact ⟨rfl, hb⟩
theorem of_ret {i a b : Int} {c : Bool} {w w' : World} (h : ofN i = a ∧ ofR i = b ∧ ofB i = c) (hb : Below w.heap.size w w') :
    OfRet i w (.returned (.tuple #[.agg #[.int .i64 a, .int .i64 b], .bool c])) w' := by
  obtain ⟨rfl, rfl, rfl⟩ := h
  exact ⟨rfl, hb⟩

theorem next_any (seen r most : Int) (w : World) : Calls Try.prog 15 #[.int .i64 seen, .int .i64 r, .int .i64 most] w (NextRet seen r most w) := by
  go_enter Try.func15, Try.ntmps15
  go_wp2_with fail
  refine (within_any seen 0 16777215 _).mono ?_
  rintro e w1 ⟨rfl, rfl⟩
  cases h1 : inP seen 0 16777215 with
  | false =>
    have E := hide (next_bad (seen := seen) (r := r) (most := most) (by rw [h1]; rfl))
    clear h1
    go_wp2
    (try simp only [Exit.inBlock, Exit.then])
    refine bodyPost_ret (v := .tuple #[.agg #[.int .i64 _, .int .i64 _], .int .i64 _]) ?_ rfl (next_ret E.out ?_)
    · rw [results_cell_tmp rfl]
      go_simp
    · exact (Below.refl _ _).alloc (Nat.le_refl _) _
  | true =>
    have H1 := hide h1
    clear h1
    go_wp2_with fail
    refine (within_any most 0 16777215 _).mono ?_
    rintro e w1 ⟨rfl, rfl⟩
    cases h2 : inP most 0 16777215 with
    | false =>
      have E := hide (next_bad (seen := seen) (r := r) (most := most) (by rw [H1.out, h2]; rfl))
      clear h2
      go_wp2
      (try simp only [Exit.inBlock, Exit.then])
      refine bodyPost_ret (v := .tuple #[.agg #[.int .i64 _, .int .i64 _], .int .i64 _]) ?_ rfl (next_ret E.out ?_)
      · rw [results_cell_tmp rfl]
        go_simp
      · exact (Below.refl _ _).alloc (Nat.le_refl _) _
    | true =>
      have H2 := hide h2
      clear h2
      go_wp2_with fail
      refine (replica_any r _).mono ?_
      rintro e w1 ⟨rfl, rfl⟩
      cases h3 : inP r 0 255 with
      | false =>
        have E := hide (next_bad (seen := seen) (r := r) (most := most) (by rw [H1.out, H2.out, h3]; rfl))
        clear h3
        go_wp2
        (try simp only [Exit.inBlock, Exit.then])
        refine bodyPost_ret (v := .tuple #[.agg #[.int .i64 _, .int .i64 _], .int .i64 _]) ?_ rfl (next_ret E.out ?_)
        · rw [results_cell_tmp rfl]
          go_simp
        · exact (Below.refl _ _).alloc (Nat.le_refl _) _
      | true =>
        have T := hide (show (inP seen 0 16777215 && inP most 0 16777215 && inP r 0 255) = true by rw [H1.out, H2.out, h3]; rfl)
        clear h3
        by_cases h4 : most ≤ seen
        · have E := hide (next_end T.out h4)
          go_wp2
          (try simp only [Exit.inBlock, Exit.then])
          refine bodyPost_ret (v := .tuple #[.agg #[.int .i64 _, .int .i64 _], .int .i64 _]) ?_ rfl (next_ret E.out ?_)
          · rw [results_cell_tmp rfl]
            go_simp
          · exact (Below.refl _ _).alloc (Nat.le_refl _) _
        · have E := hide (next_good T.out (by omega))
          obtain ⟨g1, g2⟩ := inP_t H1.out
          go_wp2
          (try simp only [Exit.inBlock, Exit.then])
          refine bodyPost_ret (v := .tuple #[.agg #[.int .i64 _, .int .i64 _], .int .i64 _]) ?_ rfl (next_ret E.out ?_)
          · rw [results_cell_tmp rfl]
            go_simp
          · exact (Below.refl _ _).alloc (Nat.le_refl _) _

theorem of_any (i : Int) (w : World) (h0 : -9223372036854775808 ≤ i) (h1 : i ≤ 9223372036854775807) : Calls Try.prog 17 #[.int .i64 i] w (OfRet i w) := by
  have K := hide (sright_any (i.tdiv 256) (i.tmod 256))
  unfold st at K
  have E1 := hide (show stR (i.tdiv 256) (i.tmod 256) = false → ofN i = 0 ∧ ofR i = 0 ∧ ofB i = false from fun h => ⟨by simp [ofN, ofB, h], by simp [ofR, ofB, h], by simp [ofB, h]⟩)
  have E2 := hide (show stR (i.tdiv 256) (i.tmod 256) = true → ofN i = i.tdiv 256 ∧ ofR i = i.tmod 256 ∧ ofB i = true from fun h => ⟨by simp [ofN, ofB, h], by simp [ofR, ofB, h], by simp [ofB, h]⟩)
  go_enter Try.func17, Try.ntmps17
  go_wp2_with fail
  refine (K.out _).mono ?_
  rintro e w1 ⟨rfl, hb⟩
  have r0 : w1.heap[w.heap.size]? = some (.cells #[.int .i64 0, .int .i64 0] 23 (0, 0)) := by
    rw [hb.block _ (by simp; omega), heap_alloc2_old]
  have r1 : w1.heap[w.heap.size + 1]? = some (.cells #[.int .i64 (i.tdiv 256), .int .i64 (i.tmod 256)] 23 (0, 0)) := by
    rw [hb.block _ (by simp), heap_alloc2_new]
  have c0 : w1.cell? ⟨w.heap.size, 0, none⟩ = some (.int .i64 0) := by rw [cell_of_row w1 _ 0 _ _ (0, 0) r0]; rfl
  have c1 : w1.cell? ⟨w.heap.size, 1, none⟩ = some (.int .i64 0) := by rw [cell_of_row w1 _ 1 _ _ (0, 0) r0]; rfl
  have d0 : w1.cell? ⟨w.heap.size + 1, 0, none⟩ = some (.int .i64 (i.tdiv 256)) := by rw [cell_of_row w1 _ 0 _ _ (0, 0) r1]; rfl
  have d1 : w1.cell? ⟨w.heap.size + 1, 1, none⟩ = some (.int .i64 (i.tmod 256)) := by rw [cell_of_row w1 _ 1 _ _ (0, 0) r1]; rfl
  have z0 := frozen_of_row w1 _ 0 _ _ r0
  have z1 := frozen_of_row w1 _ 1 _ _ r0
  have B1 := hide ((((Below.refl w.heap.size w).alloc (Nat.le_refl _) (.cells #[.int .i64 0, .int .i64 0] 23)).alloc (by simp) _).trans (hb.mono (by simp; omega)))
  clear hb r0 r1
  cases h1 : stR (i.tdiv 256) (i.tmod 256) with
  | false =>
    have E := hide (E1.out h1)
    clear h1 E1 E2
    go_wp2
    (try simp only [Exit.inBlock, Exit.then])
    refine bodyPost_ret (v := .tuple #[.agg #[.int .i64 _, .int .i64 _], .bool _]) ?_ rfl (of_ret E.out ?_)
    · rw [results_cell_tmp rfl]
      go_simp
    · exact (B1.out.setCell (Nat.le_refl _) _).setCell (Nat.le_refl _) _
  | true =>
    have E := hide (E2.out h1)
    clear h1 E1 E2
    go_wp2
    (try simp only [Exit.inBlock, Exit.then])
    refine bodyPost_ret (v := .tuple #[.agg #[.int .i64 _, .int .i64 _], .bool _]) ?_ rfl (of_ret E.out ?_)
    · rw [results_cell_tmp rfl]
      go_simp
    · exact (B1.out.setCell (Nat.le_refl _) _).setCell (Nat.le_refl _) _
end Go.Proofs.Ytmmnnmljilhahaa
