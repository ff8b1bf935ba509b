/-
  Contracts of package stamp: inTurn over two pairs, Cmp. No conditions but that the numbers are of the machine's.
-/
import Derived.Test.YtimfeocaghccdaaGreatDoorSCmp
namespace Go.Proofs.YtimfeocaghccdaaGreatDoor
set_option maxRecDepth 100000
open Go.RowKit
set_option linter.unusedVariables false

/-- Where the loop of inTurn is: the pairs before have not differed. -/
def TurnRel (w : World) (n m r s : Int) (v : Value) (w' : World) : Prop :=
  ∃ i : Nat, i ≤ 2 ∧ v = .int .i64 i ∧ Below w.heap.size w w' ∧ (0 < i → cm n m = 0) ∧ (1 < i → cm r s = 0)

/-- Where the loop of inTurn ends at once: the two pairs lie behind each other. -/
def Two (w : World) (g : Nat) (n m r s : Int) : Prop :=
  w.cell? ⟨g, 0, none⟩ = some (.int .i64 n) ∧ w.cell? ⟨g, 1, none⟩ = some (.int .i64 m) ∧ w.cell? ⟨g, 2, none⟩ = some (.int .i64 r) ∧ w.cell? ⟨g, 3, none⟩ = some (.int .i64 s)
theorem Two.below {w w' : World} {g B : Nat} {n m r s : Int} (h : Two w g n m r s) (hb : Below B w w') (hg : g < B) : Two w' g n m r s :=
  ⟨(hb.cell hg).trans h.1, (hb.cell hg).trans h.2.1, (hb.cell hg).trans h.2.2.1, (hb.cell hg).trans h.2.2.2⟩
theorem Two.new (w : World) (g : Nat) (hg : g = w.heap.size) (n m r s : Int) (t : TypeId) : Two (w.alloc (.cells #[.int .i64 n, .int .i64 m, .int .i64 r, .int .i64 s] t)) g n m r s := by
  subst hg
  exact ⟨cell_at_new _ _ _ 0 _ rfl, cell_at_new _ _ _ 1 _ rfl, cell_at_new _ _ _ 2 _ rfl, cell_at_new _ _ _ 3 _ rfl⟩
theorem Two.lt {w : World} {g : Nat} {n m r s : Int} (h : Two w g n m r s) : g < w.heap.size := World.block_lt_of_cell? w _ h.1

set_option maxHeartbeats 2000000 in
theorem inTurn_any (g : Nat) (n m r s : Int) (w : World) (h : Two w g n m r s) : Calls Tryz.prog 130 #[.slice (some ⟨g, 0, none⟩) 2 2] w (NumRet (stC n r m s) w) := by
  have HT := hide h
  have hg := h.lt
  clear h
  have H1 := hide (show cm n m ≠ 0 → stC n r m s = cm n m from fun h => if_pos h)
  have H2 := hide (show cm n m = 0 → stC n r m s = cm r s from fun h => if_neg (by simpa using h))
  go_enter Tryz.func130, Tryz.ntmps130
  go_wp2_with fail
  go_loopw [8] (TurnRel w n m r s) (fun k _ => 2 - (intOf k).toNat)
  case atStart => exact ⟨0, by omega, rfl, Below.refl _ _, by omega, by omega⟩
  case round =>
    obtain ⟨i, hi, rfl, hb, hc, hd⟩ := hrel
    obtain ⟨c0, c1, c2, c3⟩ := HT.out.below hb hg
    have B := hide hb
    have sz := hb.size
    have C := hide hc
    have D := hide hd
    clear hb hc hd
    have hcase : i = 0 ∨ i = 1 ∨ i = 2 := by omega
    rcases hcase with rfl | rfl | rfl
    · go_wp2_with fail
      refine (compare_any n m _).mono ?_
      rintro e w1 ⟨rfl, rfl⟩
      by_cases h0 : cm n m = 0
      · have Z := hide h0
        rw [h0]
        clear h0
        go_wp2_with fail
        refine ⟨⟨1, by omega, rfl, ?_, fun _ => Z.out, by omega⟩, by simp [intOf]⟩
        exact B.out.alloc sz _
      · have Z := hide (H1.out h0)
        go_wp2
        go_ret
        rw [Z.out]
        exact ⟨rfl, B.out.alloc sz _⟩
    · have Z := hide (H2.out (C.out (by omega)))
      go_wp2_with fail
      refine (compare_any r s _).mono ?_
      rintro e w1 ⟨rfl, rfl⟩
      by_cases h0 : cm r s = 0
      · have Y := hide h0
        rw [h0]
        clear h0
        go_wp2_with fail
        refine ⟨⟨2, by omega, rfl, ?_, fun _ => C.out (by omega), fun _ => Y.out⟩, by simp [intOf]⟩
        exact B.out.alloc sz _
      · go_wp2
        go_ret
        rw [Z.out]
        exact ⟨rfl, B.out.alloc sz _⟩
    · have Z := hide (H2.out (C.out (by omega)))
      have hC := hide (D.out (by omega))
      go_wp2
      go_ret
      rw [Z.out, hC.out]
      exact ⟨rfl, B.out⟩

theorem scmp_any (n r m s : Int) (w : World) : Calls Tryz.prog 109 #[st n r, st m s] w (NumRet (stC n r m s) w) := by
  unfold st
  go_enter Tryz.func109, Tryz.ntmps109
  go_wp2_with fail
  refine (inTurn_any _ n m r s _ ?_).mono ?_
  · exact Two.new _ _ (by simp) n m r s _
  rintro e w1 ⟨rfl, hb⟩
  go_wp2
  go_ret
  refine ⟨rfl, ?_⟩
  have h3 := ((Below.refl w.heap.size w).alloc (Nat.le_refl _) (.cells #[.int .i64 n, .int .i64 r] 48)).alloc (by simp) (.cells #[.int .i64 m, .int .i64 s] 48)
  exact (h3.alloc (by simp; omega) _).trans (hb.mono (by simp; omega))
end Go.Proofs.YtimfeocaghccdaaGreatDoor
