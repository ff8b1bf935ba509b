/-
  Both arenas, side by side: what Free does to each. Conditions: they tell the same, and not more than a thousand things were put.
-/
import Derived.Test.YtooejagekkgpaaaAArg
import Derived.Test.YtooejagekkgpaaaARef5
namespace Go.Proofs.Ytooejagekkgpaaa
open Go.RowKit
set_option linter.unusedVariables false
set_option linter.unusedSimpArgs false
set_option maxRecDepth 100000

def frA (A : Ar) (p q : Int) : Ar := if (A.get p q).isSome then A.free p.toNat else A
theorem pl_freeA {W V : World} {g1 g2 m i kh : Nat} {A : Ar} {L : List En} {N : Nat} {p q : Int} (b1 : i64B p) (b2 : i64B q) (hi : i ≤ 1000) (hz : Az W V g1 m i A) (hD : Dd W V g2 m L N) (hX : Hb V kh p q) :
    Calls Try.prog 12 #[.pointer (some ⟨g1, 0, none⟩), .agg #[.int .i64 p, .int .i64 q]] V (fun e w' => e = .returned (.bool (A.get p q).isSome) ∧ Az W w' g1 m i (frA A p q) ∧ Dd W w' g2 m L N ∧ Hb w' kh p q) := by
  unfold frA
  cases hg : A.get p q with
  | none =>
    refine (zfree_no p q b1 b2 (by omega) hz hg).mono ?_
    rintro e w' ⟨rfl, h1, h2⟩
    exact ⟨rfl, by simpa using h1, hD.below h2, hX.below h2⟩
  | some x =>
    refine (zfree_any p q x b2 (by omega) hz hg).mono ?_
    rintro e w' ⟨rfl, h1, h2⟩
    exact ⟨rfl, by simpa using h1, hD.kp h2 h1.bel, hX.kp h2⟩
theorem pl_freeD {W V : World} {g1 g2 m i kh : Nat} {A : Ar} {L : List En} {N : Nat} {p q : Int} (hT : Tied A L N) (hL : L.length ≤ i) (hN : N ≤ i) (hi : i ≤ 1000) (hz : Az W V g1 m i (frA A p q)) (hD : Dd W V g2 m L N) (hX : Hb V kh p q) :
    Calls Try.prog 13 #[.pointer (some ⟨g2, 0, none⟩), .agg #[.int .i64 p, .int .i64 q]] V (fun e w' => e = .returned (.bool (A.get p q).isSome) ∧ (∃ L1 N1, Tied (frA A p q) L1 N1 ∧ L1.length ≤ i + 1 ∧ N1 ≤ i + 1 ∧ Dd W w' g2 m L1 N1) ∧ Az W w' g1 m i (frA A p q) ∧ Hb w' kh p q) := by
  unfold frA at *
  cases hg : A.get p q with
  | none =>
    rw [hg] at hz
    obtain ⟨a, c, hM, _, _⟩ := hD.dm
    refine (rfree_no g2 m N _ L A p q hT hg (by omega) V hM).mono ?_
    rintro e w' ⟨rfl, h2⟩
    exact ⟨rfl, ⟨L, N, by simpa using hT, by omega, by omega, hD.below h2⟩, hz.below h2, hX.below h2⟩
  | some x =>
    rw [hg] at hz
    refine (rfree_any W g2 m N L A p q x hT hg (by omega) (by omega) V hD).mono ?_
    rintro e w' ⟨j, hj, hh, rfl, h1, h2⟩
    refine ⟨rfl, ⟨_, N + 1, ?_, ?_, by omega, h1⟩, hz.kd h2 h1.bel, hX.kd h2⟩
    · have := hT.freeAt j hj hh
      simpa using this
    · rw [List.length_set]
      omega
theorem handle_neq (a b : Int) (w : World) : (binOp .neq 31 (.agg #[.int .i64 a, .int .i64 b]) (.agg #[.int .i64 a, .int .i64 b])).run Try.prog w = .ok (.bool false) w := by
  have u3 := Try.underlying3
  have a3 := Try.isAgg3
  have z3 := Try.sizeOf3
  rw [run_neq_struct, show (10000 : Nat) = 9998 + 1 + 1 from rfl, run_equalIn_agg w (9998 + 1) 31 _ _ (by kernel_rfl) (by kernel_rfl)]
  simp only [Program.fieldsOf, Try.underlying31]
  go_simp
end Go.Proofs.Ytooejagekkgpaaa
