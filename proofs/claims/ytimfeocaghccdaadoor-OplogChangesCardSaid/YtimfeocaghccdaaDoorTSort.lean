/-
  Contracts of what the tree's lists are sorted by: cmp.Or, hold, slices.SortFunc over a row of kids of the program's own. No conditions but that there are not too many.
-/
import Derived.Test.YtimfeocaghccdaaDoorTKids
import Derived.Test.YtimfeocaghccdaaDoorOCmp
import Derived.Test.YtimfeocaghccdaaDoorShelf
import Derived.LoopTactic
import Derived.Lib.SmallJoins
import Derived.Deep.RegionHeld3
namespace Go.Proofs.YtimfeocaghccdaaDoor
set_option maxRecDepth 100000
open Go.RowKit Go.Sort Go.Shelf
set_option linter.unusedVariables false
set_option linter.unusedSimpArgs false
set_option maxRecDepth 100000

/-- The first of three that isn't nought. -/
def orN (a b c : Int) : Int := if a ≠ 0 then a else if b ≠ 0 then b else c
def OrRel (a b c : Int) (v : Value) : Prop := ∃ k : Nat, k ≤ 3 ∧ v = .int .i64 (k : Int) ∧ (1 ≤ k → a = 0) ∧ (2 ≤ k → b = 0) ∧ (3 ≤ k → c = 0)
theorem kF_or (x y : Kd) : kF x y = orN (cm x.to y.to) (cN x.nm y.nm) (cm x.nd y.nd) := kF_eq x y
theorem flat_at (ks : List Kd) (t : Nat) (ht : t < ks.length * 3) : (flatK kc 3 ks.toArray)[t]! = (kcs ks)[t]! := by
  rw [get_flatK _ _ _ t (by simpa using ht)]
  have h1 : t / 3 < ks.length := by omega
  have h2 := kcs_at ks (t / 3) (t % 3) h1 (by omega)
  rw [show t / 3 * 3 + t % 3 = t by omega] at h2
  have h3 : (ks.toArray)[t / 3]! = ks[t / 3] := by simp [h1]
  rw [h3, List.getElem!_eq_getElem?_getD, List.getElem!_eq_getElem?_getD, h2]
end Go.Proofs.YtimfeocaghccdaaDoor
