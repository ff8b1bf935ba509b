/-
  The document's Right and Texts: they answer as the plain functions say; nothing that was there is changed. No conditions beyond those that each statement bears.
-/
import Derived.Test.YtimfeocaghccdaaDoorNFormed
namespace Go.Proofs.YtimfeocaghccdaaDoor
set_option maxRecDepth 100000
open Go.RowKit
set_option linter.unusedVariables false

/-- Has a text no byte that names can't have, from a place on? -/
def gAt (l : List UInt8) (i : Nat) : Bool := (l.drop i).all fun c => !badB c
theorem gAt_step (l : List UInt8) (i : Nat) (h : i < l.length) : gAt l i = (!badB l[i] && gAt l (i + 1)) := by
  unfold gAt
  rw [List.drop_eq_getElem_cons h, List.all_cons]
theorem right_short (l : List UInt8) (h : l.length < 1 ∨ 20 < l.length) : right l = false := by
  unfold right
  rcases h with h | h
  · rw [decide_eq_false (by omega)]; rfl
  · rw [decide_eq_false (show ¬ l.length ≤ 20 by omega), Bool.and_false]; rfl
theorem right_in (l : List UInt8) (h : 1 ≤ l.length) (h2 : l.length ≤ 20) : right l = (gAt l 0 && formed l) := by
  unfold right okR gAt
  rw [decide_eq_true h, decide_eq_true h2]
  rfl
def RightRel (l : List UInt8) (v : Value) : Prop := ∃ i, i ≤ l.length ∧ v = .int .i64 (i : Int) ∧ gAt l i = gAt l 0
/-- Below this the world is as it was; two slices of texts are alike so far. -/
def TextsRel (w : World) (a b : List (List UInt8)) (v : Value) (wr : World) : Prop := ∃ i, i ≤ a.length ∧ v = .int .i64 (i : Int) ∧ a.take i = b.take i ∧ Below w.heap.size w wr
end Go.Proofs.YtimfeocaghccdaaDoor
