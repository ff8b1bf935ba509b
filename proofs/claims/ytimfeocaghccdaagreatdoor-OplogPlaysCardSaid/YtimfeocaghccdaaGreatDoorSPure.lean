/-
  Stamps as plain numbers: which are right, how two are to each other, the next one, a number and its stamp. No conditions.
-/
import Derived.Test.YtimfeocaghccdaaGreatDoorBase0
namespace Go.Proofs.YtimfeocaghccdaaGreatDoor
set_option maxRecDepth 100000
open Go.RowKit
set_option linter.unusedVariables false

/-- Whether a number is from a to b. -/
def inP (n a b : Int) : Bool := decide (a ≤ n ∧ n ≤ b)
theorem inP_t {n a b : Int} (h : inP n a b = true) : a ≤ n ∧ n ≤ b := by simpa [inP] using h
theorem inP_f {n a b : Int} (h : inP n a b = false) : n < a ∨ b < n := by simp [inP] at h; omega
/-- Whether a stamp is right. -/
def stR (n r : Int) : Bool := decide ((1 ≤ n ∧ n ≤ 16777215) ∧ 0 ≤ r ∧ r ≤ 255)
theorem stR_t {n r : Int} (h : stR n r = true) : (1 ≤ n ∧ n ≤ 16777215) ∧ 0 ≤ r ∧ r ≤ 255 := by simpa [stR] using h
theorem stR_f {n r : Int} (h : stR n r = false) : ¬ ((1 ≤ n ∧ n ≤ 16777215) ∧ 0 ≤ r ∧ r ≤ 255) := by simpa [stR] using h
/-- A stamp's number. -/
def stI (n r : Int) : Int := if stR n r = true then n * 256 + r else 0
/-- Two numbers against each other. -/
def cm (a b : Int) : Int := if a < b then -1 else if b < a then 1 else 0
/-- Two stamps against each other. -/
def stC (n r m s : Int) : Int := if cm n m ≠ 0 then cm n m else cm r s
/-- The stamp behind those that were seen: its two numbers, and the error. -/
def nxN (seen r most : Int) : Int := if inP seen 0 16777215 && inP most 0 16777215 && inP r 0 255 && decide (seen < most) then seen + 1 else 0
def nxR (seen r most : Int) : Int := if inP seen 0 16777215 && inP most 0 16777215 && inP r 0 255 && decide (seen < most) then r else 0
def nxE (seen r most : Int) : Int := if (inP seen 0 16777215 && inP most 0 16777215 && inP r 0 255) = false then 1 else if decide (seen < most) then 0 else 5
/-- The stamp of a number: whether there is one, its two numbers. -/
def ofB (i : Int) : Bool := stR (i.tdiv 256) (i.tmod 256)
def ofN (i : Int) : Int := if ofB i = true then i.tdiv 256 else 0
def ofR (i : Int) : Int := if ofB i = true then i.tmod 256 else 0
/-- A stamp as a value. -/
def st (n r : Int) : Value := .agg #[.int .i64 n, .int .i64 r]
/-- A stamp that lies in a block. -/
def Bx (w : World) (g : Nat) (n r : Int) : Prop := w.cell? ⟨g, 0, none⟩ = some (.int .i64 n) ∧ w.cell? ⟨g, 1, none⟩ = some (.int .i64 r)
theorem cell_at_new (w : World) (cs : Array Value) (t : TypeId) (j : Nat) (u : Value) (h : cs[j]? = some u) : (w.alloc (.cells cs t)).cell? ⟨w.heap.size, j, none⟩ = some u := by
  rw [cell_of_row _ w.heap.size j cs _ (0, 0) (heap_alloc_new w _), h]
theorem Bx.new (w : World) (n r : Int) (t : TypeId) : Bx (w.alloc (.cells #[.int .i64 n, .int .i64 r] t)) w.heap.size n r := ⟨cell_at_new _ _ _ 0 _ rfl, cell_at_new _ _ _ 1 _ rfl⟩
theorem Bx.below {w w' : World} {g B : Nat} {n r : Int} (h : Bx w g n r) (hb : Below B w w') (hg : g < B) : Bx w' g n r := ⟨(hb.cell hg).trans h.1, (hb.cell hg).trans h.2⟩
theorem Bx.lt {w : World} {g : Nat} {n r : Int} (h : Bx w g n r) : g < w.heap.size := World.block_lt_of_cell? w _ h.1
theorem Bx.alloc {w : World} {g : Nat} {n r : Int} (h : Bx w g n r) (o : Obj) : Bx (w.alloc o) g n r := h.below ((Below.refl w.heap.size w).alloc (Nat.le_refl _) o) h.lt
end Go.Proofs.YtimfeocaghccdaaGreatDoor
