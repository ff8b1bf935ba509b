/-
  Package op, as plain functions over numbers and lists of bytes: a node's number, a right operation, how two stand to each other, an operation's bytes; an operation as a value and in a block. No conditions.
-/
import Derived.Test.YtimfeocaghccdaaGreatDoorPure
import Derived.Test.YtimfeocaghccdaaGreatDoorNBase
import Derived.Test.YtimfeocaghccdaaGreatDoorSPure
import Derived.Lib.Bytealg
namespace Go.Proofs.YtimfeocaghccdaaGreatDoor
set_option maxRecDepth 100000
open Go.RowKit
set_option linter.unusedVariables false

/-- A node's number. -/
def ndB (n : Int) : Bool := decide (256 ≤ n ∧ n ≤ 4294967295)
/-- What something may be put below. -/
def toB (n : Int) : Bool := decide (n = 0 ∨ n = 1 ∨ 256 ≤ n ∧ n ≤ 4294967295)
/-- A right operation. -/
def opR (n r d t : Int) (l : List UInt8) : Bool := stR n r && ndB d && toB t && right l
/-- Two names against each other. -/
def cN (a b : List UInt8) : Int := Lib.compareBytes a b
/-- Two operations against each other. -/
def opC (n r d t : Int) (l : List UInt8) (m s e u : Int) (k : List UInt8) : Int :=
  if stC n r m s ≠ 0 then stC n r m s else if cm d e ≠ 0 then cm d e else if cm t u ≠ 0 then cm t u else cN l k
/-- An operation's bytes. -/
def opB (n r d t : Int) (l : List UInt8) : List UInt8 := if opR n r d t l = true then num n ++ num r ++ num d ++ num t ++ txt l else []
/-- An operation as a value. -/
def opv (n r d t : Int) (l : List UInt8) : Value := .agg #[.int .i64 n, .int .i64 r, .int .i64 d, .int .i64 t, .string (bs l)]
/-- An operation that lies in a block. -/
def Bo (w : World) (g : Nat) (n r d t : Int) (l : List UInt8) : Prop :=
  w.cell? ⟨g, 0, none⟩ = some (.int .i64 n) ∧ w.cell? ⟨g, 1, none⟩ = some (.int .i64 r) ∧ w.cell? ⟨g, 2, none⟩ = some (.int .i64 d) ∧ w.cell? ⟨g, 3, none⟩ = some (.int .i64 t) ∧ w.cell? ⟨g, 4, none⟩ = some (.string (bs l))
theorem Bo.new (w : World) (n r d t : Int) (l : List UInt8) (ty : TypeId) : Bo (w.alloc (.cells #[.int .i64 n, .int .i64 r, .int .i64 d, .int .i64 t, .string (bs l)] ty)) w.heap.size n r d t l :=
  ⟨cell_at_new _ _ _ 0 _ rfl, cell_at_new _ _ _ 1 _ rfl, cell_at_new _ _ _ 2 _ rfl, cell_at_new _ _ _ 3 _ rfl, cell_at_new _ _ _ 4 _ rfl⟩
theorem Bo.below {w w' : World} {g B : Nat} {n r d t : Int} {l : List UInt8} (h : Bo w g n r d t l) (hb : Below B w w') (hg : g < B) : Bo w' g n r d t l :=
  ⟨(hb.cell hg).trans h.1, (hb.cell hg).trans h.2.1, (hb.cell hg).trans h.2.2.1, (hb.cell hg).trans h.2.2.2.1, (hb.cell hg).trans h.2.2.2.2⟩
theorem Bo.lt {w : World} {g : Nat} {n r d t : Int} {l : List UInt8} (h : Bo w g n r d t l) : g < w.heap.size := World.block_lt_of_cell? w _ h.1
theorem Bo.alloc {w : World} {g : Nat} {n r d t : Int} {l : List UInt8} (h : Bo w g n r d t l) (o : Obj) : Bo (w.alloc o) g n r d t l := h.below ((Below.refl w.heap.size w).alloc (Nat.le_refl _) o) h.lt

theorem ndB_in {n : Int} (h : 256 ≤ n ∧ n ≤ 4294967295) : ndB n = true := by simp [ndB]; omega
theorem ndB_out {n : Int} (h : ¬ (256 ≤ n ∧ n ≤ 4294967295)) : ndB n = false := by simp [ndB]; omega
theorem ndB_t {n : Int} (h : ndB n = true) : 256 ≤ n ∧ n ≤ 4294967295 := by simpa [ndB] using h
theorem toB_t {n : Int} (h : toB n = true) : n = 0 ∨ n = 1 ∨ 256 ≤ n ∧ n ≤ 4294967295 := by simpa [toB] using h
theorem toB_or (n : Int) : toB n = (ndB n || decide (n = 0) || decide (n = 1)) := by
  unfold toB ndB
  by_cases h0 : n = 0 <;> by_cases h1 : n = 1 <;> simp [h0, h1]
theorem opR_t {n r d t : Int} {l : List UInt8} (h : opR n r d t l = true) : stR n r = true ∧ ndB d = true ∧ toB t = true ∧ right l = true := by
  simp [opR] at h
  exact ⟨h.1.1.1, h.1.1.2, h.1.2, h.2⟩
theorem cm_eq {a b : Int} (h : cm a b = 0) : a = b := by unfold cm at h; split at h <;> (try split at h) <;> omega
theorem cm_self (a : Int) : cm a a = 0 := by simp [cm]
theorem cN_self (a : List UInt8) : cN a a = 0 := by
  unfold cN
  induction a with
  | nil => rfl
  | cons x a ih => simp [Lib.compareBytes, ih, UInt8.lt_irrefl]
theorem cN_eq : ∀ (a b : List UInt8), cN a b = 0 → a = b
  | [], [], _ => rfl
  | [], _ :: _, h => by simp [cN, Lib.compareBytes] at h
  | _ :: _, [], h => by simp [cN, Lib.compareBytes] at h
  | x :: a, y :: b, h => by
    unfold cN Lib.compareBytes at h
    split at h
    · omega
    · split at h
      · omega
      · rename_i h1 h2
        have e : x = y := UInt8.le_antisymm (UInt8.not_lt.1 h2) (UInt8.not_lt.1 h1)
        rw [e, cN_eq a b h]
theorem cN_less : ∀ (a b : List UInt8), Op.bytesLess a b = true → cN a b = -1
  | [], [], h => by simp [Op.bytesLess] at h
  | [], _ :: _, _ => rfl
  | _ :: _, [], h => by simp [Op.bytesLess] at h
  | x :: a, y :: b, h => by
    unfold Op.bytesLess at h
    unfold cN Lib.compareBytes
    by_cases h1 : x < y
    · rw [if_pos h1]
    · rw [if_neg h1]
      simp [h1] at h
      obtain ⟨rfl, h⟩ := h
      rw [if_neg h1]
      exact cN_less a b h
theorem cN_more : ∀ (a b : List UInt8), Op.bytesLess a b = false → a ≠ b → cN a b = 1
  | [], [], _, h => absurd rfl h
  | [], _ :: _, h, _ => by simp [Op.bytesLess] at h
  | _ :: _, [], _, _ => rfl
  | x :: a, y :: b, h, hne => by
    unfold Op.bytesLess at h
    unfold cN Lib.compareBytes
    simp at h
    have h1 : ¬ x < y := UInt8.not_lt.2 h.1
    rw [if_neg h1]
    by_cases h2 : y < x
    · rw [if_pos h2]
    · rw [if_neg h2]
      have e : x = y := UInt8.le_antisymm (UInt8.not_lt.1 h2) (UInt8.not_lt.1 h1)
      subst e
      exact cN_more a b (h.2 rfl) (fun e => hne (by rw [e]))
end Go.Proofs.YtimfeocaghccdaaGreatDoor
