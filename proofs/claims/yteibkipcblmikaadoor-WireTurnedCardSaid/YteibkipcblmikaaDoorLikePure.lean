/-
  Bits that are turned, as plain lists: two lists of bytes that differ by a third one; sums differ by what that one's bits give. No conditions beyond those that each statement bears.
-/
import Derived.Test.YteibkipcblmikaaDoorM6
namespace Go.Proofs.YteibkipcblmikaaDoor
open Go.RowKit

/-- The first i of n bytes have the bits of d turned. -/
def mixL (n : Nat) (a d : List UInt8) (i : Nat) : List UInt8 := (List.range n).map fun j => if j < i then a.getD j 0 ^^^ d.getD j 0 else a.getD j 0
theorem mixL_length (n : Nat) (a d : List UInt8) (i : Nat) : (mixL n a d i).length = n := by simp [mixL]
theorem mixL_zero (n : Nat) (a d : List UInt8) (h : n ≤ a.length) : mixL n a d 0 = a.take n := by
  apply List.ext_getElem
  · simp [mixL]; omega
  · intro j h1 h2
    have : j < n := by simpa [mixL] using h1
    simp [mixL, List.getD, List.getElem?_eq_getElem (show j < a.length by omega)]
theorem mixL_get (n : Nat) (a d : List UInt8) (i : Nat) (h : i < n) : (mixL n a d i)[i]? = some (a.getD i 0) := by
  simp [mixL, h]
theorem mixL_set (n : Nat) (a d : List UInt8) (i : Nat) : (mixL n a d i).set i (a.getD i 0 ^^^ d.getD i 0) = mixL n a d (i + 1) := by
  apply List.ext_getElem
  · simp [mixL]
  · intro j h1 h2
    have hj : j < n := by simpa [mixL] using h2
    rw [List.getElem_set]
    by_cases hij : i = j
    · subst hij
      simp [mixL]
    · by_cases hlt : j < i
      · simp [mixL, hij, hlt, show j < i + 1 by omega]
      · simp [mixL, hij, hlt, show ¬ j < i + 1 by omega]
theorem mixL_full (n : Nat) (a d : List UInt8) (h : n ≤ a.length) (h' : n ≤ d.length) : mixL n a d n = List.zipWith (· ^^^ ·) (a.take n) (d.take n) := by
  apply List.ext_getElem
  · simp [mixL]; omega
  · intro j h1 h2
    have hj : j < n := by simpa [mixL] using h1
    simp [mixL, hj, List.getD, List.getElem?_eq_getElem (show j < a.length by omega), List.getElem?_eq_getElem (show j < d.length by omega)]
theorem bits8_xor (c e : UInt8) : List.zipWith (· ^^ ·) (bits8 c) (bits8 (c ^^^ e)) = bits8 e := by
  apply List.ext_getElem
  · simp [bits8]
  · intro j h1 h2
    have : j < 8 := by simpa [bits8] using h2
    simp only [bits8, List.getElem_zipWith, List.getElem_map, List.getElem_range, UInt8.toNat_xor, Nat.testBit_xor]
    cases c.toNat.testBit j <;> cases e.toNat.testBit j <;> rfl
theorem bitsL_cons (c : UInt8) (t : List UInt8) : bitsL (c :: t) = bits8 c ++ bitsL t := by simp [bitsL]
theorem bitsL_xor (a d : List UInt8) (h : a.length = d.length) : List.zipWith (· ^^ ·) (bitsL a) (bitsL (List.zipWith (· ^^^ ·) a d)) = bitsL d := by
  induction a generalizing d with
  | nil =>
    cases d with
    | nil => rfl
    | cons e t => simp at h
  | cons c s ih =>
    cases d with
    | nil => simp at h
    | cons e t =>
      rw [List.zipWith_cons_cons, bitsL_cons, bitsL_cons, bitsL_cons, List.zipWith_append (by rw [bits8_length, bits8_length]), bits8_xor, ih t (by simpa using h)]
theorem not_xor_not (p q : BitVec 32) : ~~~ p ^^^ ~~~ q = p ^^^ q := by
  rw [← BitVec.not_xor_left, ← BitVec.not_xor_right, BitVec.not_not]
/-- What the sums of two lists of one length differ by. -/
theorem crc_diff (s : BitVec 32) (a b : List UInt8) (h : a.length = b.length) : crc s a ^^^ crc s b = runB 0#32 (List.zipWith (· ^^ ·) (bitsL a) (bitsL b)) := by
  unfold crc
  rw [not_xor_not, runB_diff _ _ _ (by rw [bitsL_length, bitsL_length, h])]
theorem sumN_like (n : Nat) (a d : List UInt8) (h : n ≤ a.length) (h' : n ≤ d.length) : sumN 0 (a.take n) ^^^ sumN 0 (mixL n a d n) = (runB 0#32 (bitsL (d.take n))).toNat := by
  unfold sumN
  rw [← BitVec.toNat_xor, mixL_full n a d h h', crc_diff _ _ _ (by simp; omega), bitsL_xor _ _ (by simp; omega)]
end Go.Proofs.YteibkipcblmikaaDoor
