/-
  Bits that are turned one after the other, as plain lists: what the bytes are then, and that their sum is another one just if a bit was turned. No conditions beyond those that each statement bears.
-/
import Derived.Test.YteibkipcblmikaaDoorBurst
namespace Go.Proofs.YteibkipcblmikaaDoor
open Go.RowKit

/-- Bit p of bytes. -/
def bitOf (l : List UInt8) (p : Nat) : Bool := (l.getD (p / 8) 0).toNat.testBit (p % 8)
theorem bitsL_get (l : List UInt8) (p : Nat) (h : p < (bitsL l).length) : (bitsL l)[p] = bitOf l p := by
  induction l generalizing p with
  | nil => simp [bitsL] at h
  | cons c t ih =>
    have hl := bitsL_length (c :: t)
    have hlt := bitsL_length t
    simp only [bitsL_cons]
    rw [List.getElem_append]
    by_cases h8 : p < 8
    · rw [dif_pos (by rw [bits8_length]; exact h8)]
      simp [bits8, bitOf, Nat.div_eq_of_lt h8, Nat.mod_eq_of_lt h8]
    · rw [dif_neg (by rw [bits8_length]; exact h8)]
      simp only [bits8_length]
      rw [ih (p - 8) (by simp only [List.length_cons] at hl; omega)]
      unfold bitOf
      obtain ⟨d, rfl⟩ := Nat.le.dest (show 8 ≤ p by omega)
      rw [show 8 + d - 8 = d by omega, show (8 + d) / 8 = d / 8 + 1 by omega, show (8 + d) % 8 = d % 8 by omega, List.getD_cons_succ]
/-- One bit of a byte is turned. -/
def flip (c : UInt8) (r : Nat) : UInt8 := b8 (c.toNat ^^^ 2 ^ r)
theorem pow_lt (r : Nat) (h : r < 8) : 2 ^ r < 256 := by
  have := Nat.pow_lt_pow_right (show 1 < 2 by omega) h
  omega
theorem flip_toNat (c : UInt8) (r : Nat) (h : r < 8) : (flip c r).toNat = c.toNat ^^^ 2 ^ r := by
  have := c.toNat_lt
  have := pow_lt r h
  exact b8_toNat _ (Nat.xor_lt_two_pow (n := 8) (by omega) (by omega))
theorem bitOf_flip (l : List UInt8) (q p : Nat) (h : q / 8 < l.length) : bitOf (l.set (q / 8) (flip (l.getD (q / 8) 0) (q % 8))) p = (bitOf l p ^^ decide (p = q)) := by
  unfold bitOf
  by_cases hq : p / 8 = q / 8
  · have e : (l.set (q / 8) (flip (l.getD (q / 8) 0) (q % 8))).getD (p / 8) 0 = flip (l.getD (q / 8) 0) (q % 8) := by
      rw [hq]
      simp [List.getD, h]
    rw [e, flip_toNat _ _ (by omega), Nat.testBit_xor, Nat.testBit_two_pow, hq]
    congr 1
    by_cases hr : q % 8 = p % 8
    · rw [decide_eq_true hr, decide_eq_true (show p = q by omega)]
    · rw [decide_eq_false hr, decide_eq_false (show ¬ p = q by omega)]
  · have e : (l.set (q / 8) (flip (l.getD (q / 8) 0) (q % 8))).getD (p / 8) 0 = l.getD (p / 8) 0 := by
      simp only [List.getD]
      rw [List.getElem?_set_ne (fun h => hq h.symm)]
    rw [e, decide_eq_false (show ¬ p = q by intro h; rw [h] at hq; exact hq rfl)]
    simp
/-- After i of the bits that 'y' tells, from bit k on. -/
def turnL (l : List UInt8) (k y : Nat) : Nat → List UInt8
  | 0 => l
  | i + 1 => if y.testBit i then (turnL l k y i).set ((k + i) / 8) (flip ((turnL l k y i).getD ((k + i) / 8) 0) ((k + i) % 8)) else turnL l k y i
theorem turnL_length (l : List UInt8) (k y i : Nat) : (turnL l k y i).length = l.length := by
  induction i with
  | zero => rfl
  | succ i ih =>
    unfold turnL
    split
    · rw [List.length_set, ih]
    · exact ih
theorem turnL_yes (l : List UInt8) (k y i : Nat) (h : y.testBit i = true) : turnL l k y (i + 1) = (turnL l k y i).set ((k + i) / 8) (flip ((turnL l k y i).getD ((k + i) / 8) 0) ((k + i) % 8)) := by
  rw [turnL, if_pos h]
theorem turnL_no (l : List UInt8) (k y i : Nat) (h : y.testBit i = false) : turnL l k y (i + 1) = turnL l k y i := by
  rw [turnL, if_neg (by rw [h]; decide)]
theorem turnL_bit (l : List UInt8) (k y i p : Nat) (h : k + i ≤ 8 * l.length) : bitOf (turnL l k y i) p = (bitOf l p ^^ decide (k ≤ p ∧ p < k + i ∧ y.testBit (p - k) = true)) := by
  induction i with
  | zero => rw [decide_eq_false (by omega)]; simp [turnL]
  | succ i ih =>
    have ih := ih (by omega)
    cases hy : y.testBit i with
    | false =>
      rw [turnL_no _ _ _ _ hy, ih]
      congr 1
      apply decide_eq_decide.2
      constructor
      · intro h; exact ⟨h.1, by omega, h.2.2⟩
      · intro h
        refine ⟨h.1, ?_, h.2.2⟩
        rcases Nat.lt_or_ge p (k + i) with h' | h'
        · exact h'
        · have : p - k = i := by omega
          rw [this, hy] at h
          exact absurd h.2.2 (by decide)
    | true =>
      rw [turnL_yes _ _ _ _ hy, bitOf_flip _ _ _ (by rw [turnL_length]; omega), ih, Bool.xor_assoc]
      congr 1
      by_cases hp : p = k + i
      · subst hp
        rw [decide_eq_true (show k + i = k + i from rfl), decide_eq_false (by omega), decide_eq_true (show k ≤ k + i ∧ k + i < k + (i + 1) ∧ y.testBit (k + i - k) = true from ⟨by omega, by omega, by rw [show k + i - k = i by omega]; exact hy⟩)]
        rfl
      · rw [decide_eq_false hp, Bool.xor_false]
        apply decide_eq_decide.2
        constructor
        · intro h; exact ⟨h.1, by omega, h.2.2⟩
        · intro h; exact ⟨h.1, by omega, h.2.2⟩
/-- The bits that are turned. -/
def turnD (y i : Nat) : List Bool := (List.range i).map fun j => y.testBit j
theorem turn_diff (l : List UInt8) (k y i : Nat) (h : k + i ≤ 8 * l.length) :
    List.zipWith (· ^^ ·) (bitsL l) (bitsL (turnL l k y i)) = List.replicate k false ++ (turnD y i ++ List.replicate (8 * l.length - k - i) false) := by
  apply List.ext_getElem
  · simp [bitsL_length, turnL_length, turnD]; omega
  · intro p h1 h2
    rw [List.getElem_zipWith, bitsL_get, bitsL_get, turnL_bit _ _ _ _ _ h, ← Bool.xor_assoc, Bool.xor_self, Bool.false_xor]
    rw [List.getElem_append]
    by_cases hk : p < k
    · rw [dif_pos (by simpa using hk), decide_eq_false (by omega)]; simp
    · rw [dif_neg (by simpa using hk), List.getElem_append]
      simp only [List.length_replicate]
      by_cases hi : p < k + i
      · rw [dif_pos (by simp [turnD]; omega)]
        simp [turnD, show k ≤ p by omega, hi]
      · rw [dif_neg (by simp [turnD]; omega), decide_eq_false (by omega)]; simp
/-- Is a bit turned? -/
def turnB (y i : Nat) : Bool := decide (true ∈ turnD y i)
theorem turnB_zero (y : Nat) : turnB y 0 = false := by simp [turnB, turnD]
theorem turnB_yes (y i : Nat) (h : y.testBit i = true) : turnB y (i + 1) = true := by
  simp only [turnB, turnD, List.range_succ, List.map_append, List.map_cons, List.map_nil, h]
  simp
theorem turnB_no (y i : Nat) (h : y.testBit i = false) : turnB y (i + 1) = turnB y i := by
  simp only [turnB, turnD, List.range_succ, List.map_append, List.map_cons, List.map_nil, h]
  simp
/-- BITS THAT ARE TURNED WITHIN 32 SIDE BY SIDE ARE SEEN. -/
theorem turn_seen (l : List UInt8) (k y i : Nat) (h : k + i ≤ 8 * l.length) (hi : i ≤ 32) : decide (four (sumN 0 (turnL l k y i)) = four (sumN 0 l)) = !turnB y i := by
  have hb := sum_burst l (turnL l k y i) (turnL_length l k y i).symm k _ (turnD y i) (by simpa [turnD] using hi) (turn_diff l k y i h)
  unfold turnB
  by_cases ht : true ∈ turnD y i
  · rw [decide_eq_true ht, decide_eq_false]
    · rfl
    · intro hf
      exact hb.1 (four_inj _ _ (sumN_lt _ _) (sumN_lt _ _) hf).symm ht
  · rw [decide_eq_false ht, decide_eq_true]
    · rfl
    · rw [hb.2 ht]
end Go.Proofs.YteibkipcblmikaaDoor
