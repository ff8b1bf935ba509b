/-
  The sum as plain numbers: by halves of a byte with a table, bit by bit, its four bytes. No program, no world; no conditions beyond those that each statement bears.
-/
import Derived.Test.YtdflpciabdjhnaaBase
import Derived.Test.YtdflpciabdjhnaaCrc
import Derived.Laws.BitsAllLaws
namespace Go.Proofs.Ytdflpciabdjhnaa
open Go.RowKit

/-- What four bits that are taken off turn in all. -/
def tabN (i : Nat) : Nat := [0, 498536548, 997073096, 651767980, 1994146192, 1802195444, 1303535960, 1342533948, 3988292384, 4027552580, 3604390888, 3412177804, 2607071920, 2262029012, 2685067896, 3183342108].getD i 0
theorem tab_lt : ∀ i, i < 16 → tabN i < 4294967296 := by decide
theorem tab_run : ∀ i, i < 16 → runB (BitVec.ofNat 32 i) [false, false, false, false] = BitVec.ofNat 32 (tabN i) := by decide

theorem shl_bit (y : BitVec 32) (i n : Nat) (h : i < 32) (hn : n ≤ i) : (y <<< n).getLsbD i = y.getLsbD (i - n) := by
  simp only [BitVec.getLsbD_shiftLeft, h, Nat.not_lt.2 hn, decide_true, decide_false, Bool.not_false, Bool.true_and]
theorem run_shl4 (y : BitVec 32) (h : y.toNat < 268435456) : runB (y <<< 4) [false, false, false, false] = y := by
  have hb : ∀ i, 28 ≤ i → y.getLsbD i = false := by
    intro i hi
    rw [BitVec.getLsbD]
    apply Nat.testBit_lt_two_pow
    have := Nat.pow_le_pow_right (show 0 < 2 by omega) hi
    omega
  have e4 : y <<< 4 = (y <<< 3) <<< 1 := by rw [BitVec.shiftLeft_add y 3 1]
  have e3 : y <<< 3 = (y <<< 2) <<< 1 := by rw [BitVec.shiftLeft_add y 2 1]
  have e2 : y <<< 2 = (y <<< 1) <<< 1 := by rw [BitVec.shiftLeft_add y 1 1]
  simp only [runB]
  rw [e4, st_shift _ (by rw [shl_bit _ _ _ (by omega) (by omega)]; exact hb _ (by omega)),
    e3, st_shift _ (by rw [shl_bit _ _ _ (by omega) (by omega)]; exact hb _ (by omega)),
    e2, st_shift _ (by rw [shl_bit _ _ _ (by omega) (by omega)]; exact hb _ (by omega)),
    st_shift _ (hb _ (by omega))]
theorem split16 (y : Nat) : BitVec.ofNat 32 y = BitVec.ofNat 32 (y / 16) <<< 4 ^^^ BitVec.ofNat 32 (y % 16) := by
  apply BitVec.eq_of_getLsbD_eq
  intro i hi
  simp only [BitVec.getLsbD_xor, BitVec.getLsbD_shiftLeft, BitVec.getLsbD_ofNat, hi, decide_true, Bool.true_and]
  rw [show (16 : Nat) = 2 ^ 4 by rfl, Nat.testBit_mod_two_pow]
  by_cases h4 : i < 4
  · simp [h4]
  · simp [h4]
    rw [show (16 : Nat) = 2 ^ 4 by rfl, Nat.testBit_div_two_pow]
    rw [show i - 4 + 4 = i by omega]
    simp [show i - 4 < 32 by omega]
/-- Four bits are taken off at once. -/
theorem run_half (y : Nat) (h : y < 4294967296) : runB (BitVec.ofNat 32 y) [false, false, false, false] = BitVec.ofNat 32 (y / 16 ^^^ tabN (y % 16)) := by
  rw [split16 y]
  have e := runB_lin (BitVec.ofNat 32 (y / 16) <<< 4) (BitVec.ofNat 32 (y % 16)) [false, false, false, false] [false, false, false, false] rfl
  simp only [List.zipWith_cons_cons, List.zipWith_nil_left, Bool.xor_false] at e
  rw [e, run_shl4 _ (by rw [BitVec.toNat_ofNat]; omega), tab_run _ (by omega), BitVec.ofNat_xor]
theorem word_byte (c : UInt8) : word (bits8 c) = BitVec.ofNat 32 c.toNat := by
  apply BitVec.eq_of_getLsbD_eq
  intro i hi
  rw [word_bit _ _ hi, BitVec.getLsbD_ofNat]
  by_cases h8 : i < 8
  · simp [bits8, h8, hi]
  · have : c.toNat.testBit i = false := by
      apply Nat.testBit_lt_two_pow
      have := c.toNat_lt
      have := Nat.pow_le_pow_right (show 0 < 2 by omega) (show 8 ≤ i by omega)
      omega
    simp [bits8, h8, this]
/-- A byte is taken in, by its halves. -/
theorem run_byte (x : Nat) (c : UInt8) (y1 y2 y3 : Nat) (h : x < 4294967296) (h1 : y1 = x ^^^ c.toNat) (h2 : y2 = y1 / 16 ^^^ tabN (y1 % 16)) (h3 : y3 = y2 / 16 ^^^ tabN (y2 % 16)) :
    runB (BitVec.ofNat 32 x) (bits8 c) = BitVec.ofNat 32 y3 ∧ y1 < 4294967296 ∧ y2 < 4294967296 ∧ y3 < 4294967296 := by
  have hc := c.toNat_lt
  have l1 : y1 < 4294967296 := by rw [h1]; exact Nat.xor_lt_two_pow (n := 32) h (by omega)
  have l2 : y2 < 4294967296 := by rw [h2]; exact Nat.xor_lt_two_pow (n := 32) (by omega) (tab_lt _ (by omega))
  have l3 : y3 < 4294967296 := by rw [h3]; exact Nat.xor_lt_two_pow (n := 32) (by omega) (tab_lt _ (by omega))
  refine ⟨?_, l1, l2, l3⟩
  rw [runB_word _ _ (by simp [bits8_length]), bits8_length, word_byte, ← BitVec.ofNat_xor, ← h1]
  rw [show List.replicate 8 false = [false, false, false, false] ++ [false, false, false, false] by rfl, runB_append, run_half _ l1, ← h2, run_half _ l2, ← h3]

/-- The sum behind a sum, as a number. -/
def sumN (s : Nat) (l : List UInt8) : Nat := (crc (BitVec.ofNat 32 s) l).toNat
theorem sumN_lt (s : Nat) (l : List UInt8) : sumN s l < 4294967296 := (crc (BitVec.ofNat 32 s) l).isLt
theorem sumN_nil (s : Nat) (h : s < 4294967296) : sumN s [] = s := by
  simp [sumN, crc, bitsL, runB, BitVec.not_not]
  omega
theorem sumN_join (s : Nat) (a b : List UInt8) : sumN s (a ++ b) = sumN (sumN s a) b := by
  unfold sumN
  rw [crc_join, BitVec.ofNat_toNat, BitVec.setWidth_eq]
theorem not_ofNat (x : Nat) (h : x < 4294967296) : ~~~ (BitVec.ofNat 32 x) = BitVec.ofNat 32 (4294967295 - x) := by
  apply BitVec.eq_of_toNat_eq
  rw [BitVec.toNat_not, BitVec.toNat_ofNat, BitVec.toNat_ofNat]
  omega
/-- The number that is left, with all bits turned, is the sum. -/
theorem sumN_end (s x : Nat) (l : List UInt8) (hs : s < 4294967296) (hx : x < 4294967296) (h : BitVec.ofNat 32 x = runB (BitVec.ofNat 32 (4294967295 - s)) (bitsL l)) : sumN s l = 4294967295 - x := by
  unfold sumN crc
  rw [not_ofNat s hs, ← h, BitVec.toNat_not, BitVec.toNat_ofNat]
  omega
theorem bitsL_take (l : List UInt8) (j : Nat) (h : j < l.length) : bitsL (l.take (j + 1)) = bitsL (l.take j) ++ bits8 l[j] := by
  rw [List.take_add_one, List.getElem?_eq_getElem h, bitsL_append]
  simp [bitsL]
theorem not_bits (x : Nat) (h : x < 4294967296) : bits .xor .u32 IntKind.u32.max (x : Int) = ((4294967295 - x : Nat) : Int) := by
  have hm : IntKind.u32.max = ((4294967295 : Nat) : Int) := rfl
  rw [hm, u32_xor_nat _ _ (by omega) h]
  congr 1
  have e := congrArg BitVec.toNat (not_ofNat x h)
  rw [show ~~~ (BitVec.ofNat 32 x) = BitVec.allOnes 32 ^^^ BitVec.ofNat 32 x from (BitVec.allOnes_xor).symm] at e
  rw [BitVec.toNat_xor, BitVec.toNat_allOnes, BitVec.toNat_ofNat, BitVec.toNat_ofNat, Nat.mod_eq_of_lt h, Nat.mod_eq_of_lt (by omega)] at e
  exact e
end Go.Proofs.Ytdflpciabdjhnaa
