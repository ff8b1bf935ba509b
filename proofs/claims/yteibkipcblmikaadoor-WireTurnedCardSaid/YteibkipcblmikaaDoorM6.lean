/-
  The plain mathematics of the sum of 32 bits: it goes on, it is linear, and bits that are turned within 32 side by side turn it. No program, no world; no conditions beyond those that each statement bears.
  The sum as plain numbers: by halves of a byte with a table, bit by bit, its four bytes. No program, no world; no conditions beyond those that each statement bears.
  What sum.Then and Of give: the sum as a plain number; nothing that was there is changed. Conditions: the number is one of 32 bits; what is handed in can be read.
  What sum.Four, sum.Is, bytes.Equal and the document's functions of layer 2 give; nothing that was there is changed. Conditions: the number is one of 32 bits; what is handed in can be read.
  What the document's sum (holtref02.Then), bit by bit, gives: the same plain number; nothing that was there is changed. Conditions: the number is one of 32 bits; what is handed in can be read.
-/
import Derived.Below
import Derived.Test.YteibkipcblmikaaDoorM1
import Derived.Laws.BitsAllLaws
namespace Go.Proofs.YteibkipcblmikaaDoor

/-- 3988292384, as 32 bits. -/
def poly : BitVec 32 := 3988292384#32
/-- One bit is taken in. -/
def stp (x : BitVec 32) (b : Bool) : BitVec 32 := (x >>> 1) ^^^ (if x.getLsbD 0 != b then poly else 0#32)
/-- Bits are taken in, one after the other. -/
def runB (x : BitVec 32) : List Bool → BitVec 32
  | [] => x
  | b :: t => runB (stp x b) t
/-- The bits of a byte, the lowest first. -/
def bits8 (c : UInt8) : List Bool := (List.range 8).map fun i => c.toNat.testBit i
/-- The bits of bytes. -/
def bitsL (l : List UInt8) : List Bool := l.flatMap bits8
/-- The sum behind a sum. -/
def crc (s : BitVec 32) (l : List UInt8) : BitVec 32 := ~~~ (runB (~~~ s) (bitsL l))

theorem runB_append (x : BitVec 32) (a b : List Bool) : runB x (a ++ b) = runB (runB x a) b := by
  induction a generalizing x with
  | nil => rfl
  | cons c t ih => exact ih _
theorem bitsL_append (a b : List UInt8) : bitsL (a ++ b) = bitsL a ++ bitsL b := by simp [bitsL]
theorem bits8_length (c : UInt8) : (bits8 c).length = 8 := by simp [bits8]
theorem bitsL_length (l : List UInt8) : (bitsL l).length = 8 * l.length := by
  induction l with
  | nil => rfl
  | cons c t ih =>
    have : bitsL (c :: t) = bits8 c ++ bitsL t := by simp [bitsL]
    rw [this, List.length_append, ih, bits8_length, List.length_cons]
    omega
/-- BYTES BEHIND BYTES. -/
theorem crc_join (s : BitVec 32) (a b : List UInt8) : crc s (a ++ b) = crc (crc s a) b := by
  unfold crc
  rw [bitsL_append, runB_append, BitVec.not_not]

theorem xor_left (a b c : BitVec 32) : a ^^^ (b ^^^ c) = b ^^^ (a ^^^ c) := by rw [← BitVec.xor_assoc, BitVec.xor_comm a b, BitVec.xor_assoc]
theorem xor_twice (a b : BitVec 32) : a ^^^ (a ^^^ b) = b := by rw [← BitVec.xor_assoc, BitVec.xor_self, BitVec.zero_xor]
theorem pick_lin (u v : Bool) : (if (u ^^ v) = true then poly else 0#32) = (if u = true then poly else 0#32) ^^^ (if v = true then poly else 0#32) := by
  cases u <;> cases v <;> decide
theorem xor_four (p q r s : BitVec 32) : (p ^^^ q) ^^^ (r ^^^ s) = (p ^^^ r) ^^^ (q ^^^ s) := by
  rw [BitVec.xor_assoc, BitVec.xor_assoc, xor_left q r s]
theorem stp_lin (x y : BitVec 32) (b c : Bool) : stp (x ^^^ y) (b ^^ c) = stp x b ^^^ stp y c := by
  unfold stp
  have e : ((x ^^^ y).getLsbD 0 != (b ^^ c)) = ((x.getLsbD 0 != b) ^^ (y.getLsbD 0 != c)) := by
    rw [BitVec.getLsbD_xor]
    cases x.getLsbD 0 <;> cases y.getLsbD 0 <;> cases b <;> cases c <;> rfl
  rw [BitVec.ushiftRight_xor_distrib, e, pick_lin]
  exact xor_four _ _ _ _
theorem runB_lin (x y : BitVec 32) (a b : List Bool) (h : a.length = b.length) : runB (x ^^^ y) (List.zipWith (· ^^ ·) a b) = runB x a ^^^ runB y b := by
  induction a generalizing x y b with
  | nil =>
    cases b with
    | nil => rfl
    | cons c t => simp at h
  | cons p s ih =>
    cases b with
    | nil => simp at h
    | cons q t =>
      simp only [List.zipWith_cons_cons, runB]
      rw [stp_lin]
      exact ih _ _ _ (by simpa using h)
/-- What two runs differ by. -/
theorem runB_diff (x : BitVec 32) (a b : List Bool) (h : a.length = b.length) : runB x a ^^^ runB x b = runB 0#32 (List.zipWith (· ^^ ·) a b) := by
  rw [← runB_lin x x a b h, BitVec.xor_self]

theorem stp_zero (x : BitVec 32) (h : stp x false = 0#32) : x = 0#32 := by
  unfold stp at h
  cases hx : x.getLsbD 0 with
  | true =>
    rw [hx] at h
    have h31 := congrArg (fun v => v.getLsbD 31) h
    simp [poly] at h31
  | false =>
    rw [hx] at h
    simp only [bne_self_eq_false, Bool.false_eq_true, if_false, BitVec.xor_zero] at h
    apply BitVec.eq_of_getLsbD_eq
    intro i hi
    rcases Nat.eq_zero_or_pos i with h0 | h0
    · subst h0; rw [hx]; simp
    · have := congrArg (fun v => v.getLsbD (i - 1)) h
      simp only [BitVec.getLsbD_ushiftRight, BitVec.getLsbD_zero] at this ⊢
      rw [show 1 + (i - 1) = i by omega] at this
      exact this
theorem runB_false_zero (n : Nat) (x : BitVec 32) (h : runB x (List.replicate n false) = 0#32) : x = 0#32 := by
  induction n generalizing x with
  | zero => exact h
  | succ n ih => exact stp_zero x (ih _ h)
theorem runB_zero (n : Nat) : runB 0#32 (List.replicate n false) = 0#32 := by
  induction n with
  | zero => rfl
  | succ n ih =>
    have : stp 0#32 false = 0#32 := by decide
    simp only [List.replicate_succ, runB, this]
    exact ih

/-- Up to 32 bits, laid into a number: the first one lowest. -/
def word : List Bool → BitVec 32
  | [] => 0#32
  | b :: t => (if b then 1#32 else 0#32) ^^^ (word t <<< 1)

theorem st_one (x : BitVec 32) (b : Bool) : stp x b = stp (x ^^^ (if b then 1#32 else 0#32)) false := by
  unfold stp
  cases b
  · simp
  · have h1 : (1#32) >>> 1 = 0#32 := by decide
    simp only [if_true, BitVec.ushiftRight_xor_distrib, h1, BitVec.xor_zero, BitVec.getLsbD_xor]
    cases x.getLsbD 0 <;> simp
/-- A number whose lowest bit is 0 only goes one place down. -/
theorem st_shift (y : BitVec 32) (h : y.getLsbD 31 = false) : stp (y <<< 1) false = y := by
  unfold stp
  have h0 : (y <<< 1).getLsbD 0 = false := by simp
  rw [h0]
  simp only [bne_self_eq_false, Bool.false_eq_true, if_false, BitVec.xor_zero]
  apply BitVec.eq_of_getLsbD_eq
  intro i hi
  rw [BitVec.getLsbD_ushiftRight, BitVec.getLsbD_shiftLeft]
  by_cases h31 : i = 31
  · subst h31; rw [h]; simp
  · have h1 : 1 + i < 32 := by omega
    simp [h1]

theorem word_bit (l : List Bool) (i : Nat) (hi : i < 32) : (word l).getLsbD i = l.getD i false := by
  induction l generalizing i with
  | nil => simp [word]
  | cons b t ih =>
    simp only [word, BitVec.getLsbD_xor, BitVec.getLsbD_shiftLeft]
    rcases i with _ | i
    · cases b <;> simp
    · have h1 : (if b then 1#32 else 0#32).getLsbD (i + 1) = false := by cases b <;> simp [BitVec.getLsbD_one]
      rw [h1]
      have := ih i (by omega)
      simp [hi, this]

/-- Up to 32 bits that are taken in could have been laid into the number first. -/
theorem runB_word (x : BitVec 32) (l : List Bool) (h : l.length ≤ 32) : runB x l = runB (x ^^^ word l) (List.replicate l.length false) := by
  induction l generalizing x with
  | nil => simp [word, runB]
  | cons b t ih =>
    have ht : t.length ≤ 31 := by simpa using h
    simp only [List.length_cons, List.replicate_succ, runB]
    rw [ih _ (by omega)]
    congr 1
    have e : stp (x ^^^ word (b :: t)) false = stp (x ^^^ (if b then 1#32 else 0#32)) false ^^^ stp (word t <<< 1) false := by
      rw [← stp_lin]
      simp only [word, Bool.xor_false, BitVec.xor_assoc]
    rw [e, ← st_one, st_shift]
    rw [word_bit _ _ (by omega)]
    simp [List.getD, List.getElem?_eq_none (show t.length ≤ 31 from ht)]

/-- BITS THAT ARE TURNED WITHIN 32 SIDE BY SIDE TURN THE SUM: d, behind n bits that are alike, ahead of m. -/
theorem burst (n m : Nat) (d : List Bool) (hd : d.length ≤ 32) (hne : true ∈ d) : runB 0#32 (List.replicate n false ++ (d ++ List.replicate m false)) ≠ 0#32 := by
  intro h
  rw [runB_append, runB_append, runB_zero] at h
  have h1 := runB_false_zero m _ h
  rw [runB_word _ _ hd] at h1
  have h2 := runB_false_zero _ _ h1
  rw [BitVec.zero_xor] at h2
  obtain ⟨i, hi, he⟩ := List.getElem_of_mem hne
  have := word_bit d i (by omega)
  rw [h2] at this
  simp [List.getD, List.getElem?_eq_getElem hi, he] at this
end Go.Proofs.YteibkipcblmikaaDoor
namespace Go.Proofs.YteibkipcblmikaaDoor
open Go.RowKit

/-- What four bits that are taken off turn in all. -/
def tabN (i : Nat) : Nat := [0, 498536548, 997073096, 651767980, 1994146192, 1802195444, 1303535960, 1342533948, 3988292384, 4027552580, 3604390888, 3412177804, 2607071920, 2262029012, 2685067896, 3183342108].getD i 0
theorem tab_lt : ∀ i, i < 16 → tabN i < 4294967296 := by decide
theorem tab_run : ∀ i, i < 16 → runB (BitVec.ofNat 32 i) [false, false, false, false] = BitVec.ofNat 32 (tabN i) := by decide

theorem shl_bit (y : BitVec 32) (i n : Nat) (h : i < 32) (hn : n ≤ i) : (y <<< n).getLsbD i = y.getLsbD (i - n) := by
  simp only [BitVec.getLsbD_shiftLeft, h, Nat.not_lt.2 hn, decide_true, decide_false, Bool.not_false, Bool.true_and]
theorem run_shl4 (y : BitVec 32) (h : y.toNat < 268435456) : runB (y <<< 4) [false, false, false, false] = y := by
  have hb : ∀ i, 28 ≤ i → y.getLsbD i = false := by
    intro i hi
    rw [BitVec.getLsbD]
    apply Nat.testBit_lt_two_pow
    have := Nat.pow_le_pow_right (show 0 < 2 by omega) hi
    omega
  have e4 : y <<< 4 = (y <<< 3) <<< 1 := by rw [BitVec.shiftLeft_add y 3 1]
  have e3 : y <<< 3 = (y <<< 2) <<< 1 := by rw [BitVec.shiftLeft_add y 2 1]
  have e2 : y <<< 2 = (y <<< 1) <<< 1 := by rw [BitVec.shiftLeft_add y 1 1]
  simp only [runB]
  rw [e4, st_shift _ (by rw [shl_bit _ _ _ (by omega) (by omega)]; exact hb _ (by omega)),
    e3, st_shift _ (by rw [shl_bit _ _ _ (by omega) (by omega)]; exact hb _ (by omega)),
    e2, st_shift _ (by rw [shl_bit _ _ _ (by omega) (by omega)]; exact hb _ (by omega)),
    st_shift _ (hb _ (by omega))]
theorem split16 (y : Nat) : BitVec.ofNat 32 y = BitVec.ofNat 32 (y / 16) <<< 4 ^^^ BitVec.ofNat 32 (y % 16) := by
  apply BitVec.eq_of_getLsbD_eq
  intro i hi
  simp only [BitVec.getLsbD_xor, BitVec.getLsbD_shiftLeft, BitVec.getLsbD_ofNat, hi, decide_true, Bool.true_and]
  rw [show (16 : Nat) = 2 ^ 4 by rfl, Nat.testBit_mod_two_pow]
  by_cases h4 : i < 4
  · simp [h4]
  · simp [h4]
    rw [show (16 : Nat) = 2 ^ 4 by rfl, Nat.testBit_div_two_pow]
    rw [show i - 4 + 4 = i by omega]
    simp [show i - 4 < 32 by omega]
/-- Four bits are taken off at once. -/
theorem run_half (y : Nat) (h : y < 4294967296) : runB (BitVec.ofNat 32 y) [false, false, false, false] = BitVec.ofNat 32 (y / 16 ^^^ tabN (y % 16)) := by
  rw [split16 y]
  have e := runB_lin (BitVec.ofNat 32 (y / 16) <<< 4) (BitVec.ofNat 32 (y % 16)) [false, false, false, false] [false, false, false, false] rfl
  simp only [List.zipWith_cons_cons, List.zipWith_nil_left, Bool.xor_false] at e
  rw [e, run_shl4 _ (by rw [BitVec.toNat_ofNat]; omega), tab_run _ (by omega), BitVec.ofNat_xor]
theorem word_byte (c : UInt8) : word (bits8 c) = BitVec.ofNat 32 c.toNat := by
  apply BitVec.eq_of_getLsbD_eq
  intro i hi
  rw [word_bit _ _ hi, BitVec.getLsbD_ofNat]
  by_cases h8 : i < 8
  · simp [bits8, h8, hi]
  · have : c.toNat.testBit i = false := by
      apply Nat.testBit_lt_two_pow
      have := c.toNat_lt
      have := Nat.pow_le_pow_right (show 0 < 2 by omega) (show 8 ≤ i by omega)
      omega
    simp [bits8, h8, this]
/-- A byte is taken in, by its halves. -/
theorem run_byte (x : Nat) (c : UInt8) (y1 y2 y3 : Nat) (h : x < 4294967296) (h1 : y1 = x ^^^ c.toNat) (h2 : y2 = y1 / 16 ^^^ tabN (y1 % 16)) (h3 : y3 = y2 / 16 ^^^ tabN (y2 % 16)) :
    runB (BitVec.ofNat 32 x) (bits8 c) = BitVec.ofNat 32 y3 ∧ y1 < 4294967296 ∧ y2 < 4294967296 ∧ y3 < 4294967296 := by
  have hc := c.toNat_lt
  have l1 : y1 < 4294967296 := by rw [h1]; exact Nat.xor_lt_two_pow (n := 32) h (by omega)
  have l2 : y2 < 4294967296 := by rw [h2]; exact Nat.xor_lt_two_pow (n := 32) (by omega) (tab_lt _ (by omega))
  have l3 : y3 < 4294967296 := by rw [h3]; exact Nat.xor_lt_two_pow (n := 32) (by omega) (tab_lt _ (by omega))
  refine ⟨?_, l1, l2, l3⟩
  rw [runB_word _ _ (by simp [bits8_length]), bits8_length, word_byte, ← BitVec.ofNat_xor, ← h1]
  rw [show List.replicate 8 false = [false, false, false, false] ++ [false, false, false, false] by rfl, runB_append, run_half _ l1, ← h2, run_half _ l2, ← h3]

/-- The sum behind a sum, as a number. -/
def sumN (s : Nat) (l : List UInt8) : Nat := (crc (BitVec.ofNat 32 s) l).toNat
theorem sumN_lt (s : Nat) (l : List UInt8) : sumN s l < 4294967296 := (crc (BitVec.ofNat 32 s) l).isLt
theorem sumN_nil (s : Nat) (h : s < 4294967296) : sumN s [] = s := by
  simp [sumN, crc, bitsL, runB, BitVec.not_not]
  omega
theorem sumN_join (s : Nat) (a b : List UInt8) : sumN s (a ++ b) = sumN (sumN s a) b := by
  unfold sumN
  rw [crc_join, BitVec.ofNat_toNat, BitVec.setWidth_eq]
theorem not_ofNat (x : Nat) (h : x < 4294967296) : ~~~ (BitVec.ofNat 32 x) = BitVec.ofNat 32 (4294967295 - x) := by
  apply BitVec.eq_of_toNat_eq
  rw [BitVec.toNat_not, BitVec.toNat_ofNat, BitVec.toNat_ofNat]
  omega
/-- The number that is left, with all bits turned, is the sum. -/
theorem sumN_end (s x : Nat) (l : List UInt8) (hs : s < 4294967296) (hx : x < 4294967296) (h : BitVec.ofNat 32 x = runB (BitVec.ofNat 32 (4294967295 - s)) (bitsL l)) : sumN s l = 4294967295 - x := by
  unfold sumN crc
  rw [not_ofNat s hs, ← h, BitVec.toNat_not, BitVec.toNat_ofNat]
  omega
theorem bitsL_take (l : List UInt8) (j : Nat) (h : j < l.length) : bitsL (l.take (j + 1)) = bitsL (l.take j) ++ bits8 l[j] := by
  rw [List.take_add_one, List.getElem?_eq_getElem h, bitsL_append]
  simp [bitsL]
theorem not_bits (x : Nat) (h : x < 4294967296) : bits .xor .u32 IntKind.u32.max (x : Int) = ((4294967295 - x : Nat) : Int) := by
  have hm : IntKind.u32.max = ((4294967295 : Nat) : Int) := rfl
  rw [hm, u32_xor_nat _ _ (by omega) h]
  congr 1
  have e := congrArg BitVec.toNat (not_ofNat x h)
  rw [show ~~~ (BitVec.ofNat 32 x) = BitVec.allOnes 32 ^^^ BitVec.ofNat 32 x from (BitVec.allOnes_xor).symm] at e
  rw [BitVec.toNat_xor, BitVec.toNat_allOnes, BitVec.toNat_ofNat, BitVec.toNat_ofNat, Nat.mod_eq_of_lt h, Nat.mod_eq_of_lt (by omega)] at e
  exact e
end Go.Proofs.YteibkipcblmikaaDoor
namespace Go.Proofs.YteibkipcblmikaaDoor
open Go.RowKit
set_option linter.unusedVariables false
set_option maxRecDepth 100000

def tabA : Array Value := #[.int .u32 0, .int .u32 498536548, .int .u32 997073096, .int .u32 651767980, .int .u32 1994146192, .int .u32 1802195444, .int .u32 1303535960, .int .u32 1342533948, .int .u32 3988292384, .int .u32 4027552580, .int .u32 3604390888, .int .u32 3412177804, .int .u32 2607071920, .int .u32 2262029012, .int .u32 2685067896, .int .u32 3183342108]
theorem tab_at (i : Nat) (hi : i < 16) : tabA[i]? = some (.int .u32 (tabN i)) := by
  have : i = 0 ∨ i = 1 ∨ i = 2 ∨ i = 3 ∨ i = 4 ∨ i = 5 ∨ i = 6 ∨ i = 7 ∨ i = 8 ∨ i = 9 ∨ i = 10 ∨ i = 11 ∨ i = 12 ∨ i = 13 ∨ i = 14 ∨ i = 15 := by omega
  rcases this with h | h | h | h | h | h | h | h | h | h | h | h | h | h | h | h <;> subst h <;> rfl
theorem tab_cell (w : World) (t : TypeId) (i : Nat) (hi : i < 16) : (w.alloc (.cells tabA t)).cell? ⟨w.heap.size, i, none⟩ = some (.int .u32 (tabN i)) := by
  rw [cell_of_row _ w.heap.size i tabA _ (0, 0) (heap_alloc_new w _)]
  exact tab_at i hi

/-- After j bytes. -/
def ThenRel (s : Nat) (l : List UInt8) (a b : Value) : Prop :=
  ∃ j x : Nat, j ≤ l.length ∧ b = .int .i64 j ∧ a = .int .u32 x ∧ x < 4294967296 ∧ BitVec.ofNat 32 x = runB (BitVec.ofNat 32 (4294967295 - s)) (bitsL (l.take j))

set_option maxHeartbeats 1000000 in
set_option maxRecDepth 100000 in
theorem then_some (ad : Addr) (c s : Nat) (l : List UInt8) (w : World) (hs : s < 4294967296) (hl : l.length ≤ maxLen) (hc : ∀ j u, (bc l)[j]? = some u → w.cell? (ad.add j) = some u) :
    Calls Tryd.prog 44 #[.int .u32 s, .slice (some ad) l.length c] w (IntRet .u32 (sumN s l) w) := by
  have hm : maxLen = 9223372036854775807 := rfl
  have HC := hide hc
  have e0 := not_bits s hs
  clear hc
  go_enter Tryd.func44, Tryd.ntmps44
  go_wp2_with fail
  clear e0
  have hB := (Below.refl w.heap.size w).alloc (Nat.le_refl _) (.cells tabA 88)
  have hT := tab_cell w 88
  unfold tabA at hB hT
  revert hB hT
  generalize w.alloc (.cells #[.int .u32 0, .int .u32 498536548, .int .u32 997073096, .int .u32 651767980, .int .u32 1994146192, .int .u32 1802195444, .int .u32 1303535960, .int .u32 1342533948, .int .u32 3988292384, .int .u32 4027552580, .int .u32 3604390888, .int .u32 3412177804, .int .u32 2607071920, .int .u32 2262029012, .int .u32 2685067896, .int .u32 3183342108] 88) = W
  intro hB hT
  have HB := hide hB
  have HT := hide hT
  clear hB hT
  go_loop [6, 14] (ThenRel s l) (fun _ b => l.length - (intOf b).toNat)
  case atStart => exact ⟨0, 4294967295 - s, Nat.zero_le _, rfl, rfl, by omega, rfl⟩
  case round =>
    obtain ⟨j, x, hj, rfl, rfl, hx, he⟩ := hrel
    have HE := hide he
    clear he
    by_cases hlt : j < l.length
    · have hcell : W.cell? (ad.add j) = some (.int .u8 (l[j].toNat : Int)) := by
        have h0 := HC.out j (.int .u8 (l[j].toNat : Int)) (by simp [bc, hlt])
        exact (HB.out.cell (World.block_lt_of_cell? w _ h0)).trans h0
      have hb := l[j].toNat_lt
      obtain ⟨y1, h1⟩ : ∃ y, y = x ^^^ l[j].toNat := ⟨_, rfl⟩
      obtain ⟨y2, h2⟩ : ∃ y, y = y1 / 16 ^^^ tabN (y1 % 16) := ⟨_, rfl⟩
      obtain ⟨y3, h3⟩ : ∃ y, y = y2 / 16 ^^^ tabN (y2 % 16) := ⟨_, rfl⟩
      obtain ⟨hR, l1, l2, l3⟩ := run_byte x l[j] y1 y2 y3 hx h1 h2 h3
      have HR := hide hR
      have e1 := u32_xor_nat x l[j].toNat hx (by omega)
      have e2 := u32_xor_nat (y1 / 16) (tabN (y1 % 16)) (by omega) (tab_lt _ (by omega))
      have e3 := u32_xor_nat (y2 / 16) (tabN (y2 % 16)) (by omega) (tab_lt _ (by omega))
      have c1 := HT.out (y1 % 16) (by omega)
      have c2 := HT.out (y2 % 16) (by omega)
      rw [← h1] at e1
      rw [← h2, show ((y1 / 16 : Nat) : Int) = (y1 : Int) / 16 by omega] at e2
      rw [← h3, show ((y2 / 16 : Nat) : Int) = (y2 : Int) / 16 by omega] at e3
      clear h1 h2 h3 hR
      generalize tabN (y1 % 16) = t1 at c1 e2
      generalize tabN (y2 % 16) = t2 at c2 e3
      go_wp2_with fail
      go_round
      case rel =>
        refine ⟨j + 1, y3, by omega, by go_num, rfl, l3, ?_⟩
        rw [bitsL_take l j hlt, runB_append, ← HE.out, HR.out]
      case measure => simp [intOf]; omega
    · have e0 := not_bits x hx
      go_wp2
      go_ret
      refine ⟨ret_int ?_, HB.out⟩
      rw [sumN_end s x l hs hx (by rw [HE.out, List.take_of_length_le (by omega)])]

def NoneRel (s : Nat) (a b : Value) : Prop := b = .int .i64 0 ∧ a = .int .u32 ((4294967295 - s : Nat) : Int)
set_option maxHeartbeats 1000000 in
set_option maxRecDepth 100000 in
theorem then_none (s c : Nat) (w : World) (hs : s < 4294967296) : Calls Tryd.prog 44 #[.int .u32 s, .slice none 0 c] w (IntRet .u32 s w) := by
  have e0 := not_bits s hs
  go_enter Tryd.func44, Tryd.ntmps44
  go_wp2_with fail
  clear e0
  have HB := hide ((Below.refl w.heap.size w).alloc (Nat.le_refl _) (.cells tabA 88))
  have e1 := not_bits (4294967295 - s) (by omega)
  rw [show 4294967295 - (4294967295 - s) = s by omega] at e1
  go_loop [6, 14] (NoneRel s) (fun _ b => 0)
  case atStart => exact ⟨rfl, rfl⟩
  case round =>
    obtain ⟨rfl, rfl⟩ := hrel
    go_wp2
    go_ret
    exact ⟨rfl, HB.out⟩
theorem then_any (s : Nat) (v : Value) (l : List UInt8) (w : World) (hs : s < 4294967296) (hl : l.length ≤ maxLen) (h : Hnd w v l) : Calls Tryd.prog 44 #[.int .u32 s, v] w (IntRet .u32 (sumN s l) w) := by
  obtain ⟨A, c, rfl, h2, h3⟩ := h
  rcases A with _ | ad
  · have e := h2 rfl
    subst e
    rw [sumN_nil s hs]
    exact then_none s c w hs
  · exact then_some ad c s l w hs hl (h3 ad rfl)

theorem sumOf_any (v : Value) (l : List UInt8) (w : World) (hl : l.length ≤ maxLen) (h : Hnd w v l) : Calls Tryd.prog 24 #[v] w (IntRet .u32 (sumN 0 l) w) := by
  have H := hide h
  have hlt := sumN_lt 0 l
  have HL := hide hl
  clear h hl
  go_enter Tryd.func24, Tryd.ntmps24
  go_wp2_with fail
  refine (then_any 0 v l w (by omega) HL.out H.out).mono ?_
  rintro e w1 ⟨rfl, hb⟩
  have HB := hide hb
  clear hb
  go_wp2
  go_ret
  exact ⟨rfl, HB.out⟩

end Go.Proofs.YteibkipcblmikaaDoor
namespace Go.Proofs.YteibkipcblmikaaDoor
open Go.RowKit
set_option linter.unusedVariables false
set_option maxRecDepth 100000

/-- The four bytes of a number. -/
def four (s : Nat) : List UInt8 := [b8 s, b8 (s / 256), b8 (s / 65536), b8 (s / 16777216)]
theorem four_length (s : Nat) : (four s).length = 4 := rfl
theorem own_newL (w : World) (B : Nat) (hB : B ≤ w.heap.size) (l : List UInt8) (cs : Array Value) (n : Nat) (hn : l.length = n) (hm : n ≤ maxLen) (h : cs.toList = bc l) :
    (w.alloc (.cells cs 5)).ownsRow B 5 1 (.slice (some ⟨w.heap.size, 0, none⟩) n n) n (bc l) := by
  subst hn
  have hz : cs.size = l.length := by rw [← Array.length_toList, h, bc_length]
  exact ⟨by simp [bc_length], .inr ⟨w.heap.size, l.length, _, rfl, hB, heap_alloc_new w _, Nat.le_refl _, hm, by simp [hz], by rw [← h]; exact List.take_of_length_le (by simp [hz])⟩⟩
set_option maxHeartbeats 1000000 in
theorem Four_any (s : Nat) (w : World) (hs : s < 4294967296) : Calls Tryd.prog 23 #[.int .u32 s] w (OwnRet w (four s)) := by
  go_enter Tryd.func23, Tryd.ntmps23
  go_wp2
  go_ret
  refine ⟨_, rfl, own_newL w _ (Nat.le_refl _) (four s) _ 4 rfl (by decide) ?_, (Below.refl _ _).alloc (Nat.le_refl _) _⟩
  simp only [four, bc, List.map, b8_mod]
  simp
  omega

theorem bs_eq (l1 l2 : List UInt8) : ((bs l1).toList == (bs l2).toList) = decide (l1 = l2) := by
  rw [ByteArray.toList_eq, ByteArray.toList_eq]
  simp only [bs]
  by_cases h : l1 = l2 <;> simp [h]
theorem retb {a b : Bool} (h : a = b) : Ending.returned (.bool a) = .returned (.bool b) := by rw [h]
theorem equal_any (v1 v2 : Value) (l1 l2 : List UInt8) (w : World) (h1 : Hnd w v1 l1) (h2 : Hnd w v2 l2) : Calls Tryd.prog 54 #[v1, v2] w (BoolRet (decide (l1 = l2)) w) := by
  have c1 := conv_hnd h1
  have c2 := conv_hnd h2
  clear h1 h2
  go_enter Tryd.func54, Tryd.ntmps54
  go_wp2
  go_ret
  exact ⟨retb (bs_eq l1 l2), Below.refl _ _⟩
theorem sumSame_any (v1 v2 : Value) (l1 l2 : List UInt8) (w : World) (h1 : Hnd w v1 l1) (h2 : Hnd w v2 l2) : Calls Tryd.prog 13 #[v1, v2] w (BoolRet (decide (l1 = l2)) w) := by
  have c1 := conv_hnd h1
  have c2 := conv_hnd h2
  clear h1 h2
  go_enter Tryd.func13, Tryd.ntmps13
  go_wp2
  go_ret
  exact ⟨retb (bs_eq l1 l2), Below.refl _ _⟩
set_option maxHeartbeats 1000000 in
theorem is_any (v1 v2 : Value) (l1 l2 : List UInt8) (w : World) (hl : l1.length ≤ maxLen) (h1 : Hnd w v1 l1) (h2 : Hnd w v2 l2) : Calls Tryd.prog 34 #[v1, v2] w (BoolRet (decide (four (sumN 0 l1) = l2)) w) := by
  have H1 := hide h1
  have H2 := hide h2
  have hlt := sumN_lt 0 l1
  have HL := hide hl
  clear h1 h2 hl
  go_enter Tryd.func34, Tryd.ntmps34
  go_wp2_with fail
  refine (sumOf_any v1 l1 w HL.out H1.out).mono ?_
  rintro e w1 ⟨rfl, hb⟩
  have B1 := hide hb
  have H3 := hide (H2.out.below hb)
  clear hb
  go_wp2_with fail
  refine (Four_any (sumN 0 l1) w1 hlt).mono ?_
  rintro e w2 ⟨v, rfl, hown, hb⟩
  have B2 := hide (B1.out.trans (hb.mono B1.out.size))
  have H4 := hide (H3.out.below hb)
  have H5 := hide (Hnd.of_RSl (RSl.of_own hown))
  clear hb hown
  go_wp2_with fail
  refine (equal_any v v2 _ _ w2 H5.out H4.out).mono ?_
  rintro e w3 ⟨rfl, hb⟩
  have B3 := hide (B2.out.trans (hb.mono B2.out.size))
  clear hb
  go_wp2
  go_ret
  exact ⟨rfl, B3.out⟩
set_option maxHeartbeats 1000000 in
theorem refFour_any (s : Nat) (w : World) (hs : s < 4294967296) : Calls Tryd.prog 29 #[.int .u32 s] w (OwnRet w (four s)) := by
  go_enter Tryd.func29, Tryd.ntmps29
  go_wp2
  go_ret
  refine ⟨_, rfl, own_newL w _ (Nat.le_refl _) (four s) _ 4 rfl (by decide) ?_, (Below.refl _ _).alloc (Nat.le_refl _) _⟩
  simp only [four, bc, List.map, b8_mod]
  simp
  omega
end Go.Proofs.YteibkipcblmikaaDoor
namespace Go.Proofs.YteibkipcblmikaaDoor
set_option maxRecDepth 100000
open Go.RowKit
set_option linter.unusedVariables false

theorem shr1 (x : Nat) : BitVec.ofNat 32 x >>> 1 = BitVec.ofNat 32 (x % 4294967296 / 2) := by
  apply BitVec.eq_of_toNat_eq
  rw [BitVec.toNat_ushiftRight, BitVec.toNat_ofNat, BitVec.toNat_ofNat, Nat.shiftRight_eq_div_pow]
  omega
theorem low_bit (x : Nat) : (BitVec.ofNat 32 x).getLsbD 0 = decide (x % 2 = 1) := by
  rw [BitVec.getLsbD_ofNat]
  simp
theorem run_one (x : BitVec 32) (a : List Bool) (b : Bool) : runB x (a ++ [b]) = stp (runB x a) b := by rw [runB_append]; rfl
/-- A bit is taken in, as the document says it. -/
theorem st_same (x c : Nat) (hx : x < 4294967296) (h : x % 2 = c % 2) : stp (BitVec.ofNat 32 x) (c.testBit 0) = BitVec.ofNat 32 (x / 2) := by
  unfold stp
  rw [low_bit, shr1, Nat.mod_eq_of_lt hx, Nat.testBit_zero, h]
  simp
theorem st_unlike (x c : Nat) (hx : x < 4294967296) (h : x % 2 ≠ c % 2) : stp (BitVec.ofNat 32 x) (c.testBit 0) = BitVec.ofNat 32 (x / 2 ^^^ 3988292384) := by
  unfold stp
  rw [low_bit, shr1, Nat.mod_eq_of_lt hx, Nat.testBit_zero, BitVec.ofNat_xor]
  have : (decide (x % 2 = 1) != decide (c % 2 = 1)) = true := by
    have h1 : x % 2 = 0 ∨ x % 2 = 1 := by omega
    have h2 : c % 2 = 0 ∨ c % 2 = 1 := by omega
    rcases h1 with h1 | h1 <;> rcases h2 with h2 | h2 <;> simp [h1, h2] <;> omega
  rw [this]
  rfl
theorem bits8_take (c : UInt8) (k : Nat) (h : k < 8) : (bits8 c).take (k + 1) = (bits8 c).take k ++ [(c.toNat / 2 ^ k).testBit 0] := by
  have hl : k < (bits8 c).length := by rw [bits8_length]; exact h
  rw [List.take_add_one, List.getElem?_eq_getElem hl]
  simp [bits8]
  exact Nat.testBit_eq_decide_div_mod_eq

/-- After k bits of a byte. -/
def BitRel (X : BitVec 32) (c : UInt8) (a b k : Value) : Prop :=
  ∃ i x m : Nat, i ≤ 8 ∧ k = .int .i64 i ∧ a = .int .u32 x ∧ b = .int .u8 m ∧ x < 4294967296 ∧ m < 256 ∧ m = c.toNat / 2 ^ i ∧ BitVec.ofNat 32 x = runB X ((bits8 c).take i)
/-- After j bytes. -/
def RefRel (s : Nat) (l : List UInt8) (a b : Value) : Prop :=
  ∃ j x : Nat, j ≤ l.length ∧ b = .int .i64 j ∧ a = .int .u32 x ∧ x < 4294967296 ∧ BitVec.ofNat 32 x = runB (BitVec.ofNat 32 (4294967295 - s)) (bitsL (l.take j))

set_option maxHeartbeats 1000000 in
set_option maxRecDepth 100000 in
theorem refThen_some (ad : Addr) (cp s : Nat) (l : List UInt8) (w : World) (hs : s < 4294967296) (hl : l.length ≤ maxLen) (hc : ∀ j u, (bc l)[j]? = some u → w.cell? (ad.add j) = some u) :
    Calls Tryd.prog 30 #[.int .u32 s, .slice (some ad) l.length cp] w (IntRet .u32 (sumN s l) w) := by
  have hm : maxLen = 9223372036854775807 := rfl
  have HC := hide hc
  clear hc
  go_enter Tryd.func30, Tryd.ntmps30
  go_wp2_with fail
  go_loop [5, 6] (RefRel s l) (fun _ b => l.length - (intOf b).toNat)
  case atStart => exact ⟨0, 4294967295 - s, Nat.zero_le _, rfl, by go_num, by omega, rfl⟩
  case round =>
    obtain ⟨j, x, hj, rfl, rfl, hx, he⟩ := hrel
    have HE := hide he
    clear he
    by_cases hlt : j < l.length
    · have hcell : w.cell? (ad.add j) = some (.int .u8 (l[j].toNat : Int)) := HC.out j (.int .u8 (l[j].toNat : Int)) (by simp [bc, hlt])
      have hb := l[j].toNat_lt
      go_wp2_with fail
      go_loop [5, 7, 8] (BitRel (BitVec.ofNat 32 x) l[j]) (fun _ _ k => 8 - (intOf k).toNat)
      case atStart => exact ⟨0, x, l[j].toNat, by omega, rfl, rfl, rfl, hx, by omega, by simp, rfl⟩
      case round =>
        obtain ⟨i, y, m, hi, rfl, rfl, rfl, hy, hm8, hme, he⟩ := hrel
        have HM := hide hme
        have HF := hide he
        clear he hme
        by_cases h8 : i < 8
        · by_cases hu : y % 2 = m % 2
          · have HU := hide (st_same y m hy hu)
            go_wp2_with fail
            refine ⟨⟨i + 1, y / 2, m / 2, by omega, by go_num, by go_num, by go_num, by omega, by omega, ?_, ?_⟩, ?_⟩
            · rw [HM.out, Nat.div_div_eq_div_mul, Nat.pow_succ]
            · rw [← HU.out, HF.out, bits8_take _ _ h8, run_one, ← HM.out]
            · simp [intOf]; omega
          · have HU := hide (st_unlike y m hy hu)
            have hz : y / 2 ^^^ 3988292384 < 4294967296 := Nat.xor_lt_two_pow (n := 32) (by omega) (by omega)
            have e1 := u32_xor_nat (y / 2) 3988292384 (by omega) (by omega)
            revert HU hz e1
            generalize y / 2 ^^^ 3988292384 = z
            intro HU hz e1
            rw [show ((y / 2 : Nat) : Int) = (y : Int) / 2 by omega, show ((3988292384 : Nat) : Int) = 3988292384 by rfl] at e1
            go_wp2_with fail
            refine ⟨⟨i + 1, z, m / 2, by omega, by go_num, by go_num, by go_num, by omega, by omega, ?_, ?_⟩, ?_⟩
            · rw [HM.out, Nat.div_div_eq_div_mul, Nat.pow_succ]
            · rw [← HU.out, HF.out, bits8_take _ _ h8, run_one, ← HM.out]
            · simp [intOf]; omega
        · go_wp2_with fail
          refine ⟨⟨j + 1, y, by omega, by go_num, rfl, hy, ?_⟩, ?_⟩
          · rw [bitsL_take l j hlt, runB_append, ← HE.out, HF.out, List.take_of_length_le (by rw [bits8_length]; omega)]
          · simp [intOf]; omega
    · go_wp2
      go_ret
      refine ⟨ret_int ?_, Below.refl _ _⟩
      rw [sumN_end s x l hs hx (by rw [HE.out, List.take_of_length_le (by omega)])]
      go_num
theorem refThen_none (s c : Nat) (w : World) (hs : s < 4294967296) : Calls Tryd.prog 30 #[.int .u32 s, .slice none 0 c] w (IntRet .u32 s w) := by
  go_enter Tryd.func30, Tryd.ntmps30
  go_wp2_with fail
  go_loop [5, 6] (NoneRel s) (fun _ b => 0)
  case atStart => exact ⟨rfl, by go_num⟩
  case round =>
    obtain ⟨rfl, rfl⟩ := hrel
    go_wp2
    go_ret
    exact ⟨ret_int (by omega), Below.refl _ _⟩
theorem refThen_any (s : Nat) (v : Value) (l : List UInt8) (w : World) (hs : s < 4294967296) (hl : l.length ≤ maxLen) (h : Hnd w v l) : Calls Tryd.prog 30 #[.int .u32 s, v] w (IntRet .u32 (sumN s l) w) := by
  obtain ⟨A, c, rfl, h2, h3⟩ := h
  rcases A with _ | ad
  · have e := h2 rfl
    subst e
    rw [sumN_nil s hs]
    exact refThen_none s c w hs
  · exact refThen_some ad c s l w hs hl (h3 ad rfl)

theorem ex_sum : sumN 0 [49, 50, 51, 52, 53, 54, 55, 56, 57] = 3421780262 := by decide +kernel
theorem ex_four : four 3421780262 = [38, 57, 244, 203] := by decide
end Go.Proofs.YteibkipcblmikaaDoor
