/-
  The plain mathematics of the sum of 32 bits: it goes on, it is linear, and bits that are turned within 32 side by side turn it. No program, no world; no conditions beyond those that each statement bears.
-/
import Derived.Below
namespace Go.Proofs.Ytdflpciabdjhnaa

/-- 3988292384, as 32 bits. -/
def poly : BitVec 32 := 3988292384#32
/-- One bit is taken in. -/
def st (x : BitVec 32) (b : Bool) : BitVec 32 := (x >>> 1) ^^^ (if x.getLsbD 0 != b then poly else 0#32)
/-- Bits are taken in, one after the other. -/
def runB (x : BitVec 32) : List Bool → BitVec 32
  | [] => x
  | b :: t => runB (st x b) t
/-- The bits of a byte, the lowest first. -/
def bits8 (c : UInt8) : List Bool := (List.range 8).map fun i => c.toNat.testBit i
/-- The bits of bytes. -/
def bitsL (l : List UInt8) : List Bool := l.flatMap bits8
/-- The sum behind a sum. -/
def crc (s : BitVec 32) (l : List UInt8) : BitVec 32 := ~~~ (runB (~~~ s) (bitsL l))

theorem runB_append (x : BitVec 32) (a b : List Bool) : runB x (a ++ b) = runB (runB x a) b := by
  induction a generalizing x with
  | nil => rfl
  | cons c t ih => exact ih _
theorem bitsL_append (a b : List UInt8) : bitsL (a ++ b) = bitsL a ++ bitsL b := by simp [bitsL]
theorem bits8_length (c : UInt8) : (bits8 c).length = 8 := by simp [bits8]
theorem bitsL_length (l : List UInt8) : (bitsL l).length = 8 * l.length := by
  induction l with
  | nil => rfl
  | cons c t ih =>
    have : bitsL (c :: t) = bits8 c ++ bitsL t := by simp [bitsL]
    rw [this, List.length_append, ih, bits8_length, List.length_cons]
    omega
/-- BYTES BEHIND BYTES. -/
theorem crc_join (s : BitVec 32) (a b : List UInt8) : crc s (a ++ b) = crc (crc s a) b := by
  unfold crc
  rw [bitsL_append, runB_append, BitVec.not_not]

theorem xor_left (a b c : BitVec 32) : a ^^^ (b ^^^ c) = b ^^^ (a ^^^ c) := by rw [← BitVec.xor_assoc, BitVec.xor_comm a b, BitVec.xor_assoc]
theorem xor_twice (a b : BitVec 32) : a ^^^ (a ^^^ b) = b := by rw [← BitVec.xor_assoc, BitVec.xor_self, BitVec.zero_xor]
theorem pick_lin (u v : Bool) : (if (u ^^ v) = true then poly else 0#32) = (if u = true then poly else 0#32) ^^^ (if v = true then poly else 0#32) := by
  cases u <;> cases v <;> decide
theorem xor_four (p q r s : BitVec 32) : (p ^^^ q) ^^^ (r ^^^ s) = (p ^^^ r) ^^^ (q ^^^ s) := by
  rw [BitVec.xor_assoc, BitVec.xor_assoc, xor_left q r s]
theorem st_lin (x y : BitVec 32) (b c : Bool) : st (x ^^^ y) (b ^^ c) = st x b ^^^ st y c := by
  unfold st
  have e : ((x ^^^ y).getLsbD 0 != (b ^^ c)) = ((x.getLsbD 0 != b) ^^ (y.getLsbD 0 != c)) := by
    rw [BitVec.getLsbD_xor]
    cases x.getLsbD 0 <;> cases y.getLsbD 0 <;> cases b <;> cases c <;> rfl
  rw [BitVec.ushiftRight_xor_distrib, e, pick_lin]
  exact xor_four _ _ _ _
theorem runB_lin (x y : BitVec 32) (a b : List Bool) (h : a.length = b.length) : runB (x ^^^ y) (List.zipWith (· ^^ ·) a b) = runB x a ^^^ runB y b := by
  induction a generalizing x y b with
  | nil =>
    cases b with
    | nil => rfl
    | cons c t => simp at h
  | cons p s ih =>
    cases b with
    | nil => simp at h
    | cons q t =>
      simp only [List.zipWith_cons_cons, runB]
      rw [st_lin]
      exact ih _ _ _ (by simpa using h)
/-- What two runs differ by. -/
theorem runB_diff (x : BitVec 32) (a b : List Bool) (h : a.length = b.length) : runB x a ^^^ runB x b = runB 0#32 (List.zipWith (· ^^ ·) a b) := by
  rw [← runB_lin x x a b h, BitVec.xor_self]

theorem st_zero (x : BitVec 32) (h : st x false = 0#32) : x = 0#32 := by
  unfold st at h
  cases hx : x.getLsbD 0 with
  | true =>
    rw [hx] at h
    have h31 := congrArg (fun v => v.getLsbD 31) h
    simp [poly] at h31
  | false =>
    rw [hx] at h
    simp only [bne_self_eq_false, Bool.false_eq_true, if_false, BitVec.xor_zero] at h
    apply BitVec.eq_of_getLsbD_eq
    intro i hi
    rcases Nat.eq_zero_or_pos i with h0 | h0
    · subst h0; rw [hx]; simp
    · have := congrArg (fun v => v.getLsbD (i - 1)) h
      simp only [BitVec.getLsbD_ushiftRight, BitVec.getLsbD_zero] at this ⊢
      rw [show 1 + (i - 1) = i by omega] at this
      exact this
theorem runB_false_zero (n : Nat) (x : BitVec 32) (h : runB x (List.replicate n false) = 0#32) : x = 0#32 := by
  induction n generalizing x with
  | zero => exact h
  | succ n ih => exact st_zero x (ih _ h)
theorem runB_zero (n : Nat) : runB 0#32 (List.replicate n false) = 0#32 := by
  induction n with
  | zero => rfl
  | succ n ih =>
    have : st 0#32 false = 0#32 := by decide
    simp only [List.replicate_succ, runB, this]
    exact ih

/-- Up to 32 bits, laid into a number: the first one lowest. -/
def word : List Bool → BitVec 32
  | [] => 0#32
  | b :: t => (if b then 1#32 else 0#32) ^^^ (word t <<< 1)

theorem st_one (x : BitVec 32) (b : Bool) : st x b = st (x ^^^ (if b then 1#32 else 0#32)) false := by
  unfold st
  cases b
  · simp
  · have h1 : (1#32) >>> 1 = 0#32 := by decide
    simp only [if_true, BitVec.ushiftRight_xor_distrib, h1, BitVec.xor_zero, BitVec.getLsbD_xor]
    cases x.getLsbD 0 <;> simp
/-- A number whose lowest bit is 0 only goes one place down. -/
theorem st_shift (y : BitVec 32) (h : y.getLsbD 31 = false) : st (y <<< 1) false = y := by
  unfold st
  have h0 : (y <<< 1).getLsbD 0 = false := by simp
  rw [h0]
  simp only [bne_self_eq_false, Bool.false_eq_true, if_false, BitVec.xor_zero]
  apply BitVec.eq_of_getLsbD_eq
  intro i hi
  rw [BitVec.getLsbD_ushiftRight, BitVec.getLsbD_shiftLeft]
  by_cases h31 : i = 31
  · subst h31; rw [h]; simp
  · have h1 : 1 + i < 32 := by omega
    simp [h1]

theorem word_bit (l : List Bool) (i : Nat) (hi : i < 32) : (word l).getLsbD i = l.getD i false := by
  induction l generalizing i with
  | nil => simp [word]
  | cons b t ih =>
    simp only [word, BitVec.getLsbD_xor, BitVec.getLsbD_shiftLeft]
    rcases i with _ | i
    · cases b <;> simp
    · have h1 : (if b then 1#32 else 0#32).getLsbD (i + 1) = false := by cases b <;> simp [BitVec.getLsbD_one]
      rw [h1]
      have := ih i (by omega)
      simp [hi, this]

/-- Up to 32 bits that are taken in could have been laid into the number first. -/
theorem runB_word (x : BitVec 32) (l : List Bool) (h : l.length ≤ 32) : runB x l = runB (x ^^^ word l) (List.replicate l.length false) := by
  induction l generalizing x with
  | nil => simp [word, runB]
  | cons b t ih =>
    have ht : t.length ≤ 31 := by simpa using h
    simp only [List.length_cons, List.replicate_succ, runB]
    rw [ih _ (by omega)]
    congr 1
    have e : st (x ^^^ word (b :: t)) false = st (x ^^^ (if b then 1#32 else 0#32)) false ^^^ st (word t <<< 1) false := by
      rw [← st_lin]
      simp only [word, Bool.xor_false, BitVec.xor_assoc]
    rw [e, ← st_one, st_shift]
    rw [word_bit _ _ (by omega)]
    simp [List.getD, List.getElem?_eq_none (show t.length ≤ 31 from ht)]

/-- BITS THAT ARE TURNED WITHIN 32 SIDE BY SIDE TURN THE SUM: d, behind n bits that are alike, ahead of m. -/
theorem burst (n m : Nat) (d : List Bool) (hd : d.length ≤ 32) (hne : true ∈ d) : runB 0#32 (List.replicate n false ++ (d ++ List.replicate m false)) ≠ 0#32 := by
  intro h
  rw [runB_append, runB_append, runB_zero] at h
  have h1 := runB_false_zero m _ h
  rw [runB_word _ _ hd] at h1
  have h2 := runB_false_zero _ _ h1
  rw [BitVec.zero_xor] at h2
  obtain ⟨i, hi, he⟩ := List.getElem_of_mem hne
  have := word_bit d i (by omega)
  rw [h2] at this
  simp [List.getD, List.getElem?_eq_getElem hi, he] at this
end Go.Proofs.Ytdflpciabdjhnaa
