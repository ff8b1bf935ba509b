/-
  What the document's sum (holtref02.Then), bit by bit, gives: the same plain number; nothing that was there is changed. Conditions: the number is one of 32 bits; what is handed in can be read.
-/
import Derived.Test.YtdflpciabdjhnaaFour
namespace Go.Proofs.Ytdflpciabdjhnaa
open Go.RowKit
set_option linter.unusedVariables false

theorem shr1 (x : Nat) : BitVec.ofNat 32 x >>> 1 = BitVec.ofNat 32 (x % 4294967296 / 2) := by
  apply BitVec.eq_of_toNat_eq
  rw [BitVec.toNat_ushiftRight, BitVec.toNat_ofNat, BitVec.toNat_ofNat, Nat.shiftRight_eq_div_pow]
  omega
theorem low_bit (x : Nat) : (BitVec.ofNat 32 x).getLsbD 0 = decide (x % 2 = 1) := by
  rw [BitVec.getLsbD_ofNat]
  simp
theorem run_one (x : BitVec 32) (a : List Bool) (b : Bool) : runB x (a ++ [b]) = st (runB x a) b := by rw [runB_append]; rfl
/-- A bit is taken in, as the document says it. -/
theorem st_same (x c : Nat) (hx : x < 4294967296) (h : x % 2 = c % 2) : st (BitVec.ofNat 32 x) (c.testBit 0) = BitVec.ofNat 32 (x / 2) := by
  unfold st
  rw [low_bit, shr1, Nat.mod_eq_of_lt hx, Nat.testBit_zero, h]
  simp
theorem st_unlike (x c : Nat) (hx : x < 4294967296) (h : x % 2 ≠ c % 2) : st (BitVec.ofNat 32 x) (c.testBit 0) = BitVec.ofNat 32 (x / 2 ^^^ 3988292384) := by
  unfold st
  rw [low_bit, shr1, Nat.mod_eq_of_lt hx, Nat.testBit_zero, BitVec.ofNat_xor]
  have : (decide (x % 2 = 1) != decide (c % 2 = 1)) = true := by
    have h1 : x % 2 = 0 ∨ x % 2 = 1 := by omega
    have h2 : c % 2 = 0 ∨ c % 2 = 1 := by omega
    rcases h1 with h1 | h1 <;> rcases h2 with h2 | h2 <;> simp [h1, h2] <;> omega
  rw [this]
  rfl
theorem bits8_take (c : UInt8) (k : Nat) (h : k < 8) : (bits8 c).take (k + 1) = (bits8 c).take k ++ [(c.toNat / 2 ^ k).testBit 0] := by
  have hl : k < (bits8 c).length := by rw [bits8_length]; exact h
  rw [List.take_add_one, List.getElem?_eq_getElem hl]
  simp [bits8]
  exact Nat.testBit_eq_decide_div_mod_eq

/-- After k bits of a byte. -/
def BitRel (X : BitVec 32) (c : UInt8) (a b k : Value) : Prop :=
  ∃ i x m : Nat, i ≤ 8 ∧ k = .int .i64 i ∧ a = .int .u32 x ∧ b = .int .u8 m ∧ x < 4294967296 ∧ m < 256 ∧ m = c.toNat / 2 ^ i ∧ BitVec.ofNat 32 x = runB X ((bits8 c).take i)
/-- After j bytes. -/
def RefRel (s : Nat) (l : List UInt8) (a b : Value) : Prop :=
  ∃ j x : Nat, j ≤ l.length ∧ b = .int .i64 j ∧ a = .int .u32 x ∧ x < 4294967296 ∧ BitVec.ofNat 32 x = runB (BitVec.ofNat 32 (4294967295 - s)) (bitsL (l.take j))

set_option maxHeartbeats 1000000 in
set_option maxRecDepth 100000 in
theorem refThen_some (ad : Addr) (cp s : Nat) (l : List UInt8) (w : World) (hs : s < 4294967296) (hl : l.length ≤ maxLen) (hc : ∀ j u, (bc l)[j]? = some u → w.cell? (ad.add j) = some u) :
    Calls Try.prog 10 #[.int .u32 s, .slice (some ad) l.length cp] w (IntRet .u32 (sumN s l) w) := by
  have hm : maxLen = 9223372036854775807 := rfl
  have HC := hide hc
  clear hc
  go_enter Try.func10, Try.ntmps10
  go_wp2_with fail
  go_loop [5, 6] (RefRel s l) (fun _ b => l.length - (intOf b).toNat)
  case atStart => exact ⟨0, 4294967295 - s, Nat.zero_le _, rfl, by go_num, by omega, rfl⟩
  case round =>
    obtain ⟨j, x, hj, rfl, rfl, hx, he⟩ := hrel
    have HE := hide he
    clear he
    by_cases hlt : j < l.length
    · have hcell : w.cell? (ad.add j) = some (.int .u8 (l[j].toNat : Int)) := HC.out j (.int .u8 (l[j].toNat : Int)) (by simp [bc, hlt])
      have hb := l[j].toNat_lt
      go_wp2_with fail
      go_loop [5, 7, 8] (BitRel (BitVec.ofNat 32 x) l[j]) (fun _ _ k => 8 - (intOf k).toNat)
      case atStart => exact ⟨0, x, l[j].toNat, by omega, rfl, rfl, rfl, hx, by omega, by simp, rfl⟩
      case round =>
        obtain ⟨i, y, m, hi, rfl, rfl, rfl, hy, hm8, hme, he⟩ := hrel
        have HM := hide hme
        have HF := hide he
        clear he hme
        by_cases h8 : i < 8
        · by_cases hu : y % 2 = m % 2
          · have HU := hide (st_same y m hy hu)
            go_wp2_with fail
            refine ⟨⟨i + 1, y / 2, m / 2, by omega, by go_num, by go_num, by go_num, by omega, by omega, ?_, ?_⟩, ?_⟩
            · rw [HM.out, Nat.div_div_eq_div_mul, Nat.pow_succ]
            · rw [← HU.out, HF.out, bits8_take _ _ h8, run_one, ← HM.out]
            · simp [intOf]; omega
          · have HU := hide (st_unlike y m hy hu)
            have hz : y / 2 ^^^ 3988292384 < 4294967296 := Nat.xor_lt_two_pow (n := 32) (by omega) (by omega)
            have e1 := u32_xor_nat (y / 2) 3988292384 (by omega) (by omega)
            revert HU hz e1
            generalize y / 2 ^^^ 3988292384 = z
            intro HU hz e1
            rw [show ((y / 2 : Nat) : Int) = (y : Int) / 2 by omega, show ((3988292384 : Nat) : Int) = 3988292384 by rfl] at e1
            go_wp2_with fail
            refine ⟨⟨i + 1, z, m / 2, by omega, by go_num, by go_num, by go_num, by omega, by omega, ?_, ?_⟩, ?_⟩
            · rw [HM.out, Nat.div_div_eq_div_mul, Nat.pow_succ]
            · rw [← HU.out, HF.out, bits8_take _ _ h8, run_one, ← HM.out]
            · simp [intOf]; omega
        · go_wp2_with fail
          refine ⟨⟨j + 1, y, by omega, by go_num, rfl, hy, ?_⟩, ?_⟩
          · rw [bitsL_take l j hlt, runB_append, ← HE.out, HF.out, List.take_of_length_le (by rw [bits8_length]; omega)]
          · simp [intOf]; omega
    · go_wp2
      go_ret
      refine ⟨ret_int ?_, Below.refl _ _⟩
      rw [sumN_end s x l hs hx (by rw [HE.out, List.take_of_length_le (by omega)])]
      go_num
theorem refThen_none (s c : Nat) (w : World) (hs : s < 4294967296) : Calls Try.prog 10 #[.int .u32 s, .slice none 0 c] w (IntRet .u32 s w) := by
  go_enter Try.func10, Try.ntmps10
  go_wp2_with fail
  go_loop [5, 6] (NoneRel s) (fun _ b => 0)
  case atStart => exact ⟨rfl, by go_num⟩
  case round =>
    obtain ⟨rfl, rfl⟩ := hrel
    go_wp2
    go_ret
    exact ⟨ret_int (by omega), Below.refl _ _⟩
theorem refThen_any (s : Nat) (v : Value) (l : List UInt8) (w : World) (hs : s < 4294967296) (hl : l.length ≤ maxLen) (h : Hnd w v l) : Calls Try.prog 10 #[.int .u32 s, v] w (IntRet .u32 (sumN s l) w) := by
  obtain ⟨A, c, rfl, h2, h3⟩ := h
  rcases A with _ | ad
  · have e := h2 rfl
    subst e
    rw [sumN_nil s hs]
    exact refThen_none s c w hs
  · exact refThen_some ad c s l w hs hl (h3 ad rfl)

theorem ex_sum : sumN 0 [49, 50, 51, 52, 53, 54, 55, 56, 57] = 3421780262 := by decide +kernel
theorem ex_four : four 3421780262 = [38, 57, 244, 203] := by decide
end Go.Proofs.Ytdflpciabdjhnaa
