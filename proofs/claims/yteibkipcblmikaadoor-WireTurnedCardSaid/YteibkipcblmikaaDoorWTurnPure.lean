/-
  What is turned within 32 bits of a batch behind its length is seen; what is cut off, or has more behind it, is no batch. No conditions.
-/
import Derived.Test.YteibkipcblmikaaDoorTurnPure
import Derived.Test.YteibkipcblmikaaDoorM8
import Derived.Test.YteibkipcblmikaaDoorWCut
namespace Go.Proofs.YteibkipcblmikaaDoor
open Go.RowKit
set_option linter.unusedVariables false
set_option maxRecDepth 100000

theorem four_byte (s j r : Nat) (hr : r < 8) (x : UInt8) (hx : x.toNat = s / 2 ^ (8 * j) % 256) : x.toNat.testBit r = s.testBit (8 * j + r) := by
  rw [hx, show (256 : Nat) = 2 ^ 8 from rfl, Nat.testBit_mod_two_pow, decide_eq_true hr, Bool.true_and, Nat.testBit_div_two_pow]
  congr 1
  omega
theorem word_four (s : Nat) : word (bitsL (four s)) = BitVec.ofNat 32 s := by
  apply BitVec.eq_of_getLsbD_eq
  intro i hi
  rw [word_bit _ _ hi, BitVec.getLsbD_ofNat, decide_eq_true hi, Bool.true_and]
  have hl : i < (bitsL (four s)).length := by rw [bitsL_length, four_len]; omega
  rw [List.getD, List.getElem?_eq_getElem hl, Option.getD_some, bitsL_get]
  unfold bitOf
  have hc : i / 8 = 0 ∨ i / 8 = 1 ∨ i / 8 = 2 ∨ i / 8 = 3 := by omega
  rcases hc with h | h | h | h
  · rw [h]
    exact (four_byte s 0 (i % 8) (by omega) (b8 s) (by rw [b8_mod]; simp)).trans (congrArg s.testBit (by omega))
  · rw [h]
    exact (four_byte s 1 (i % 8) (by omega) (b8 (s / 256)) (by rw [b8_mod])).trans (congrArg s.testBit (by omega))
  · rw [h]
    exact (four_byte s 2 (i % 8) (by omega) (b8 (s / 65536)) (by rw [b8_mod])).trans (congrArg s.testBit (by omega))
  · rw [h]
    exact (four_byte s 3 (i % 8) (by omega) (b8 (s / 16777216)) (by rw [b8_mod])).trans (congrArg s.testBit (by omega))
/-- The sum of bytes with their sum behind them is always the same. -/
def resid : BitVec 32 := ~~~ (runB (BitVec.allOnes 32) (List.replicate 32 false))
theorem sum_resid (b : List UInt8) : sumN 0 (b ++ four (sumN 0 b)) = resid.toNat := by
  rw [sumN_join]
  have hs := sumN_lt 0 b
  generalize sumN 0 b = t at hs
  unfold sumN crc resid
  have hl : (bitsL (four t)).length = 32 := by rw [bitsL_length, four_len]
  rw [runB_word _ _ (by omega), word_four, hl]
  congr 3
  apply BitVec.eq_of_getLsbD_eq
  intro i hi
  rw [BitVec.getLsbD_xor, BitVec.getLsbD_not, BitVec.getLsbD_allOnes, decide_eq_true hi]
  cases (BitVec.ofNat 32 t).getLsbD i <;> rfl
theorem sum_fits (p f : List UInt8) (h : f.length = 4) : four (sumN 0 p) = f ↔ sumN 0 (p ++ f) = resid.toNat := by
  have e := sum_placed p (four (sumN 0 p)) f [] (by rw [four_len, h]) (by rw [four_len]; omega)
  rw [List.append_nil, List.append_nil, sum_resid] at e
  rw [← e]
  exact eq_comm
theorem fits_len (c : List UInt8) (h : 4 ≤ c.length) : four (sumN 0 (c.take (c.length - 4))) = c.drop (c.length - 4) ↔ sumN 0 c = resid.toNat := by
  rw [sum_fits _ _ (by rw [List.length_drop]; omega), List.take_append_drop]
theorem turn_none (l : List UInt8) (k y : Nat) : ∀ i, turnB y i = false → turnL l k y i = l
  | 0, _ => rfl
  | i + 1, h => by
    cases hb : y.testBit i with
    | true => rw [turnB_yes y i hb] at h; cases h
    | false =>
      rw [turnB_no y i hb] at h
      rw [turnL_no l k y i hb]
      exact turn_none l k y i h
/-- Turned bits are seen. -/
theorem dec_turn {os : List O5} (h : wOk os = true) (k y i : Nat) (hk : k + i ≤ 8 * (wAll os).length) (hi : i ≤ 32) :
    (dec? (num (wAll os).length ++ turnL (wAll os) k y i)).isSome = !turnB y i := by
  cases hb : turnB y i with
  | false =>
    rw [turn_none _ _ _ _ hb]
    have : num (wAll os).length ++ wAll os = wEnc os := rfl
    rw [this, dec_put h]
    rfl
  | true =>
    have hle := wBody_le h
    have hl := wAll_len os
    have hc := turnL_length (wAll os) k y i
    have hn : sumN 0 (turnL (wAll os) k y i) ≠ resid.toNat := by
      intro he
      have hr : sumN 0 (wAll os) = resid.toNat := sum_resid (wBody os)
      have hx := (sum_burst (wAll os) (turnL (wAll os) k y i) hc.symm k _ (turnD y i) (by simpa [turnD] using hi) (turn_diff _ k y i hk)).1 (hr.trans he.symm)
      unfold turnB at hb
      exact hx (of_decide_eq_true hb)
    rw [← hc]
    generalize turnL (wAll os) k y i = c at hc hn
    obtain ⟨f1, f2⟩ := framed_put c (by omega) (by omega)
    have hf : ¬ (four (sumN 0 (bodyOf (num c.length ++ c))) = sumOf (num c.length ++ c)) := by
      unfold bodyOf sumOf
      rw [f2]
      intro e
      exact hn ((fits_len c (by omega)).1 e)
    unfold dec?
    rw [if_neg (fun x => hf x.2)]
    rfl
theorem cut_put6 {os : List O5} (h : wOk os = true) (more : List UInt8) : cutF (wEnc os ++ more) = wEnc os := by
  have hb := wBody_le h
  have hl := wAll_len os
  have e : wEnc os ++ more = num (wAll os).length ++ (wAll os ++ more) := by simp [wEnc]
  obtain ⟨h1, h2, h3⟩ := sp_put (wAll os ++ more) (n := (wAll os).length) (by omega) (by rw [List.length_append]; omega)
  rw [← e] at h1 h2 h3
  have hle : spK (wEnc os ++ more) + spN (wEnc os ++ more) = (wEnc os).length := by rw [h2, h3, wEnc, List.length_append]
  unfold cutF
  rw [if_pos h1, hle]
  exact List.take_left
theorem dec_short {os : List O5} (h : wOk os = true) (q : Nat) (hq : q < (wEnc os).length) : dec? ((wEnc os).take q) = none := by
  rcases hd : dec? ((wEnc os).take q) with _ | os'
  · rfl
  · exfalso
    obtain ⟨h1, h2⟩ := dec_sound hd
    have e1 := cut_put6 h []
    have e2 := cut_put6 h1 ((wEnc os).drop q)
    rw [List.append_nil] at e1
    rw [← h2, List.take_append_drop] at e2
    rw [e1] at e2
    have := congrArg List.length e2
    rw [List.length_take] at this
    omega
theorem dec_more {os : List O5} (h : wOk os = true) (more : List UInt8) (hm : more ≠ []) : dec? (wEnc os ++ more) = none := by
  rcases hd : dec? (wEnc os ++ more) with _ | os'
  · rfl
  · exfalso
    obtain ⟨h1, h2⟩ := dec_sound hd
    have e1 := cut_put6 h more
    have e2 := cut_put6 h1 []
    rw [List.append_nil] at e2
    rw [h2, e2, ← h2] at e1
    have := congrArg List.length e1
    rw [List.length_append] at this
    exact hm (List.length_eq_zero_iff.1 (by omega))
theorem num_short (n : Nat) (h : n < 128) : num n = [b8 n] := by
  rw [num_in _ (by omega) (by omega)]
  simp only [Int.toNat_natCast]
  exact form_small n h
theorem num_two (n : Nat) (h : 128 ≤ n) (h1 : n < 16384) : num n = [b8 (n % 128 + 128), b8 (n / 128)] := by
  rw [num_in _ (by omega) (by omega)]
  simp only [Int.toNat_natCast]
  rw [form_big n h (by omega), form_small _ (by omega)]
/-- A batch begins with a byte that tells how long its first number is. -/
theorem enc_head {os : List O5} (h : wOk os = true) : ∃ (x : Nat) (N : List UInt8), N = num (wAll os).length ∧ wEnc os = N ++ wAll os ∧ x < 256 ∧ (bc (wEnc os))[0]? = some (.int .u8 (x : Int)) ∧ N.length = (if 128 ≤ x then 2 else 1) ∧ 6 ≤ (wAll os).length ∧ (wAll os).length ≤ 4004 := by
  have hb := wBody_le h
  have hl := wAll_len os
  have h2 : 2 ≤ (wBody os).length := by
    have := num_pos os.length (by omega) (by have := (wOk_t h).1; omega)
    simp only [wBody, List.length_cons, List.length_append]
    omega
  by_cases hc : (wAll os).length < 128
  · have e := num_short (wAll os).length hc
    refine ⟨(wAll os).length, num (wAll os).length, rfl, rfl, by omega, ?_, ?_, by omega, by omega⟩
    · rw [wEnc, e]
      simp [bc, b8_toNat _ (show (wAll os).length < 256 by omega)]
    · rw [e, if_neg (by omega)]
      rfl
  · have e := num_two (wAll os).length (by omega) (by omega)
    refine ⟨(wAll os).length % 128 + 128, num (wAll os).length, rfl, rfl, by omega, ?_, ?_, by omega, by omega⟩
    · rw [wEnc, e]
      simp [bc, b8_toNat _ (show (wAll os).length % 128 + 128 < 256 by omega)]
    · rw [e, if_pos (by omega)]
      rfl
end Go.Proofs.YteibkipcblmikaaDoor
