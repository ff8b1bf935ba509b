/-
  Bits that are turned within 32 side by side, as plain lists: the sums are one just if no bit is turned. No conditions beyond those that each statement bears.
-/
import Derived.Test.YteibkipcblmikaaDoorLikePure
import Derived.Test.YteibkipcblmikaaDoorM6
namespace Go.Proofs.YteibkipcblmikaaDoor
open Go.RowKit

theorem zip_self (l : List Bool) : List.zipWith (· ^^ ·) l l = List.replicate l.length false := by
  induction l with
  | nil => rfl
  | cons b t ih => simp only [List.zipWith_cons_cons, Bool.xor_self, List.length_cons, List.replicate_succ, ih]
theorem no_true (D : List Bool) (h : true ∉ D) : D = List.replicate D.length false := by
  induction D with
  | nil => rfl
  | cons b t ih =>
    simp only [List.mem_cons, not_or] at h
    have hb : b = false := by
      cases b with
      | true => exact absurd rfl h.1
      | false => rfl
    rw [hb, List.length_cons, List.replicate_succ, ← ih h.2]
/-- The bits that two lists differ by: D, behind n bits that are alike, ahead of m. -/
theorem sum_burst (a b : List UInt8) (hl : a.length = b.length) (n m : Nat) (D : List Bool) (hD : D.length ≤ 32)
    (h : List.zipWith (· ^^ ·) (bitsL a) (bitsL b) = List.replicate n false ++ (D ++ List.replicate m false)) : sumN 0 a = sumN 0 b ↔ true ∉ D := by
  have hd := crc_diff (BitVec.ofNat 32 0) a b hl
  rw [h] at hd
  constructor
  · intro he ht
    have : crc (BitVec.ofNat 32 0) a = crc (BitVec.ofNat 32 0) b := BitVec.eq_of_toNat_eq he
    rw [this, BitVec.xor_self] at hd
    exact burst n m D hD ht hd.symm
  · intro ht
    rw [no_true D ht, List.replicate_append_replicate, List.replicate_append_replicate, runB_zero] at hd
    unfold sumN
    have := xor_twice (crc (BitVec.ofNat 32 0) a) (crc (BitVec.ofNat 32 0) b)
    rw [hd, BitVec.xor_zero] at this
    rw [this]
theorem bits8_inj (c e : UInt8) (h : bits8 c = bits8 e) : c = e := by
  have h1 := word_byte c
  rw [h, word_byte] at h1
  have h2 := congrArg BitVec.toNat h1
  rw [BitVec.toNat_ofNat, BitVec.toNat_ofNat] at h2
  have := c.toNat_lt
  have := e.toNat_lt
  apply UInt8.toNat_inj.1
  omega
theorem bitsL_inj (a b : List UInt8) (hl : a.length = b.length) (h : bitsL a = bitsL b) : a = b := by
  induction a generalizing b with
  | nil => cases b with
    | nil => rfl
    | cons e t => simp at hl
  | cons c s ih => cases b with
    | nil => simp at hl
    | cons e t =>
      rw [bitsL_cons, bitsL_cons] at h
      have := List.append_inj h (by rw [bits8_length, bits8_length])
      rw [bits8_inj c e this.1, ih t (by simpa using hl) this.2]
theorem zip_true (p q : List Bool) (hl : p.length = q.length) (h : p ≠ q) : true ∈ List.zipWith (· ^^ ·) p q := by
  induction p generalizing q with
  | nil => cases q with
    | nil => exact absurd rfl h
    | cons e t => simp at hl
  | cons c s ih => cases q with
    | nil => simp at hl
    | cons e t =>
      rw [List.zipWith_cons_cons]
      by_cases hce : c = e
      · subst hce
        exact List.mem_cons_of_mem _ (ih t (by simpa using hl) (fun hst => h (by rw [hst])))
      · have : (c ^^ e) = true := by cases c <;> cases e <;> simp_all
        rw [this]
        exact List.mem_cons_self
/-- Up to four bytes in the place of others. -/
theorem sum_placed (P A B S : List UInt8) (hl : A.length = B.length) (h4 : A.length ≤ 4) : sumN 0 (P ++ A ++ S) = sumN 0 (P ++ B ++ S) ↔ A = B := by
  rw [sum_burst (P ++ A ++ S) (P ++ B ++ S) (by simp [hl]) (bitsL P).length (bitsL S).length (List.zipWith (· ^^ ·) (bitsL A) (bitsL B)) (by rw [List.length_zipWith, bitsL_length, bitsL_length]; omega) (by
    rw [bitsL_append, bitsL_append, bitsL_append, bitsL_append, List.zipWith_append (by simp [bitsL_length, hl]), List.zipWith_append rfl, zip_self, zip_self, List.append_assoc])]
  constructor
  · intro h
    apply Classical.byContradiction
    intro hne
    exact h (zip_true _ _ (by rw [bitsL_length, bitsL_length, hl]) (fun he => hne (bitsL_inj A B hl he)))
  · intro h
    subst h
    rw [zip_self]
    simp
/-- Another byte in the place of one. -/
theorem sum_set (b : List UInt8) (k : Nat) (v : UInt8) (h : k < b.length) : sumN 0 (b.set k v) = sumN 0 b ↔ v = b[k] := by
  have e1 : b.set k v = b.take k ++ [v] ++ b.drop (k + 1) := by rw [List.set_eq_take_append_cons_drop, if_pos h]; simp
  have e2 : b = b.take k ++ [b[k]] ++ b.drop (k + 1) := by simp
  have h := sum_placed (b.take k) [v] [b[k]] (b.drop (k + 1)) rfl (by simp)
  rw [← e1, ← e2] at h
  rw [h]
  simp
/-- Two neighbours change places. -/
theorem sum_swap (b : List UInt8) (k : Nat) (h : k + 1 < b.length) : sumN 0 ((b.set k b[k + 1]).set (k + 1) b[k]) = sumN 0 b ↔ b[k] = b[k + 1] := by
  have e2 : b = b.take k ++ [b[k], b[k + 1]] ++ b.drop (k + 2) := by simp
  have e1 : (b.set k b[k + 1]).set (k + 1) b[k] = b.take k ++ [b[k + 1], b[k]] ++ b.drop (k + 2) := by
    apply List.ext_getElem
    · simp; omega
    · intro j h1 h2
      rw [List.getElem_set, List.getElem_set]
      simp only [List.append_assoc, List.cons_append, List.nil_append]
      rw [List.getElem_append]
      have hlen : (b.take k).length = k := by simp; omega
      by_cases hj : j < k
      · rw [if_neg (by omega), if_neg (by omega), dif_pos (by omega)]; simp
      · rw [dif_neg (by omega)]
        rcases (show j = k ∨ j = k + 1 ∨ k + 2 ≤ j by omega) with rfl | rfl | hj2
        · simp [hlen]
        · simp [hlen]
        · obtain ⟨d, rfl⟩ := Nat.le.dest hj2
          rw [if_neg (by omega), if_neg (by omega)]
          have : k + 2 + d - (b.take k).length = d + 1 + 1 := by omega
          simp only [this, List.getElem_cons_succ, List.getElem_drop]
  have h := sum_placed (b.take k) [b[k + 1], b[k]] [b[k], b[k + 1]] (b.drop (k + 2)) rfl (by simp)
  rw [← e1, ← e2] at h
  rw [h]
  constructor
  · intro h; simp at h; exact h.2
  · intro h; rw [h]
theorem four_inj (s t : Nat) (hs : s < 4294967296) (ht : t < 4294967296) (h : four s = four t) : s = t := by
  unfold four at h
  simp only [List.cons.injEq, and_true] at h
  have h1 := congrArg UInt8.toNat h.1
  have h2 := congrArg UInt8.toNat h.2.1
  have h3 := congrArg UInt8.toNat h.2.2.1
  have h4 := congrArg UInt8.toNat h.2.2.2
  rw [b8_mod, b8_mod] at h1 h2 h3 h4
  omega
end Go.Proofs.YteibkipcblmikaaDoor
