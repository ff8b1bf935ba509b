/-
  What scan gives, told by where the first byte below 128 stands; the value of bytes, the last first. No program, no world; no conditions beyond those that each statement bears.
-/
import Derived.Test.YteibkipcblmikaaDoorM1
namespace Go.Proofs.YteibkipcblmikaaDoor
set_option maxRecDepth 100000

/-- The value of bytes, seven digits each, the lowest first. -/
def lv : List UInt8 → Nat
  | [] => 0
  | x :: t => x.toNat % 128 + 128 * lv t

theorem lv_lt (l : List UInt8) : lv l < 128 ^ l.length := by
  induction l with
  | nil => simp [lv]
  | cons x t ih => simp only [lv, List.length_cons, Nat.pow_succ]; omega

theorem scanF_none (f i acc : Nat) (l : List UInt8) (h : ∀ j (hj : j < l.length), j < f → 128 ≤ l[j].toNat) : scanF f i acc l = if l.length < f then (0, 0, 2) else (0, 0, 3) := by
  induction f generalizing i acc l with
  | zero => simp [scanF]
  | succ f ih =>
    cases l with
    | nil => simp [scanF]
    | cons x t =>
      have h0 : 128 ≤ x.toNat := h 0 (by simp) (by omega)
      have := ih (i + 1) (acc + x.toNat % 128 * 128 ^ i) t (fun j hj hf => by
        have := h (j + 1) (by simpa using hj) (by omega)
        simpa using this)
      simp only [scanF, if_pos h0, this, List.length_cons, Nat.add_lt_add_iff_right]

theorem scanF_at (k f i acc : Nat) (l : List UInt8) (hk : k < l.length) (hf : k < f) (h : ∀ j (hj : j < l.length), j < k → 128 ≤ l[j].toNat) (hx : l[k].toNat < 128) :
    scanF f i acc l = if l[k].toNat = 0 ∧ 0 < i + k then (0, 0, 3) else (acc + lv (l.take (k + 1)) * 128 ^ i, i + k + 1, 0) := by
  induction k generalizing f i acc l with
  | zero =>
    obtain ⟨f, rfl⟩ := Nat.exists_eq_succ_of_ne_zero (show f ≠ 0 by omega)
    cases l with
    | nil => simp at hk
    | cons x t =>
      simp only [List.getElem_cons_zero] at hx ⊢
      have hx' : ¬ 128 ≤ x.toNat := by omega
      simp only [scanF, if_neg hx', Nat.add_zero, List.take_succ_cons, List.take_zero, lv, Nat.mul_zero]
  | succ k ih =>
    obtain ⟨f, rfl⟩ := Nat.exists_eq_succ_of_ne_zero (show f ≠ 0 by omega)
    cases l with
    | nil => simp at hk
    | cons x t =>
      have h0 : 128 ≤ x.toNat := h 0 (by simp) (by omega)
      have hk' : k < t.length := by simpa using hk
      have := ih f (i + 1) (acc + x.toNat % 128 * 128 ^ i) t hk' (by omega) (fun j hj hf => by
        have := h (j + 1) (by simpa using hj) (by omega)
        simpa using this) (by simpa using hx)
      simp only [scanF, if_pos h0, this, List.getElem_cons_succ, List.take_succ_cons, lv]
      have e1 : i + 1 + k = i + (k + 1) := by omega
      rw [e1]
      have e2 : acc + x.toNat % 128 * 128 ^ i + lv (t.take (k + 1)) * 128 ^ (i + 1) = acc + (x.toNat % 128 + 128 * lv (t.take (k + 1))) * 128 ^ i := by
        rw [Nat.pow_succ, Nat.add_mul, Nat.add_assoc]
        congr 2
        rw [Nat.mul_comm (128 ^ i) 128, ← Nat.mul_assoc, Nat.mul_comm (lv _) 128]
      rw [e2]

theorem scan_none5 (l : List UInt8) (h : ∀ j (hj : j < l.length), j < 5 → 128 ≤ l[j].toNat) : scan l = if l.length < 5 then (0, 0, 2) else (0, 0, 3) := scanF_none 5 0 0 l h
theorem scan_at5 (k : Nat) (l : List UInt8) (hk : k < l.length) (hf : k < 5) (h : ∀ j (hj : j < l.length), j < k → 128 ≤ l[j].toNat) (hx : l[k].toNat < 128) :
    scan l = if l[k].toNat = 0 ∧ 0 < k then (0, 0, 3) else (lv (l.take (k + 1)), k + 1, 0) := by
  have := scanF_at k 5 0 0 l hk hf h hx
  simpa [scan] using this

/-- One step of the value, from the last byte on. -/
theorem lv_step (l : List UInt8) (q i : Nat) (hi : i < q) (hq : q ≤ l.length) : lv ((l.take q).drop i) = l[i].toNat % 128 + 128 * lv ((l.take q).drop (i + 1)) := by
  have h : i < (l.take q).length := by rw [List.length_take]; omega
  rw [List.drop_eq_getElem_cons h]
  simp [lv]
theorem lv_end (l : List UInt8) (q : Nat) : lv ((l.take q).drop q) = 0 := by
  rw [List.drop_eq_nil_of_le (by rw [List.length_take]; omega)]
  rfl
theorem lv_bound (l : List UInt8) (q i : Nat) (hq : q ≤ 5) : lv ((l.take q).drop i) < 34359738368 := by
  have h := lv_lt ((l.take q).drop i)
  have hl : ((l.take q).drop i).length ≤ 5 := by rw [List.length_drop, List.length_take]; omega
  have := Nat.pow_le_pow_right (show 0 < 128 by omega) hl
  have e : (128 : Nat) ^ 5 = 34359738368 := by decide
  omega

/-- Number, told by what scan gives. -/
theorem rNum_bad (most : Int) (l : List UInt8) (x : Nat) (e : scan l = (0, 0, x)) (hx : x ≠ 0) : rNum most l 0 = (0, [], x) := by
  unfold rNum
  rw [e, if_neg (by simp), if_pos hx]
theorem rNum_over (most : Int) (l : List UInt8) (n q : Nat) (e : scan l = (n, q, 0)) (h : min most 4294967295 < (n : Int)) : rNum most l 0 = (0, [], 3) := by
  unfold rNum
  rw [e, if_neg (by simp), if_neg (by simp), if_pos h]
theorem rNum_good (most : Int) (l : List UInt8) (n q : Nat) (e : scan l = (n, q, 0)) (h : ¬ min most 4294967295 < (n : Int)) : rNum most l 0 = (n, l.drop q, 0) := by
  unfold rNum
  rw [e, if_neg (by simp), if_neg (by simp), if_neg h]

/-- Number, told by where the first byte below 128 stands. -/
theorem rNum_short (most : Int) (l : List UInt8) (h : ∀ j (hj : j < l.length), j < 5 → 128 ≤ l[j].toNat) (hl : l.length < 5) : rNum most l 0 = (0, [], 2) :=
  rNum_bad most l 2 (by rw [scan_none5 l h, if_pos hl]) (by decide)
theorem rNum_long (most : Int) (l : List UInt8) (h : ∀ j (hj : j < l.length), j < 5 → 128 ≤ l[j].toNat) (hl : 5 ≤ l.length) : rNum most l 0 = (0, [], 3) :=
  rNum_bad most l 3 (by rw [scan_none5 l h, if_neg (by omega)]) (by decide)
theorem rNum_zero (most : Int) (k : Nat) (l : List UInt8) (hk : k < l.length) (hf : k < 5) (h : ∀ j (hj : j < l.length), j < k → 128 ≤ l[j].toNat) (h0 : l[k].toNat = 0) (hk0 : 0 < k) : rNum most l 0 = (0, [], 3) :=
  rNum_bad most l 3 (by rw [scan_at5 k l hk hf h (by omega), if_pos ⟨h0, hk0⟩]) (by decide)
theorem rNum_above (most : Int) (k : Nat) (l : List UInt8) (hk : k < l.length) (hf : k < 5) (h : ∀ j (hj : j < l.length), j < k → 128 ≤ l[j].toNat) (hx : l[k].toNat < 128) (h0 : ¬ (l[k].toNat = 0 ∧ 0 < k))
    (hm : 4294967295 < (lv (l.take (k + 1)) : Int) ∨ most < (lv (l.take (k + 1)) : Int)) : rNum most l 0 = (0, [], 3) :=
  rNum_over most l _ _ (by rw [scan_at5 k l hk hf h hx, if_neg h0]) (by omega)
theorem rNum_right (most : Int) (k : Nat) (l : List UInt8) (hk : k < l.length) (hf : k < 5) (h : ∀ j (hj : j < l.length), j < k → 128 ≤ l[j].toNat) (hx : l[k].toNat < 128) (h0 : ¬ (l[k].toNat = 0 ∧ 0 < k))
    (hm : (lv (l.take (k + 1)) : Int) ≤ 4294967295 ∧ (lv (l.take (k + 1)) : Int) ≤ most) : rNum most l 0 = (lv (l.take (k + 1)), l.drop (k + 1), 0) :=
  rNum_good most l _ _ (by rw [scan_at5 k l hk hf h hx, if_neg h0]) (by omega)
end Go.Proofs.YteibkipcblmikaaDoor
