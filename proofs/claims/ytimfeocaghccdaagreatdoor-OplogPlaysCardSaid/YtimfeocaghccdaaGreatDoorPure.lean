/-
  The plain numbers and lists behind package pack: a number's form, a text's form, what is read off bytes; no program, no world. No conditions beyond those that each statement bears.
-/
import Derived.Test.YtimfeocaghccdaaGreatDoorBase
namespace Go.Proofs.YtimfeocaghccdaaGreatDoor
set_option maxRecDepth 100000

/-- How many bytes a number's form has ahead of its last one. -/
def ext (n : Nat) : Nat := if n < 128 then 0 else if n < 16384 then 1 else if n < 2097152 then 2 else if n < 268435456 then 3 else 4

/-- The form with j bytes ahead of the last one. -/
def formX : Nat → Nat → List UInt8
  | 0, m => [b8 m]
  | j + 1, m => b8 (m % 128 + 128) :: formX j (m / 128)

/-- A number's form. -/
def form (n : Nat) : List UInt8 := formX (ext n) n

/-- What Number gives: no bytes where the number is out of range. -/
def num (n : Int) : List UInt8 := if n < 0 ∨ 4294967295 < n then [] else form n.toNat

/-- What Text gives. -/
def txt (s : List UInt8) : List UInt8 := if 4096 < s.length then [] else form s.length ++ s

theorem formX_length (j m : Nat) : (formX j m).length = j + 1 := by
  induction j generalizing m with
  | zero => rfl
  | succ j ih => simp [formX, ih]
theorem ext_le (n : Nat) : ext n ≤ 4 := by unfold ext; repeat' split
                                           all_goals omega
theorem form_length (n : Nat) : (form n).length = ext n + 1 := formX_length _ _
theorem ext_small (n : Nat) (h : n < 128) : ext n = 0 := by unfold ext; rw [if_pos h]
theorem ext_big (n : Nat) (h : 128 ≤ n) (h1 : n < 34359738368) : ext n = ext (n / 128) + 1 := by
  unfold ext; repeat' split
  all_goals omega
theorem ext_mono (a b : Nat) (h : a ≤ b) : ext a ≤ ext b := by
  unfold ext; repeat' split
  all_goals omega
theorem form_small (n : Nat) (h : n < 128) : form n = [b8 n] := by unfold form; rw [ext_small n h]; rfl
theorem form_big (n : Nat) (h : 128 ≤ n) (h1 : n < 34359738368) : form n = b8 (n % 128 + 128) :: form (n / 128) := by
  unfold form; rw [ext_big n h h1]; rfl
theorem num_in (n : Int) (h0 : 0 ≤ n) (h1 : n ≤ 4294967295) : num n = form n.toNat := by unfold num; rw [if_neg (by omega)]
theorem num_out (n : Int) (h : n < 0 ∨ 4294967295 < n) : num n = [] := by unfold num; rw [if_pos h]
theorem txt_in (s : List UInt8) (h : s.length ≤ 4096) : txt s = form s.length ++ s := by unfold txt; rw [if_neg (by omega)]
theorem txt_out (s : List UInt8) (h : 4096 < s.length) : txt s = [] := by unfold txt; rw [if_pos h]

/-- What scan gives: number, size, what is wrong. -/
def scanF : Nat → Nat → Nat → List UInt8 → Nat × Nat × Nat
  | 0, _, _, _ => (0, 0, 3)
  | _ + 1, _, _, [] => (0, 0, 2)
  | f + 1, i, acc, x :: t =>
    if 128 ≤ x.toNat then scanF f (i + 1) (acc + x.toNat % 128 * 128 ^ i) t
    else if x.toNat = 0 ∧ 0 < i then (0, 0, 3)
    else (acc + x.toNat % 128 * 128 ^ i, i + 1, 0)
def scan (l : List UInt8) : Nat × Nat × Nat := scanF 5 0 0 l

theorem scanF_err (f i acc : Nat) (l : List UInt8) : (scanF f i acc l).2.2 = 0 ∨ (scanF f i acc l).2.2 = 2 ∨ (scanF f i acc l).2.2 = 3 := by
  induction f generalizing i acc l with
  | zero => simp [scanF]
  | succ f ih =>
    cases l with
    | nil => simp [scanF]
    | cons x t =>
      unfold scanF
      split
      · exact ih _ _ _
      · split <;> simp
theorem scanF_size (f i acc : Nat) (l : List UInt8) (h : (scanF f i acc l).2.2 = 0) :
    i < (scanF f i acc l).2.1 ∧ (scanF f i acc l).2.1 ≤ i + l.length ∧ (scanF f i acc l).2.1 ≤ i + f := by
  induction f generalizing i acc l with
  | zero => simp [scanF] at h
  | succ f ih =>
    cases l with
    | nil => simp [scanF] at h
    | cons x t =>
      unfold scanF at h ⊢
      split
      · rename_i hx
        rw [if_pos hx] at h
        have := ih _ _ _ h
        simp only [List.length_cons]
        omega
      · rename_i hx
        rw [if_neg hx] at h
        split
        · rename_i h0
          rw [if_pos h0] at h
          simp at h
        · simp

/-- A reader's state: what isn't read, what was wrong. Number's answer and the new state. -/
def rNum (most : Int) (l : List UInt8) (e : Nat) : Nat × List UInt8 × Nat :=
  if e ≠ 0 then (0, l, e)
  else if (scan l).2.2 ≠ 0 then (0, [], (scan l).2.2)
  else if min most 4294967295 < ((scan l).1 : Int) then (0, [], 3)
  else ((scan l).1, l.drop (scan l).2.1, 0)

/-- Text's answer and the new state. -/
def rTxt (most : Int) (l : List UInt8) (e : Nat) : List UInt8 × List UInt8 × Nat :=
  if (rNum most l e).2.2 ≠ 0 then ([], (rNum most l e).2.1, (rNum most l e).2.2)
  else if (rNum most l e).2.1.length < (rNum most l e).1 then ([], [], 2)
  else ((rNum most l e).2.1.take (rNum most l e).1, (rNum most l e).2.1.drop (rNum most l e).1, 0)

/-- What is written is scanned. -/
theorem scanF_formX (j f i acc m : Nat) (t : List UInt8) (hj : j < f) (hm : m < 128 ^ (j + 1)) (hz : j ≠ 0 ∨ 0 < i → m / 128 ^ j ≠ 0) (hp : j = 0 → 0 < i → m ≠ 0) :
    scanF f i acc (formX j m ++ t) = (acc + m * 128 ^ i, i + j + 1, 0) := by
  induction j generalizing f i acc m with
  | zero =>
    obtain ⟨f, rfl⟩ := Nat.exists_eq_succ_of_ne_zero (show f ≠ 0 by omega)
    have hm' : m < 128 := by simpa using hm
    have e1 : (b8 m).toNat = m := b8_toNat _ (by omega)
    have c1 : ¬ (128 ≤ m) := by omega
    have c2 : ¬ (m = 0 ∧ 0 < i) := by intro ⟨a, b⟩; exact hp rfl b a
    simp [formX, scanF, e1, c1, c2, Nat.mod_eq_of_lt hm']
  | succ j ih =>
    obtain ⟨f, rfl⟩ := Nat.exists_eq_succ_of_ne_zero (show f ≠ 0 by omega)
    have e1 : (b8 (m % 128 + 128)).toNat = m % 128 + 128 := b8_toNat _ (by omega)
    have c1 : 128 ≤ m % 128 + 128 := by omega
    have hd : m / 128 < 128 ^ (j + 1) := by
      rw [Nat.div_lt_iff_lt_mul (by omega)]
      rw [Nat.pow_succ] at hm
      exact hm
    have hq : m / 128 / 128 ^ j = m / 128 ^ (j + 1) := by
      rw [Nat.div_div_eq_div_mul, Nat.pow_succ, Nat.mul_comm]
    have hnz : m / 128 ^ (j + 1) ≠ 0 := hz (.inl (by omega))
    have := ih f (i + 1) (acc + (m % 128 + 128) % 128 * 128 ^ i) (m / 128) (by omega) hd (fun _ => by rw [hq]; exact hnz) (by
      intro h0 _ hc
      subst h0
      simp at hnz
      omega)
    simp only [formX, List.cons_append, scanF, e1, if_pos c1, this]
    have e2 : acc + (m % 128 + 128) % 128 * 128 ^ i + m / 128 * 128 ^ (i + 1) = acc + m * 128 ^ i := by
      rw [Nat.pow_succ, Nat.add_mod_right, Nat.mod_mod, Nat.mul_comm (128 ^ i) 128, ← Nat.mul_assoc, Nat.add_assoc, ← Nat.add_mul]
      congr 2
      omega
    rw [e2]
    congr 2
    omega

theorem ext_pow (n : Nat) (h : n < 4294967296) : n < 128 ^ (ext n + 1) ∧ (ext n ≠ 0 → n / 128 ^ ext n ≠ 0) := by
  unfold ext
  repeat' split
  all_goals refine ⟨?_, fun hh => ?_⟩
  all_goals simp only [Nat.reduceAdd, Nat.reducePow] at *
  all_goals omega

theorem scan_form (n : Nat) (h : n < 4294967296) (t : List UInt8) : scan (form n ++ t) = (n, (form n).length, 0) := by
  have hp := ext_pow n h
  have he := ext_le n
  unfold scan
  rw [form_length]
  have := scanF_formX (ext n) 5 0 0 n t (by omega) hp.1 (fun hh => hp.2 (by omega)) (by omega)
  unfold form
  rw [this]
  simp
end Go.Proofs.YtimfeocaghccdaaGreatDoor
