/-
  The document's functions on texts: tails, Formed, Right. They answer as the plain functions say; nothing that was there is changed. No conditions beyond those that each statement bears.
-/
import Derived.Test.YtimfeocaghccdaaDoorNBase
namespace Go.Proofs.YtimfeocaghccdaaDoor
set_option maxRecDepth 100000
open Go.RowKit
set_option linter.unusedVariables false

def TailsRet (c : Nat) (w : World) (e : Ending) (w' : World) : Prop := e = .returned (.tuple #[.int .i64 (((tl c).1 : Int) - 1), .int .u8 ((tl c).2.1 : Int), .int .u8 ((tl c).2.2 : Int)]) ∧ w' = w
theorem okT_short (n lo hi : Nat) (t : List UInt8) (h : t.length < n) : okT n lo hi t = false := by
  induction n generalizing lo hi t with
  | zero => omega
  | succ n ih =>
    cases t with
    | nil => rfl
    | cons c t =>
      rw [okT, ih 128 191 t (by simp at h; omega)]
      simp
theorem okT_get (n lo hi : Nat) (t : List UInt8) (j : Nat) (h : j < t.length) : okT (n + 1) lo hi (t.drop j) = (decide (lo ≤ t[j].toNat ∧ t[j].toNat ≤ hi) && okT n 128 191 (t.drop (j + 1))) := by
  rw [List.drop_eq_getElem_cons h, okT]
/-- What is well-formed from a place on. -/
def fAt (l : List UInt8) (i : Nat) : Bool := formed (l.drop i)
/-- Are the bytes behind a place's as they must be? -/
def tAt (l : List UInt8) (i n lo hi : Nat) : Bool := okT n lo hi (l.drop i)
theorem tAt_short (l : List UInt8) (i n lo hi : Nat) (h : l.length < i + n) (h0 : i ≤ l.length) : tAt l i n lo hi = false := okT_short _ _ _ _ (by rw [List.length_drop]; omega)
theorem tAt_step (l : List UInt8) (i n lo hi : Nat) (h : i < l.length) : tAt l i (n + 1) lo hi = (decide (lo ≤ l[i].toNat ∧ l[i].toNat ≤ hi) && tAt l (i + 1) n 128 191) := okT_get n lo hi l i h
theorem drop_ne (l : List UInt8) (i : Nat) (h : i < l.length) : l.drop i ≠ [] := fun e => by have := List.drop_eq_nil_iff.1 e; omega
theorem fAt_none (l : List UInt8) (i : Nat) (h : i < l.length) (h0 : (tl l[i].toNat).1 = 0) : fAt l i = false := by
  unfold fAt
  rw [formed_step _ (drop_ne l i h), List.drop_eq_getElem_cons h]
  simp [oneW, h0]
theorem fAt_bad (l : List UInt8) (i n : Nat) (h : i < l.length) (h0 : (tl l[i].toNat).1 = n + 1) (h1 : tAt l (i + 1) n (tl l[i].toNat).2.1 (tl l[i].toNat).2.2 = false) : fAt l i = false := by
  unfold fAt
  unfold tAt at h1
  rw [formed_step _ (drop_ne l i h), List.drop_eq_getElem_cons h]
  simp [oneW, h0, h1]
theorem fAt_good (l : List UInt8) (i n : Nat) (h : i < l.length) (h0 : (tl l[i].toNat).1 = n + 1) (h1 : tAt l (i + 1) n (tl l[i].toNat).2.1 (tl l[i].toNat).2.2 = true) : fAt l i = fAt l (i + 1 + n) := by
  have e : oneW (l.drop i) = n + 1 := by
    rw [List.drop_eq_getElem_cons h]
    unfold tAt at h1
    simp [oneW, h0, h1]
  unfold fAt
  rw [formed_step _ (drop_ne l i h), e, List.drop_drop]
  simp [Nat.add_assoc, Nat.add_comm 1 n]
theorem tl_le (c : Nat) : (tl c).1 ≤ 4 ∧ (tl c).2.1 < 256 ∧ (tl c).2.2 < 256 := by
  rcases tl_cases c with ⟨e, _⟩ | ⟨e, _⟩ | ⟨e, _⟩ | ⟨e, _⟩ | ⟨e, _⟩ | ⟨e, _⟩ | ⟨e, _⟩ | ⟨e, _⟩ | ⟨e, _⟩
  all_goals rw [e]; decide

/-- Yes or no is answered, the world is as it was. -/
def PureBool (b : Bool) (w : World) (e : Ending) (w' : World) : Prop := e = .returned (.bool b) ∧ w' = w
def FormedRel (l : List UInt8) (v : Value) : Prop := ∃ i, i ≤ l.length ∧ v = .int .i64 (i : Int) ∧ fAt l i = formed l
def TailRel (l : List UInt8) (i n : Nat) (V : Bool) (a b c : Value) : Prop :=
  ∃ k lo hi : Nat, 1 ≤ k ∧ k ≤ n + 1 ∧ lo < 256 ∧ hi < 256 ∧ a = .int .u8 (lo : Int) ∧ b = .int .u8 (hi : Int) ∧ c = .int .i64 (k : Int) ∧ tAt l (i + k) (n + 1 - k) lo hi = V
end Go.Proofs.YtimfeocaghccdaaDoor
