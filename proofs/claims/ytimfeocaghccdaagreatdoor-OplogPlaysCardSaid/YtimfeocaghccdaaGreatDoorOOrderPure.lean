/-
  Operations stand in one order: turned about the answer turns, only like ones are alike, what is no more than something that is no more than a third one is no more than that. No conditions.
-/
import Derived.Test.YtimfeocaghccdaaGreatDoorOPure
namespace Go.Proofs.YtimfeocaghccdaaGreatDoor
set_option maxRecDepth 100000
open Go.RowKit
set_option linter.unusedVariables false

/-- What answers how two are to each other, and stands for one order. -/
structure OneOrder {α : Type} (f : α → α → Int) : Prop where
  small : ∀ a b, f a b = -1 ∨ f a b = 0 ∨ f a b = 1
  turn : ∀ a b, f b a = - f a b
  like : ∀ a b, f a b = 0 → a = b
  same : ∀ a, f a a = 0
  on : ∀ a b c, f a b ≤ 0 → f b c ≤ 0 → f a c ≤ 0
theorem OneOrder.up {α : Type} {f : α → α → Int} (h : OneOrder f) (a b c : α) (h1 : 0 ≤ f a b) (h2 : 0 ≤ f b c) : 0 ≤ f a c := by
  have := h.on c b a (by rw [h.turn b c]; omega) (by rw [h.turn a b]; omega)
  rw [h.turn a c] at this
  omega
/-- First one, then the other. -/
def both {α β : Type} (f : α → α → Int) (g : β → β → Int) (p q : α × β) : Int := if f p.1 q.1 ≠ 0 then f p.1 q.1 else g p.2 q.2
theorem OneOrder.both {α β : Type} {f : α → α → Int} {g : β → β → Int} (hf : OneOrder f) (hg : OneOrder g) : OneOrder (both f g) := by
  refine ⟨?_, ?_, ?_, ?_, ?_⟩
  · intro a b
    unfold Proofs.YtimfeocaghccdaaGreatDoor.both
    split
    · exact hf.small _ _
    · exact hg.small _ _
  · intro a b
    unfold Proofs.YtimfeocaghccdaaGreatDoor.both
    rw [hf.turn a.1 b.1, hg.turn a.2 b.2]
    split <;> split <;> omega
  · rintro ⟨a, a2⟩ ⟨b, b2⟩ h
    unfold Proofs.YtimfeocaghccdaaGreatDoor.both at h
    split at h
    · contradiction
    · rename_i h0
      rw [hf.like a b (by simpa using h0), hg.like a2 b2 h]
  · intro a
    unfold Proofs.YtimfeocaghccdaaGreatDoor.both
    rw [hf.same, hg.same]
    rfl
  · rintro ⟨a, a2⟩ ⟨b, b2⟩ ⟨c, c2⟩ h1 h2
    unfold Proofs.YtimfeocaghccdaaGreatDoor.both at h1 h2 ⊢
    simp only at h1 h2 ⊢
    have l1 : f a b ≤ 0 := by split at h1 <;> omega
    have l2 : f b c ≤ 0 := by split at h2 <;> omega
    have l3 := hf.on a b c l1 l2
    split
    · exact l3
    · rename_i h0
      have e : a = c := hf.like a c (by simpa using h0)
      subst e
      have t := hf.turn a b
      have z : f a b = 0 := by omega
      have e := hf.like a b z
      subst e
      rw [if_neg (by simpa using z)] at h1 h2
      exact hg.on _ _ _ h1 h2
theorem cm_order : OneOrder cm := by
  refine ⟨?_, ?_, fun a b h => cm_eq h, cm_self, ?_⟩
  · intro a b
    unfold cm
    split
    · omega
    · split <;> omega
  · intro a b
    unfold cm
    split <;> split <;> (try split) <;> omega
  · intro a b c h1 h2
    unfold cm at *
    split at h1 <;> split at h2 <;> (try split at h1) <;> (try split at h2) <;> split <;> (try split) <;> omega
theorem cN_cons (x y : UInt8) (a b : List UInt8) : cN (x :: a) (y :: b) = if cm x.toNat y.toNat ≠ 0 then cm x.toNat y.toNat else cN a b := by
  unfold cN
  rw [Lib.compareBytes]
  unfold cm
  by_cases h1 : x < y
  · have : (x.toNat : Int) < y.toNat := by have := UInt8.lt_iff_toNat_lt.1 h1; omega
    rw [if_pos h1, if_pos this, if_pos (by decide)]
  · have g1 : ¬ (x.toNat : Int) < y.toNat := fun h => h1 (UInt8.lt_iff_toNat_lt.2 (by omega))
    rw [if_neg h1, if_neg g1]
    by_cases h2 : y < x
    · have : (y.toNat : Int) < x.toNat := by have := UInt8.lt_iff_toNat_lt.1 h2; omega
      rw [if_pos h2, if_pos this, if_pos (by decide)]
    · have g2 : ¬ (y.toNat : Int) < x.toNat := fun h => h2 (UInt8.lt_iff_toNat_lt.2 (by omega))
      rw [if_neg h2, if_neg g2, if_neg (by simp)]
theorem cN_small : ∀ a b : List UInt8, cN a b = -1 ∨ cN a b = 0 ∨ cN a b = 1
  | [], [] => .inr (.inl rfl)
  | [], _ :: _ => .inl rfl
  | _ :: _, [] => .inr (.inr rfl)
  | x :: a, y :: b => by
    rw [cN_cons]
    split
    · exact cm_order.small _ _
    · exact cN_small a b
theorem cN_turn : ∀ a b : List UInt8, cN b a = - cN a b
  | [], [] => rfl
  | [], _ :: _ => rfl
  | _ :: _, [] => rfl
  | x :: a, y :: b => by
    have t := cm_order.turn (x.toNat : Int) y.toNat
    have i := cN_turn a b
    rw [cN_cons, cN_cons, t, i]
    split <;> split <;> omega
theorem cN_on : ∀ a b c : List UInt8, cN a b ≤ 0 → cN b c ≤ 0 → cN a c ≤ 0
  | [], _, [], _, _ => by decide
  | [], _, _ :: _, _, _ => by show (-1 : Int) ≤ 0; decide
  | _ :: _, [], _, h, _ => by exact absurd (show (1 : Int) ≤ 0 from h) (by decide)
  | _ :: _, _ :: _, [], _, h => by exact absurd (show (1 : Int) ≤ 0 from h) (by decide)
  | x :: a, y :: b, z :: c, h1, h2 => by
    rw [cN_cons] at h1 h2 ⊢
    have l1 : cm x.toNat y.toNat ≤ 0 := by split at h1 <;> omega
    have l2 : cm y.toNat z.toNat ≤ 0 := by split at h2 <;> omega
    have l3 := cm_order.on _ _ _ l1 l2
    split
    · exact l3
    · rename_i h0
      have e1 := cm_eq (by simpa using h0)
      have t := cm_order.turn (x.toNat : Int) y.toNat
      rw [← e1] at l2 h2
      have z1 : cm x.toNat y.toNat = 0 := by omega
      have z2 : cm y.toNat x.toNat = 0 := by omega
      rw [if_neg (by simpa using z1)] at h1
      rw [if_neg (by simpa using z2)] at h2
      exact cN_on a b c h1 h2
theorem cN_order : OneOrder cN := ⟨cN_small, cN_turn, cN_eq, cN_self, cN_on⟩
/-- An operation as a heap of parts. -/
abbrev OpT := (Int × Int) × Int × Int × List UInt8
def opF : OpT → OpT → Int := both (both cm cm) (both cm (both cm cN))
theorem opF_order : OneOrder opF := (cm_order.both cm_order).both (cm_order.both (cm_order.both cN_order))
theorem opC_F (n r d t : Int) (l : List UInt8) (m s e u : Int) (k : List UInt8) : opC n r d t l m s e u k = opF ((n, r), d, t, l) ((m, s), e, u, k) := rfl
theorem opC_like (n r d t : Int) (l : List UInt8) (m s e u : Int) (k : List UInt8) : (opC n r d t l m s e u k = 0) ↔ (n = m ∧ r = s ∧ d = e ∧ t = u ∧ l = k) := by
  constructor
  · intro h
    rw [opC_F] at h
    have := opF_order.like _ _ h
    simp only [Prod.mk.injEq] at this
    exact ⟨this.1.1, this.1.2, this.2.1, this.2.2.1, this.2.2.2⟩
  · rintro ⟨rfl, rfl, rfl, rfl, rfl⟩
    rw [opC_F]
    exact opF_order.same _
theorem opC_turn (n r d t : Int) (l : List UInt8) (m s e u : Int) (k : List UInt8) : -(opC n r d t l m s e u k) = opC m s e u k n r d t l := by
  rw [opC_F, opC_F]
  exact (opF_order.turn _ _).symm
theorem opC_on (n r d t : Int) (l : List UInt8) (m s e u : Int) (k : List UInt8) (n3 r3 d3 t3 : Int) (l3 : List UInt8) : opC n r d t l m s e u k ≤ 0 → opC m s e u k n3 r3 d3 t3 l3 ≤ 0 → opC n r d t l n3 r3 d3 t3 l3 ≤ 0 := by
  rw [opC_F, opC_F, opC_F]
  exact opF_order.on _ _ _
theorem opC_up (n r d t : Int) (l : List UInt8) (m s e u : Int) (k : List UInt8) (n3 r3 d3 t3 : Int) (l3 : List UInt8) : 0 ≤ opC n r d t l m s e u k → 0 ≤ opC m s e u k n3 r3 d3 t3 l3 → 0 ≤ opC n r d t l n3 r3 d3 t3 l3 := by
  rw [opC_F, opC_F, opC_F]
  exact opF_order.up _ _ _
theorem opC_small (n r d t : Int) (l : List UInt8) (m s e u : Int) (k : List UInt8) : opC n r d t l m s e u k = -1 ∨ opC n r d t l m s e u k = 0 ∨ opC n r d t l m s e u k = 1 := by
  rw [opC_F]
  exact opF_order.small _ _
end Go.Proofs.YtimfeocaghccdaaGreatDoor
