/-
  Balanced trees, plain: how high they are, small ones; lists in order stay in order. No conditions.
-/
import Derived.Test.YtcckamajiebgeaaPTree
namespace Go.Proofs.Ytcckamajiebgeaa
set_option linter.unusedVariables false
set_option linter.unusedSimpArgs false

abbrev Srt (l : List Pp) : Prop := l.Pairwise fun a b => a.1 < b.1
theorem woP_srt {k : Int} {l : List Pp} (h : Srt l) : Srt (woP k l) := h.sublist List.filter_sublist
theorem wiP_srt {k v : Int} : ∀ {l : List Pp}, Srt l → Srt (wiP k v l) ∧ ∀ x ∈ wiP k v l, x = (k, v) ∨ x ∈ l
  | [], _ => ⟨List.pairwise_singleton _ _, fun x hx => by simp [wiP] at hx; exact .inl hx⟩
  | y :: l, h => by
    obtain ⟨h1, h2⟩ := List.pairwise_cons.1 h
    unfold wiP
    split
    · rename_i hk
      refine ⟨List.pairwise_cons.2 ⟨fun x hx => ?_, woP_srt h⟩, fun x hx => ?_⟩
      · obtain ⟨hm, hne⟩ := List.mem_filter.1 hx
        have hne' : x.1 ≠ k := by simpa using hne
        rcases List.mem_cons.1 hm with rfl | hm
        · show k < x.1
          omega
        · have := h1 x hm
          show k < x.1
          omega
      · rcases List.mem_cons.1 hx with rfl | hx
        · exact .inl rfl
        · exact .inr (List.mem_filter.1 hx).1
    · rename_i hk
      obtain ⟨i1, i2⟩ := wiP_srt (k := k) (v := v) h2
      refine ⟨List.pairwise_cons.2 ⟨fun x hx => ?_, i1⟩, fun x hx => ?_⟩
      · rcases i2 x hx with rfl | hx
        · show y.1 < k
          omega
        · exact h1 x hx
      · rcases List.mem_cons.1 hx with rfl | hx
        · exact .inr (List.mem_cons_self ..)
        · rcases i2 x hx with e | hx
          · exact .inl e
          · exact .inr (List.mem_cons_of_mem _ hx)
/-- The fewest nodes of a height. -/
def mnN : Nat → Nat
  | 0 => 0
  | 1 => 1
  | h + 2 => mnN (h + 1) + mnN h + 1
theorem mnN_mono : ∀ h, mnN h ≤ mnN (h + 1)
  | 0 => by simp [mnN]
  | h + 1 => by
    show mnN (h + 1) ≤ mnN (h + 1) + mnN h + 1
    omega
namespace Tr
theorem Bal.many : ∀ {T : Tr}, Bal T → mnN T.high ≤ T.prs.length
  | nil, _ => Nat.le_refl _
  | node h k v l r, ⟨h1, h2, h3, h4⟩ => by
    have il := Bal.many h3
    have ir := Bal.many h4
    simp only [high, prs, List.length_append, List.length_cons]
    have hm : max l.high r.high = l.high ∨ max l.high r.high = r.high := by omega
    rcases hm with e | e
    · rw [e]
      cases hl : l.high with
      | zero => simp [mnN]; omega
      | succ m =>
        rw [show 1 + (m + 1) = m + 2 by omega]
        show mnN (m + 1) + mnN m + 1 ≤ _
        rw [hl] at il
        have : mnN m ≤ mnN r.high := by
          have hr : r.high = m ∨ r.high = m + 1 := by omega
          rcases hr with e | e
          · rw [e]; exact Nat.le_refl _
          · rw [e]; exact mnN_mono m
        omega
    · rw [e]
      cases hr : r.high with
      | zero => simp [mnN]; omega
      | succ m =>
        rw [show 1 + (m + 1) = m + 2 by omega]
        show mnN (m + 1) + mnN m + 1 ≤ _
        rw [hr] at ir
        have : mnN m ≤ mnN l.high := by
          have hl : l.high = m ∨ l.high = m + 1 := by omega
          rcases hl with e | e
          · rw [e]; exact Nat.le_refl _
          · rw [e]; exact mnN_mono m
        omega
theorem mnN_le {a b : Nat} (h : a ≤ b) : mnN a ≤ mnN b := by
  induction h with
  | refl => exact Nat.le_refl _
  | step _ ih => exact Nat.le_trans ih (mnN_mono _)
/-- A balanced tree of at most ninety-nine nodes is at most nine high; of at most thirty, seven. -/
theorem Bal.high9 {T : Tr} (h : Bal T) (hn : T.prs.length ≤ 142) : T.high ≤ 9 := by
  apply Classical.byContradiction
  intro hc
  have h1 := h.many
  have h2 := mnN_le (show 10 ≤ T.high by omega)
  have h3 : mnN 10 = 143 := by decide
  omega
theorem Bal.high_le {T : Tr} (h : Bal T) {m : Nat} (hn : T.prs.length < mnN (m + 1)) : T.high ≤ m := by
  apply Classical.byContradiction
  intro hc
  have h1 := h.many
  have h2 := mnN_le (show m + 1 ≤ T.high by omega)
  omega
theorem nil_of {T : Tr} (h : T.prs = []) : T = nil := by
  cases T with
  | nil => rfl
  | node h k v l r => simp [prs] at h
theorem prs_nil {T : Tr} : T.prs.length = 0 ↔ T = nil := by
  constructor
  · intro h
    exact nil_of (List.length_eq_zero_iff.1 h)
  · rintro rfl
    rfl
/-- A tree of one. -/
theorem one_of {T : Tr} {k v : Int} (h : T.prs = [(k, v)]) : ∃ g, T = node g k v nil nil := by
  cases T with
  | nil => simp [prs] at h
  | node g k' v' l r =>
    have hl := congrArg List.length h
    simp only [prs, List.length_append, List.length_cons, List.length_nil] at hl
    have e1 := prs_nil.1 (show l.prs.length = 0 by omega)
    have e2 := prs_nil.1 (show r.prs.length = 0 by omega)
    subst e1 e2
    simp [prs] at h
    obtain ⟨rfl, rfl⟩ := h
    exact ⟨g, rfl⟩
/-- A balanced tree of three. -/
theorem three_of {T : Tr} {a b c : Pp} (h : T.prs = [a, b, c]) (hb : Bal T) : ∃ g l r, T = node g b.1 b.2 l r ∧ T.high = 2 := by
  cases T with
  | nil => simp [prs] at h
  | node g k v l r =>
    obtain ⟨b1, b2, b3, b4⟩ := hb
    have hl := congrArg List.length h
    simp only [prs, List.length_append, List.length_cons, List.length_nil] at hl
    have ml := b3.many
    have mr := b4.many
    have h1l := b3.high_le (m := 2) (by show _ < mnN 3; have : mnN 3 = 4 := by decide
                                        omega)
    have h1r := b4.high_le (m := 2) (by show _ < mnN 3; have : mnN 3 = 4 := by decide
                                        omega)
    have hz : ∀ {U : Tr}, U.high = 0 → U.prs.length = 0 := fun {U} hU => by
      cases U with
      | nil => rfl
      | node _ _ _ l r => simp [high] at hU
    have hhl := l.high_le
    have hhr := r.high_le
    have m2 : mnN 2 = 2 := by decide
    have hll : l.prs.length = 1 := by
      have q1 : l.prs.length = 0 → l.high = 0 := fun e => by rw [prs_nil.1 e]; rfl
      have q2 : r.prs.length = 0 → r.high = 0 := fun e => by rw [prs_nil.1 e]; rfl
      have q3 : 2 ≤ l.prs.length → 2 ≤ l.high := fun e => by
        apply Classical.byContradiction
        intro hc
        cases l with
        | nil => simp [prs] at e
        | node g' k' v' l' r' =>
          have z1 := hz (U := l') (by simp [high] at hc; omega)
          have z2 := hz (U := r') (by simp [high] at hc; omega)
          simp [prs, z1, z2] at e
      have q4 : 2 ≤ r.prs.length → 2 ≤ r.high := fun e => by
        apply Classical.byContradiction
        intro hc
        cases r with
        | nil => simp [prs] at e
        | node g' k' v' l' r' =>
          have z1 := hz (U := l') (by simp [high] at hc; omega)
          have z2 := hz (U := r') (by simp [high] at hc; omega)
          simp [prs, z1, z2] at e
      omega
    have hrl : r.prs.length = 1 := by omega
    obtain ⟨x, hx⟩ := List.length_eq_one_iff.1 hll
    obtain ⟨y, hy⟩ := List.length_eq_one_iff.1 hrl
    obtain ⟨gl, rfl⟩ := one_of (k := x.1) (v := x.2) hx
    obtain ⟨gr, rfl⟩ := one_of (k := y.1) (v := y.2) hy
    simp [prs] at h
    obtain ⟨rfl, rfl, rfl⟩ := h
    exact ⟨g, _, _, rfl, rfl⟩
end Tr
end Go.Proofs.Ytcckamajiebgeaa
