/-
  Trees of nodes in order, plain: what lies at which handle, how high, which pairs. No conditions.
-/
import Derived.Test.YtcckamajiebgeaaNALaw
import Derived.Test.YtcckamajiebgeaaPDoc2
namespace Go.Proofs.Ytcckamajiebgeaa
set_option linter.unusedVariables false
set_option linter.unusedSimpArgs false

/-- A version: a tree of nodes, each at its handle. -/
inductive Tr where
  | nil : Tr
  | node (h : Int × Int) (k v : Int) (l r : Tr) : Tr
namespace Tr
def root : Tr → Int × Int
  | nil => (0, 0)
  | node h _ _ _ _ => h
def high : Tr → Nat
  | nil => 0
  | node _ _ _ l r => 1 + max l.high r.high
def prs : Tr → List Pp
  | nil => []
  | node _ k v l r => l.prs ++ (k, v) :: r.prs
def hds : Tr → List (Int × Int)
  | nil => []
  | node h _ _ l r => l.hds ++ h :: r.hds
def nd (h : Int × Int) (k v : Int) (l r : Tr) : Nd := ⟨k, v, l.root, r.root, ((1 + max l.high r.high : Nat) : Int)⟩
/-- Each node lies at its handle. -/
def Lies (F : Int → Int → Option Nd) : Tr → Prop
  | nil => True
  | node h k v l r => F h.1 h.2 = some (nd h k v l r) ∧ h ≠ (0, 0) ∧ i64B h.1 ∧ i64B h.2 ∧ Lies F l ∧ Lies F r
/-- Both sides' heights differ by one at most. -/
def Bal : Tr → Prop
  | nil => True
  | node _ _ _ l r => l.high ≤ r.high + 1 ∧ r.high ≤ l.high + 1 ∧ Bal l ∧ Bal r
/-- Keys in order. -/
def Ord (T : Tr) : Prop := T.prs.Pairwise fun a b => a.1 < b.1
theorem hds_prs (T : Tr) : T.hds.length = T.prs.length := by
  induction T with
  | nil => rfl
  | node h k v l r hl hr => simp [hds, prs, hl, hr]
theorem high_le (T : Tr) : T.high ≤ T.prs.length := by
  induction T with
  | nil => exact Nat.le_refl _
  | node h k v l r hl hr =>
    simp only [high, prs, List.length_append, List.length_cons]
    omega
theorem Lies.mono {F G : Int → Int → Option Nd} (h : ∀ s t x, F s t = some x → G s t = some x) : ∀ {T : Tr}, Lies F T → Lies G T
  | nil, _ => trivial
  | node _ _ _ _ _, ⟨h1, h2, h3, h4, h5, h6⟩ => ⟨h _ _ _ h1, h2, h3, h4, h5.mono h, h6.mono h⟩
theorem Lies.at {F : Int → Int → Option Nd} : ∀ {T : Tr}, Lies F T → ∀ h ∈ T.hds, (F h.1 h.2).isSome = true ∧ h ≠ (0, 0) ∧ i64B h.1 ∧ i64B h.2
  | nil, _, h, hh => by simp [hds] at hh
  | node g k v l r, ⟨h1, h2, h3, h4, h5, h6⟩, h, hh => by
    simp only [hds, List.mem_append, List.mem_cons] at hh
    rcases hh with hh | rfl | hh
    · exact h5.at h hh
    · exact ⟨by rw [h1]; rfl, h2, h3, h4⟩
    · exact h6.at h hh
/-- A tree can be read off the handles, if it isn't of more than so many nodes deep. -/
theorem Lies.same {F : Int → Int → Option Nd} : ∀ {T U : Tr}, Lies F T → Lies F U → T.root = U.root → T = U
  | nil, nil, _, _, _ => rfl
  | nil, node _ _ _ _ _, _, ⟨_, h2, _⟩, e => absurd e.symm h2
  | node _ _ _ _ _, nil, ⟨_, h2, _⟩, _, e => absurd e h2
  | node h k v l r, node h' k' v' l' r', ⟨h1, _, _, _, h5, h6⟩, ⟨g1, _, _, _, g5, g6⟩, e => by
    obtain rfl : h = h' := e
    rw [h1] at g1
    have g1 := Option.some.inj g1
    simp only [nd, Nd.mk.injEq] at g1
    obtain ⟨rfl, rfl, e1, e2, _⟩ := g1
    rw [h5.same g5 e1, h6.same g6 e2]
/-- Handles of a tree in order are each there once. -/
theorem Ord.left {h : Int × Int} {k v : Int} {l r : Tr} (o : Ord (node h k v l r)) : Ord l := (List.pairwise_append.1 o).1
theorem Ord.right {h : Int × Int} {k v : Int} {l r : Tr} (o : Ord (node h k v l r)) : Ord r := (List.pairwise_cons.1 (List.pairwise_append.1 o).2.1).2
theorem key_of {F : Int → Int → Option Nd} : ∀ {T : Tr}, Lies F T → ∀ h ∈ T.hds, ∃ x, F h.1 h.2 = some x ∧ x.k ∈ T.prs.map (·.1)
  | nil, _, h, hh => by simp [hds] at hh
  | node g k v l r, ⟨h1, h2, h3, h4, h5, h6⟩, h, hh => by
    simp only [hds, List.mem_append, List.mem_cons] at hh
    simp only [prs, List.map_append, List.map_cons, List.mem_append, List.mem_cons]
    rcases hh with hh | rfl | hh
    · obtain ⟨x, e, m⟩ := key_of h5 h hh
      exact ⟨x, e, .inl m⟩
    · exact ⟨_, h1, .inr (.inl rfl)⟩
    · obtain ⟨x, e, m⟩ := key_of h6 h hh
      exact ⟨x, e, .inr (.inr m)⟩
theorem Lies.nodup {F : Int → Int → Option Nd} : ∀ {T : Tr}, Lies F T → Ord T → T.hds.Nodup
  | nil, _, _ => List.nodup_nil
  | node g k v l r, ⟨h1, h2, h3, h4, h5, h6⟩, o => by
    have op := List.pairwise_append.1 o
    have oc := List.pairwise_cons.1 op.2.1
    have kl : ∀ x ∈ l.prs.map (·.1), x < k := by
      intro x hx
      obtain ⟨p, hp, rfl⟩ := List.mem_map.1 hx
      exact op.2.2 p hp (k, v) (List.mem_cons_self ..)
    have kr : ∀ x ∈ r.prs.map (·.1), k < x := by
      intro x hx
      obtain ⟨p, hp, rfl⟩ := List.mem_map.1 hx
      exact oc.1 p hp
    show (l.hds ++ g :: r.hds).Nodup
    rw [List.nodup_append]
    refine ⟨h5.nodup o.left, List.nodup_cons.2 ⟨fun hm => ?_, h6.nodup o.right⟩, fun a ha b hb e => ?_⟩
    · obtain ⟨x, e, m⟩ := key_of h6 g hm
      rw [h1] at e
      have := kr _ m
      rw [← Option.some.inj e] at this
      exact absurd this (Int.lt_irrefl _)
    · subst e
      obtain ⟨x, e, m⟩ := key_of h5 a ha
      have hx := kl _ m
      rcases List.mem_cons.1 hb with rfl | hb
      · rw [h1] at e
        rw [← Option.some.inj e] at hx
        exact absurd hx (Int.lt_irrefl _)
      · obtain ⟨y, e', m'⟩ := key_of h6 a hb
        rw [e] at e'
        rw [← Option.some.inj e'] at m'
        have := kr _ m'
        omega
end Tr
end Go.Proofs.Ytcckamajiebgeaa
