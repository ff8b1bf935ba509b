/-
  Slices of operations: how they lie in cells. No conditions.
-/
import Derived.Test.YtimfeocaghccdaaGreatDoorO5
namespace Go.Proofs.YtimfeocaghccdaaGreatDoor
set_option maxRecDepth 100000
open Go.RowKit
set_option linter.unusedVariables false
set_option maxRecDepth 100000

def O5.v (o : O5) : Value := opv o.n o.r o.d o.t o.l
/-- An operation's cells; those of many. -/
def oc (o : O5) : List Value := [.int .i64 o.n, .int .i64 o.r, .int .i64 o.d, .int .i64 o.t, .string (bs o.l)]
def ocs (os : List O5) : List Value := (os.map oc).flatten
theorem ocs_length : ∀ (os : List O5), (ocs os).length = os.length * 5
  | [] => rfl
  | o :: os => by
    have := ocs_length os
    simp only [ocs, List.map_cons, List.flatten_cons, List.length_append, List.length_cons] at this ⊢
    rw [this]
    simp [oc]
    omega
theorem ocs_append (a b : List O5) : ocs (a ++ b) = ocs a ++ ocs b := by simp [ocs]
theorem ocs_one (os : List O5) : ∀ u ∈ ocs os, u.oneCell' = true := by
  intro u hu
  simp only [ocs, List.mem_flatten, List.mem_map] at hu
  obtain ⟨x, ⟨o, _, rfl⟩, hu⟩ := hu
  simp only [oc, List.mem_cons, List.not_mem_nil, or_false] at hu
  rcases hu with rfl | rfl | rfl | rfl | rfl <;> rfl
theorem ocs_at : ∀ (os : List O5) (j i : Nat) (h : j < os.length), i < 5 → (ocs os)[j * 5 + i]? = (oc os[j])[i]?
  | [], j, i, h, _ => by simp at h
  | o :: os, 0, i, h, hi => by
    simp only [ocs, List.map_cons, List.flatten_cons, Nat.zero_mul, Nat.zero_add, List.getElem_cons_zero]
    rw [List.getElem?_append_left (by simpa [oc] using hi)]
  | o :: os, j + 1, i, h, hi => by
    have := ocs_at os j i (by simpa using h) hi
    simp only [ocs, List.map_cons, List.flatten_cons, List.getElem_cons_succ] at this ⊢
    rw [← this, List.getElem?_append_right (by simp [oc]; omega)]
    congr 1
    simp [oc]
    omega
/-- Operations that can be read, from a place on. -/
def OpsAt (w : World) (b o : Nat) (os : List O5) : Prop := ∀ j u, (ocs os)[j]? = some u → w.cell? ⟨b, o + j, none⟩ = some u
/-- A slice of operations that can be read. -/
structure Ops (w : World) (A : Option Addr) (c : Nat) (os : List O5) : Prop where
  nil : A = none → os = []
  le : os.length ≤ c
  most : c ≤ maxLen
  lit : 0 < os.length → ∃ b o, A = some ⟨b, o, none⟩ ∧ OpsAt w b o os
theorem OpsAt.five {w : World} {b o : Nat} {os : List O5} (h : OpsAt w b o os) (j : Nat) (hj : j < os.length) :
    w.cell? ⟨b, o + j * 5, none⟩ = some (.int .i64 os[j].n) ∧ w.cell? ⟨b, o + j * 5 + 1, none⟩ = some (.int .i64 os[j].r) ∧ w.cell? ⟨b, o + j * 5 + 2, none⟩ = some (.int .i64 os[j].d) ∧ w.cell? ⟨b, o + j * 5 + 3, none⟩ = some (.int .i64 os[j].t) ∧ w.cell? ⟨b, o + j * 5 + 4, none⟩ = some (.string (bs os[j].l)) := by
  refine ⟨?_, ?_, ?_, ?_, ?_⟩
  · exact h (j * 5 + 0) _ (by rw [ocs_at os j 0 hj (by omega)]; rfl)
  · exact h (j * 5 + 1) _ (by rw [ocs_at os j 1 hj (by omega)]; rfl)
  · exact h (j * 5 + 2) _ (by rw [ocs_at os j 2 hj (by omega)]; rfl)
  · exact h (j * 5 + 3) _ (by rw [ocs_at os j 3 hj (by omega)]; rfl)
  · exact h (j * 5 + 4) _ (by rw [ocs_at os j 4 hj (by omega)]; rfl)
theorem OpsAt.below {w w' : World} {b o : Nat} {os : List O5} (h : OpsAt w b o os) (hb : Below w.heap.size w w') : OpsAt w' b o os := fun j u hu => by
  have := h j u hu
  exact (hb.cell (World.block_lt_of_cell? w _ this)).trans this
theorem Ops.below {w w' : World} {A : Option Addr} {c : Nat} {os : List O5} (h : Ops w A c os) (hb : Below w.heap.size w w') : Ops w' A c os :=
  ⟨h.nil, h.le, h.most, fun hp => by obtain ⟨b, o, e, h⟩ := h.lit hp; exact ⟨b, o, e, h.below hb⟩⟩
/-- What a call leaves that gives a new row of operations. -/
def OwnOps (w : World) (base : Nat) (v : Value) (os : List O5) : Prop := w.ownsRow base 50 5 v os.length (ocs os)
theorem OwnOps.ops {w : World} {base : Nat} {v : Value} {os : List O5} (h : OwnOps w base v os) : ∃ A c, v = .slice A os.length c ∧ Ops w A c os := by
  rcases h.2 with ⟨rfl, h0⟩ | ⟨g, cap, cur, rfl, hb, hg, hn, hm, hs, ht⟩
  · have : os = [] := List.length_eq_zero_iff.1 h0
    subst this
    exact ⟨none, 0, rfl, fun _ => rfl, Nat.le_refl _, Nat.zero_le _, fun h => by simp at h⟩
  · refine ⟨_, cap, rfl, (by intro h; cases h), hn, hm, fun hp => ⟨g, 0, rfl, fun j u hu => ?_⟩⟩
    have := h.cells (g := g) rfl j u hu
    rwa [Addr.add_lit] at this
theorem OwnOps.below {w w' : World} {base : Nat} {v : Value} {os : List O5} (h : OwnOps w base v os) (hb : Below w.heap.size w w') : OwnOps w' base v os := by
  refine ⟨h.1, ?_⟩
  rcases h.2 with h0 | ⟨g, cap, cur, h1, h2, h3, h4⟩
  · exact .inl h0
  · exact .inr ⟨g, cap, cur, h1, h2, (hb.block g (Array.getElem?_eq_some_iff.1 h3).1).trans h3, h4⟩
theorem OwnOps.base {w : World} {base base' : Nat} {v : Value} {os : List O5} (h : OwnOps w base v os) (hb : base' ≤ base) : OwnOps w base' v os := by
  refine ⟨h.1, ?_⟩
  rcases h.2 with h0 | ⟨g, cap, cur, h1, h2, h3⟩
  · exact .inl h0
  · exact .inr ⟨g, cap, cur, h1, by omega, h3⟩
end Go.Proofs.YtimfeocaghccdaaGreatDoor
