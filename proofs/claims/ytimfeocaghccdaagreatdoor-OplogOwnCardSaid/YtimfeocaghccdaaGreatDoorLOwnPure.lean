/-
  For OplogOwn: what is kept while other blocks are written: the log, the operations and the tree's list that were told.
-/
import Derived.Test.YtimfeocaghccdaaGreatDoorLM3
namespace Go.Proofs.YtimfeocaghccdaaGreatDoor
open Go.RowKit Go.Maps
set_option linter.unusedVariables false
set_option linter.unusedSimpArgs false
set_option maxRecDepth 100000

/-- What a block list must not touch. -/
def Apart8 (fg : List Nat) (v u : Value) (fs : List Nat) : Prop := (∀ k ∈ fg, k ∉ fs) ∧ (∀ b, v.ownBlock = some b → b ∉ fs) ∧ ∀ b, u.ownBlock = some b → b ∉ fs
structure Own8 (w0 : World) (g : Nat) (L : List O5) (fg : List Nat) (v u : Value) (w : World) : Prop where
  log : Lwg w0 w g 1000 L fg
  was : OwnOps w w0.heap.size v L
  all : OwnKids w w0.heap.size u (sortK (runS L).1)
theorem Own8.mod {w0 : World} {g : Nat} {L : List O5} {fg fs : List Nat} {v u : Value} {w w' : World} (h : Own8 w0 g L fg v u w) (hm : Mod fs w w') (ha : Apart8 fg v u fs) (hs : ∀ k ∈ fs, w0.heap.size ≤ k) : Own8 w0 g L fg v u w' :=
  ⟨⟨h.log.lg.mod hm ha.1, h.log.fs, h.log.bel.trans (hm.below h.log.bel.size hs)⟩, h.was.mod hm ha.2.1, h.all.mod hm ha.2.2⟩
theorem Own8.below {w0 : World} {g : Nat} {L : List O5} {fg : List Nat} {v u : Value} {w w' : World} (h : Own8 w0 g L fg v u w) (hb : Below w.heap.size w w') : Own8 w0 g L fg v u w' :=
  ⟨h.log.below hb, h.was.below hb, h.all.below hb⟩
/-- What is new is apart from all that was. -/
theorem Own8.new {w0 : World} {g : Nat} {L : List O5} {fg fs : List Nat} {v u : Value} {w : World} (h : Own8 w0 g L fg v u w) (hf : ∀ k ∈ fs, w.heap.size ≤ k) : Apart8 fg v u fs := by
  refine ⟨fun k hk hk' => ?_, fun b hb hk' => ?_, fun b hb hk' => ?_⟩
  · have := h.log.lg.lt k hk
    have := hf k hk'
    omega
  · have := h.was.lt hb
    have := hf b hk'
    omega
  · have := (h.all.lt hb).2
    have := hf b hk'
    omega
/-- Blocks that came from such ones, or are new, are apart. -/
theorem Own8.grow {w0 : World} {g : Nat} {L : List O5} {fg fs fs' : List Nat} {v u : Value} {w : World} (h : Own8 w0 g L fg v u w) (ha : Apart8 fg v u fs) (hf : ∀ k ∈ fs', k ∈ fs ∨ w.heap.size ≤ k) : Apart8 fg v u fs' := by
  refine ⟨fun k hk hk' => ?_, fun b hb hk' => ?_, fun b hb hk' => ?_⟩
  · rcases hf k hk' with h1 | h1
    · exact ha.1 k hk h1
    · have := h.log.lg.lt k hk
      omega
  · rcases hf b hk' with h1 | h1
    · exact ha.2.1 b hb h1
    · have := h.was.lt hb
      omega
  · rcases hf b hk' with h1 | h1
    · exact ha.2.2 b hb h1
    · have := (h.all.lt hb).2
      omega
/-- And beside it a tree that was told, and a row of operations that was handed in. -/
structure Own9 (w0 : World) (g : Nat) (L : List O5) (fg : List Nat) (v u r : Value) (X : List O5) (b : Nat) (s : St) (f : List Nat) (w : World) : Prop where
  own : Own8 w0 g L fg v u w
  row : OwnOps w w0.heap.size r X
  tr : Tr w b s.1 s.2 f
  ap : Apart8 fg v u f
  rf : ∀ k, r.ownBlock = some k → k ∉ f
  lo : ∀ k ∈ f, w0.heap.size ≤ k
theorem Own9.below {w0 : World} {g : Nat} {L : List O5} {fg : List Nat} {v u r : Value} {X : List O5} {b : Nat} {s : St} {f : List Nat} {w w' : World} (h : Own9 w0 g L fg v u r X b s f w) (hb : Below w.heap.size w w') : Own9 w0 g L fg v u r X b s f w' :=
  ⟨h.own.below hb, h.row.below hb, h.tr.below hb, h.ap, h.rf, h.lo⟩
theorem Own9.step {w0 : World} {g : Nat} {L : List O5} {fg : List Nat} {v u r : Value} {X : List O5} {b : Nat} {s s' : St} {f : List Nat} {w w' : World} {x : Value} {e : Ending} (h : Own9 w0 g L fg v u r X b s f w) (hr : TrRet x b s'.1 s'.2 f w e w') :
    e = .returned x ∧ ∃ f', Own9 w0 g L fg v u r X b s' f' w' := by
  obtain ⟨rfl, f', h1, h2, h3⟩ := hr
  refine ⟨rfl, f', h.own.mod h2 h.ap h.lo, h.row.mod h2 h.rf, h1, h.own.grow h.ap h3, fun k hk hk' => ?_, fun k hk => ?_⟩
  · rcases h3 k hk' with h4 | h4
    · exact h.rf k hk h4
    · have := h.row.lt hk
      omega
  · rcases h3 k hk with h4 | h4
    · exact h.lo k h4
    · have := h.own.log.bel.size
      omega
/-- A block of so many operations, whatever they are. -/
def RowB (w : World) (b n : Nat) : Prop := ∃ cs, w.heap[b]? = some (.cells cs 50 (0, 0)) ∧ n * 5 ≤ cs.size
theorem RowB.cell {w : World} {b n : Nat} (h : RowB w b n) {j : Nat} (hj : j < n * 5) : ∃ u, w.cell? ⟨b, j, none⟩ = some u := by
  obtain ⟨cs, h1, h2⟩ := h
  exact ⟨cs[j]'(by omega), by simp [World.cell?, h1, show j < cs.size by omega]⟩
theorem RowB.set {w : World} {b n : Nat} (h : RowB w b n) (j : Nat) (x : Value) : RowB (w.setCell ⟨b, j, none⟩ x) b n := by
  obtain ⟨cs, h1, h2⟩ := h
  exact ⟨_, Joins.block_setCell (i := j) h1 x, by simpa using h2⟩
theorem RowB.open {w : World} {b n : Nat} (h : RowB w b n) (j : Nat) : w.frozen? ⟨b, j, none⟩ = false := by
  obtain ⟨cs, h1, h2⟩ := h
  exact Joins.unfrozen_of_block h1 j
/-- While a row apart is written. -/
structure Own7 (w0 : World) (g : Nat) (L : List O5) (fg : List Nat) (v u : Value) (A : Option Addr) (n : Nat) (w : World) : Prop where
  own : Own8 w0 g L fg v u w
  row : 0 < n → ∃ b, A = some ⟨b, 0, none⟩ ∧ RowB w b n ∧ Apart8 fg v u [b] ∧ w0.heap.size ≤ b
theorem Own7.set {w0 : World} {g : Nat} {L : List O5} {fg : List Nat} {v u : Value} {A : Option Addr} {n b : Nat} {w : World} (h : Own7 w0 g L fg v u A n w) (hA : A = some ⟨b, 0, none⟩) (hn : 0 < n) (j : Nat) (x : Value) : Own7 w0 g L fg v u A n (w.setCell ⟨b, j, none⟩ x) := by
  obtain ⟨b', h1, h2, h3, h4⟩ := h.row hn
  obtain rfl : b = b' := by rw [hA] at h1; simpa using h1
  refine ⟨h.own.mod (fs := [b]) ((Mod.refl _ w).setCell (.inl (by simp)) x) h3 (by simpa using h4), fun _ => ⟨b, hA, h2.set j x, h3, h4⟩⟩
theorem Own7.of {w0 : World} {g : Nat} {L : List O5} {fg : List Nat} {v u : Value} {A : Option Addr} {c : Nat} {X : List O5} {w : World} (h : Own8 w0 g L fg v u w) (hr : OwnOps w w0.heap.size (.slice A X.length c) X) (ha : ∀ b, (Value.slice A X.length c).ownBlock = some b → Apart8 fg v u [b]) : Own7 w0 g L fg v u A X.length w := by
  refine ⟨h, fun hn => ?_⟩
  rcases hr.2 with ⟨h0, h1⟩ | ⟨k, cap, cur, h0, hb, hg, hn', hm, hs, ht⟩
  · omega
  · obtain ⟨rfl, rfl⟩ : A = some ⟨k, 0, none⟩ ∧ c = cap := by simpa using h0
    exact ⟨k, rfl, ⟨cur, hg, by rw [hs]; omega⟩, ha k rfl, hb⟩
def OwRel (w0 : World) (g : Nat) (L : List O5) (fg : List Nat) (v u : Value) (A : Option Addr) (n : Nat) (i : Value) (wr : World) : Prop := ∃ k : Nat, k ≤ n ∧ i = .int .i64 (k : Int) ∧ Own7 w0 g L fg v u A n wr
end Go.Proofs.YtimfeocaghccdaaGreatDoor
