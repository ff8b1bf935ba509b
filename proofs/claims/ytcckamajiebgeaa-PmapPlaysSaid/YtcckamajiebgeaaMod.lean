/-
  But for some blocks, and new ones, the world is as it was. No conditions.
-/
import Derived.Test.YtcckamajiebgeaaBase0
namespace Go.Proofs.Ytcckamajiebgeaa
set_option maxRecDepth 100000
open Go.RowKit
set_option linter.unusedVariables false

/-- But for some blocks, and new ones, the world is as it was. -/
structure Mod (fs : List Nat) (w w' : World) : Prop where
  os : w'.os = w.os
  tape : w'.tape = w.tape
  output : w'.output = w.output
  size : w.heap.size ≤ w'.heap.size
  block : ∀ k, k < w.heap.size → k ∉ fs → w'.heap[k]? = w.heap[k]?
theorem Mod.refl (fs : List Nat) (w : World) : Mod fs w w := ⟨rfl, rfl, rfl, Nat.le_refl _, fun _ _ _ => rfl⟩
theorem Mod.of_below {fs : List Nat} {w w' : World} (h : Below w.heap.size w w') : Mod fs w w' := ⟨h.os, h.tape, h.output, h.size, fun k hk _ => h.block k hk⟩
theorem Mod.of_grown {fs : List Nat} {w w' : World} {row : Option Nat} (h : w.grownBy w' row) (hr : ∀ k, row = some k → k ∈ fs) : Mod fs w w' :=
  ⟨h.os, h.tape, h.output, h.size, fun k hk hn => h.block k hk (fun e => hn (hr k e.symm))⟩
theorem Mod.trans {fs fs' : List Nat} {a b c : World} (h : Mod fs a b) (h' : Mod fs' b c) (hs : ∀ k ∈ fs', k ∈ fs ∨ a.heap.size ≤ k) : Mod fs a c :=
  ⟨h'.os.trans h.os, h'.tape.trans h.tape, h'.output.trans h.output, Nat.le_trans h.size h'.size, fun k hk hn =>
    (h'.block k (Nat.lt_of_lt_of_le hk h.size) (fun hk' => by
      rcases hs k hk' with h1 | h1
      · exact hn h1
      · omega)).trans (h.block k hk hn)⟩
theorem Mod.below {fs : List Nat} {B : Nat} {w w' : World} (h : Mod fs w w') (hB : B ≤ w.heap.size) (hs : ∀ k ∈ fs, B ≤ k) : Below B w w' :=
  ⟨h.os, h.tape, h.output, h.size, fun k hk => h.block k (by omega) (fun hk' => by have := hs k hk'; omega)⟩
theorem Mod.alloc {fs : List Nat} {a w : World} (h : Mod fs a w) (o : Obj) : Mod fs a (w.alloc o) :=
  h.trans (fs' := []) (Mod.of_below ((Below.refl _ _).alloc (Nat.le_refl _) o)) (by simp)
theorem Mod.setCell {fs : List Nat} {a w : World} (h : Mod fs a w) {p : Addr} (hp : p.block ∈ fs ∨ a.heap.size ≤ p.block) (u : Value) : Mod fs a (w.setCell p u) :=
  h.trans (fs' := [p.block]) ⟨rfl, rfl, rfl, by simp [World.setCell], fun k hk hn => Below.heap_setCell _ _ _ _ (by simpa using hn)⟩ (by simpa using hp)
theorem Mod.drew {fs : List Nat} {a w : World} (h : Mod fs a w) : Mod fs a w.drew := ⟨h.os, h.tape, h.output, h.size, h.block⟩
theorem wrap_in (a : Int) (h0 : -9223372036854775808 ≤ a) (h1 : a < 9223372036854775808) : IntKind.i64.wrap a = a := by
  rw [IntKind.wrap_i64]
  omega
theorem below_q {B : Nat} {a w : World} (h : Below B a w) (q : Nat) : Below B a (w.drewN q) := ⟨h.os, h.tape, h.output, h.size, h.block⟩
theorem cell_b {w w' : World} {a : Addr} {v : Value} (hb : Below w.heap.size w w') (h : w.cell? a = some v) : w'.cell? a = some v := (hb.cell (World.block_lt_of_cell? w _ h)).trans h
end Go.Proofs.Ytcckamajiebgeaa
