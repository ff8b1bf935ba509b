/-
  Contracts of the tree's list, All and Kids. Conditions: the tree is one, in memory, of not more than a million nodes.
-/
import Derived.Test.YtimfeocaghccdaaDoorTSort
import Derived.Test.YtimfeocaghccdaaDoorTSmall
import Derived.Shelf.Abstract
namespace Go.Proofs.YtimfeocaghccdaaDoor
set_option maxRecDepth 100000
open Go.RowKit Go.Maps
set_option linter.unusedVariables false
set_option linter.unusedSimpArgs false
set_option maxRecDepth 100000

theorem grown_of_below {w w' : World} (h : Below w.heap.size w w') : w.grownBy w' none := ⟨h.os, h.tape, h.output, h.size, fun k hk _ => h.block k hk⟩
/-- Going through the spots of a tree. -/
def Rng (w : World) (bm r : Nat) (L : List Kd) (left : Lit → Bool) (cnt : Nat) : Prop := w.ranges Tryd.prog 3 spotElem bm r L.length (dOf L) left cnt
theorem Rng.below {w w' : World} {bm r : Nat} {L : List Kd} {left : Lit → Bool} {cnt : Nat} (h : Rng w bm r L left cnt) (hb : Below w.heap.size w w') : Rng w' bm r L left cnt := World.ranges.kept h (grown_of_below hb) (by simp) (by simp)
theorem Rng.grown {w w' : World} {bm r : Nat} {L : List Kd} {left : Lit → Bool} {cnt : Nat} {row : Option Nat} (h : Rng w bm r L left cnt) (hg : w.grownBy w' row) (h1 : some bm ≠ row) (h2 : some r ≠ row) : Rng w' bm r L left cnt := World.ranges.kept h hg h1 h2
/-- A kid's spot as the map tells it. -/
def mkS (c : Int × List UInt8) : Value := .agg #[.bool true, .int .i64 c.1, .string (bs c.2)]
theorem invK (key : Value) (kl : Lit) (h : keyOf Tryd.prog 3 key = some kl) : ∃ x, key = Value.int .i64 x := by
  obtain ⟨x, hx, _⟩ := Maps.keyOf_int_inv Tryd.underlying3 h
  exact ⟨x, hx⟩
theorem invV (v : Value) (y : DataW Unit × List MemPlace) (h : spotElem v = some y) : ∃ c, v = mkS c := by
  obtain ⟨t, l, hv, _⟩ := spotElem_inv h
  exact ⟨(t, l), hv⟩
/-- What a step tells: a node that is still to come. -/
theorem rng_step {L : List Kd} (hL : Ok L) {x t : Int} {l : List UInt8} {kl : Lit} {y1 : DataW Unit} {y2 : List MemPlace} (hkey : keyOf Tryd.prog 3 (.int .i64 x) = some kl) (hv : spotElem (mkS (t, l)) = some (y1, y2)) (hat : ∀ zd, (dOf L).atKey kl zd = y1) :
    ∃ k ∈ L, kl = .int .i64 k.nd ∧ x = k.nd ∧ t = k.to ∧ l = k.nm := by
  obtain ⟨x', ex, rfl, _⟩ := Maps.keyOf_int_inv Tryd.underlying3 hkey
  cases ex
  obtain ⟨k, hk, hn, he⟩ := step_kd hL hv hat
  have e : mkS (t, l) = mkS (k.to, k.nm) := he
  unfold mkS at e
  simp at e
  exact ⟨k, hk, by rw [hn], hn.symm, e.1, bs_inj e.2⟩
theorem Coll.len {L : List Kd} {left : Lit → Bool} {done : List Kd} (h : Coll L left done) : done.length ≤ L.length := by
  have := pigeon (done.map (·.nd)) (L.map (·.nd)) h.one (fun x hx => by
    obtain ⟨k, hk, rfl⟩ := List.mem_map.1 hx
    exact List.mem_map.2 ⟨k, (h.mem k hk).1, rfl⟩)
  simpa using this
end Go.Proofs.YtimfeocaghccdaaDoor
