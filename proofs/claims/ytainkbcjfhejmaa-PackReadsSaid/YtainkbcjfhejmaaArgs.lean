/-
  What is known of slices that were handed in: rows of integers and of strings; bytes among them as a list of bytes. No conditions beyond those of a reading.
-/
import Derived.Test.YtainkbcjfhejmaaRef
import Derived.OpenShut
namespace Go.Proofs.Ytainkbcjfhejmaa
open Go.RowKit
set_option linter.unusedVariables false

/-- A slice of integers that came in: nil, or a row of 'cap' numbers, of which the first 'len' are its elements. -/
def IsRow (k : IntKind) (w : World) (a : Option Addr) (len cap : Nat) (zs : List Int) : Prop :=
  (a = none ∧ len = 0 ∧ cap = 0 ∧ zs = []) ∨
  ∃ x, a = some x ∧ len ≤ cap ∧ cap ≤ maxLen ∧ zs.length = cap ∧ (∀ i, i < zs.length → w.cell? (x.add i) = some (.int k (zs.getD i 0))) ∧ ∀ n ∈ zs, (Lit.int k n).wf = true
/-- A slice of strings that came in. -/
def IsStrs (w : World) (a : Option Addr) (len cap : Nat) (zs : List ByteArray) : Prop :=
  (a = none ∧ len = 0 ∧ cap = 0 ∧ zs = []) ∨
  ∃ x, a = some x ∧ len ≤ cap ∧ cap ≤ maxLen ∧ zs.length = cap ∧ (∀ i, i < zs.length → w.cell? (x.add i) = some (.string (zs.getD i ByteArray.empty))) ∧ ∀ s ∈ zs, s.size ≤ maxLen

/-- The bytes of a row of numbers. -/
def rowBytes (zs : List Int) (len : Nat) : List UInt8 := (zs.take len).map fun z => b8 z.toNat

/-- Bytes that came in: how long they are, where they lie. -/
structure ByteArg (w : World) (a : Option Addr) (len cap : Nat) (l : List UInt8) : Prop where
  leq : l.length = len
  ceq : len ≤ cap
  most : cap ≤ maxLen
  hnd : Hnd w (.slice a len cap) l
  lit : 0 < len → ∃ b o, a = some ⟨b, o, none⟩ ∧ ∀ j (h : j < l.length), w.cell? ⟨b, o + j, none⟩ = some (.int .u8 l[j].toNat)

theorem ByteArg.of_row {w : World} {a : Option Addr} {len cap : Nat} {zs : List Int} (h : IsRow .u8 w a len cap zs) : ByteArg w a len cap (rowBytes zs len) := by
  rcases h with ⟨rfl, rfl, rfl, rfl⟩ | ⟨x, rfl, hl, hm, hz, hcell, hwf⟩
  · exact ⟨rfl, Nat.le_refl _, Nat.zero_le _, ⟨none, 0, rfl, fun _ => rfl, (by intro ad h; cases h)⟩, by intro h; omega⟩
  · have hlen : (rowBytes zs len).length = len := by simp [rowBytes]; omega
    have hc : ∀ j (h : j < (rowBytes zs len).length), w.cell? (x.add j) = some (.int .u8 (rowBytes zs len)[j].toNat) := by
      intro j h
      have hj : j < zs.length := by omega
      have e := hcell j hj
      have b := bounds_u8 (hwf zs[j] (List.getElem_mem hj))
      rw [e]
      simp only [List.getD, List.getElem?_eq_getElem hj, Option.getD_some, rowBytes, List.getElem_map, List.getElem_take]
      rw [b8_toNat _ (by omega)]
      congr 2
      omega
    refine ⟨hlen, hl, hm, ⟨some x, cap, by rw [hlen], (by intro h; cases h), ?_⟩, ?_⟩
    · intro ad had j u hu
      injection had with had
      subst had
      have hj : j < (rowBytes zs len).length := by
        have := (List.getElem?_eq_some_iff.1 hu).1
        simpa [bc] using this
      rw [hc j hj]
      simpa [bc, hj] using hu
    · intro hp
      obtain ⟨b, o, spot⟩ := x
      have h0 := hc 0 (by omega)
      have hspot : spot = none := by simpa [Addr.add] using World.cell?_spot h0
      subst hspot
      refine ⟨b, o, rfl, fun j h => ?_⟩
      have := hc j h
      rwa [Addr.add_lit] at this

theorem Hnd.below {w w' : World} {v : Value} {l : List UInt8} (h : Hnd w v l) (hb : Below w.heap.size w w') : Hnd w' v l := by
  obtain ⟨A, c, h1, h2, h3⟩ := h
  refine ⟨A, c, h1, h2, fun ad had j u hu => ?_⟩
  have := h3 ad had j u hu
  exact (hb.cell (World.block_lt_of_cell? w _ this)).trans this
theorem cells_below {w w' : World} {b o : Nat} {l : List UInt8} (h : ∀ j (h : j < l.length), w.cell? ⟨b, o + j, none⟩ = some (.int .u8 l[j].toNat)) (hb : Below w.heap.size w w') :
    ∀ j (h : j < l.length), w'.cell? ⟨b, o + j, none⟩ = some (.int .u8 l[j].toNat) := fun j hj =>
  (hb.cell (World.block_lt_of_cell? w _ (h j hj))).trans (h j hj)
theorem cells_take {w : World} {b o : Nat} {l : List UInt8} (h : ∀ j (h : j < l.length), w.cell? ⟨b, o + j, none⟩ = some (.int .u8 l[j].toNat)) (q : Nat) :
    ∀ j (h : j < (l.take q).length), w.cell? ⟨b, o + j, none⟩ = some (.int .u8 (l.take q)[j].toNat) := by
  intro j hj
  have hj' : j < l.length := by rw [List.length_take] at hj; omega
  rw [h j hj']
  simp
end Go.Proofs.Ytainkbcjfhejmaa
