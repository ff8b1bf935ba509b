/-
  What the proofs of layer 3 share: texts as lists of bytes, slices of texts, what a call leaves that answers names, a path, or an error. No conditions beyond those that each statement bears.
-/
import Derived.Test.YtimfeocaghccdaaGreatDoorBase
import Derived.Test.YtimfeocaghccdaaGreatDoorNamePure
import Derived.IntWalk
namespace Go.Proofs.YtimfeocaghccdaaGreatDoor
set_option maxRecDepth 100000
open Go.RowKit
set_option linter.unusedVariables false

theorem ret_bool {a b : Bool} (h : a = b) : Ending.returned (.bool a) = .returned (.bool b) := by rw [h]
theorem bs_size (l : List UInt8) : (bs l).size = l.length := by simp [bs, ByteArray.size]
theorem bs_list (l : List UInt8) : (bs l).toList = l := by simp [bs]
theorem bs_data (l : List UInt8) : (bs l).data.toList = l := by simp [bs]
theorem bs_of (s : ByteArray) : bs s.data.toList = s := by cases s; simp [bs]
theorem bs_inj {a b : List UInt8} (h : bs a = bs b) : a = b := by
  have := congrArg (fun s => s.data.toList) h
  simpa [bs] using this
theorem bs_get (l : List UInt8) (i : Nat) (h : i < (bs l).size) : (bs l)[i] = l[i]'(by rw [← bs_size]; exact h) := by
  simp only [bs] at h ⊢
  rfl
theorem bs_extract (l : List UInt8) (a b : Nat) : (bs l).extract a b = bs ((l.drop a).take (b - a)) := ByteArray.extract_mk l a b
theorem bs_add (a b : List UInt8) : bs a ++ bs b = bs (a ++ b) := by
  apply ByteArray.ext
  simp [bs]
/-- A byte of a text. -/
theorem at_bs (l : List UInt8) (i : Nat) (h : i < l.length) (w : World) :
    (Instr.index 9 (.string (bs l)) (.int .i64 (i : Int))).run Tryz.prog w = .ok (.int .u8 (l[i].toNat : Int)) w := by
  have h1 : (0 : Int) ≤ (i : Int) ∧ (i : Int) < ((bs l).size : Int) := by rw [bs_size]; omega
  rw [run_index_string w 9 (bs l) .i64 i Tryz.underlying9, dif_pos h1]
  congr 3
/-- A part of a text. -/
theorem part_bs (l : List UInt8) (a b : Nat) (h : a ≤ b) (hb : b ≤ l.length) (w : World) :
    (Instr.slice 9 (.string (bs l)) (some (.int .i64 (a : Int))) (some (.int .i64 (b : Int))) none).run Tryz.prog w = .ok (.string (bs ((l.drop a).take (b - a)))) w := by
  rw [run_slice_string w 9 (bs l) .i64 .i64 a b Tryz.underlying9 (by omega) (by omega) (by rw [bs_size]; omega)]
  rw [Int.toNat_natCast, Int.toNat_natCast, bs_extract]
/-- A slice of texts. -/
def Tx (w : World) (v : Value) (ls : List (List UInt8)) : Prop :=
  ∃ A c, v = .slice A ls.length c ∧ ls.length ≤ c ∧ c ≤ maxLen ∧ (ls = [] ∨ ∃ g o, A = some ⟨g, o, none⟩ ∧ ∀ j (h : j < ls.length), w.cell? ⟨g, o + j, none⟩ = some (.string (bs ls[j])))
theorem Tx.nil (w : World) : Tx w (.slice none 0 0) [] := ⟨none, 0, rfl, Nat.le_refl _, Nat.zero_le _, .inl rfl⟩
theorem Tx.below {w w' : World} {v : Value} {ls : List (List UInt8)} (h : Tx w v ls) (hb : Below w.heap.size w w') : Tx w' v ls := by
  obtain ⟨A, c, h1, h2, h3, h4⟩ := h
  refine ⟨A, c, h1, h2, h3, ?_⟩
  rcases h4 with h4 | ⟨g, o, h4, h5⟩
  · exact .inl h4
  · exact .inr ⟨g, o, h4, fun j hj => (hb.cell (World.block_lt_of_cell? w _ (h5 j hj))).trans (h5 j hj)⟩
/-- Texts that came in. -/
theorem Tx.of_arg {w : World} {a : Option Addr} {len cap : Nat} {zs : List ByteArray} (h : IsStrs w a len cap zs) :
    Tx w (.slice a len cap) ((zs.take len).map fun s => s.data.toList) ∧ ((zs.take len).map fun s => s.data.toList).length = len ∧ (∀ l ∈ ((zs.take len).map fun s => s.data.toList), l.length ≤ maxLen) := by
  rcases h with ⟨rfl, rfl, rfl, rfl⟩ | ⟨x, rfl, hl, hm, hz, hcell, hwf⟩
  · exact ⟨Tx.nil w, rfl, by intro l hl; cases hl⟩
  · have hlen : ((zs.take len).map fun s => s.data.toList).length = len := by simp; omega
    refine ⟨⟨some x, cap, by rw [hlen], by omega, hm, ?_⟩, hlen, ?_⟩
    · by_cases h0 : len = 0
      · left
        subst h0
        simp
      · right
        have hc : ∀ j (h : j < ((zs.take len).map fun s => s.data.toList).length), w.cell? (x.add j) = some (.string (bs ((zs.take len).map fun s => s.data.toList)[j])) := by
          intro j h
          have hj : j < zs.length := by omega
          rw [hcell j hj]
          simp only [List.getD, List.getElem?_eq_getElem hj, Option.getD_some, List.getElem_map, List.getElem_take]
          rw [bs_of]
        obtain ⟨b, o, spot⟩ := x
        have h0 := hc 0 (by omega)
        have hspot : spot = none := by simpa [Addr.add] using World.cell?_spot h0
        subst hspot
        exact ⟨b, o, rfl, fun j h => by have := hc j h; rwa [Addr.add_lit] at this⟩
    · intro l hl
      obtain ⟨s, hs, rfl⟩ := List.mem_map.1 hl
      exact hwf s (List.mem_of_mem_take hs)
/-- The error's number. -/
def errN {α : Type} (o : Option α) : Int := if o.isSome then 0 else 4
theorem errN_some {α : Type} (x : α) : errN (some x) = 0 := rfl
theorem errN_none {α : Type} : errN (none : Option α) = 4 := rfl
/-- What Split leaves. -/
def SplitRet (w : World) (o : Option (List (List UInt8))) (e : Ending) (w' : World) : Prop :=
  ∃ v, e = .returned (.tuple #[v, .int .i64 (errN o)]) ∧ Tx w' v (o.getD []) ∧ Below w.heap.size w w'
/-- What Join leaves. -/
def JoinRet (w : World) (o : Option (List UInt8)) (e : Ending) (w' : World) : Prop :=
  e = .returned (.tuple #[.string (bs (o.getD [])), .int .i64 (errN o)]) ∧ Below w.heap.size w w'
/-- What Cut leaves. -/
def CutRet (w : World) (o : Option (List UInt8 × List UInt8)) (e : Ending) (w' : World) : Prop :=
  e = .returned (.tuple #[.string (bs (o.getD ([], [])).1), .string (bs (o.getD ([], [])).2), .int .i64 (errN o)]) ∧ Below w.heap.size w w'
end Go.Proofs.YtimfeocaghccdaaGreatDoor
