/-
  The document's limbo in memory: the contract of Retire. Conditions: the limbo is one, in memory, of not more than a hundred thousand handles; the handles that come are not its own. (Its three end lemmas are one text, filled thrice.)
-/
import Derived.Test.YtbfbnfnjjlibbaaERef2
import Derived.Deep.DeepCutAuto
import Derived.Deep.CutRange
import Derived.Deep.RegionLaw
import Derived.Deep.AppendLies
namespace Go.Proofs.Ytbfbnfnjjlibbaa
open Go.RowKit
set_option linter.unusedVariables false
set_option linter.unusedSimpArgs false
set_option maxRecDepth 100000

/-- A limbo whose rows may be of different lengths. -/
structure Lr (w : World) (g now : Nat) (vH vB vG : Value) (lH : List (Int × Int)) (lB lG : List Value) : Prop where
  blk : w.heap[g]? = some (.cells #[.int .i64 (now : Int), vH, vB, vG] 31 (0, 0))
  rH : w.ownsRow 0 43 2 vH lH.length (hcs lH)
  rB : w.ownsRow 0 3 1 vB lB.length lB
  rG : w.ownsRow 0 4 1 vG lG.length lG
theorem Lr.lts {w : World} {g now : Nat} {vH vB vG : Value} {lH : List (Int × Int)} {lB lG : List Value} (h : Lr w g now vH vB vG lH lB lG) {b : Nat} (hb : b = g ∨ vH.ownBlock = some b ∨ vB.ownBlock = some b ∨ vG.ownBlock = some b) : b < w.heap.size := by
  rcases hb with rfl | hb | hb | hb
  · exact (Array.getElem?_eq_some_iff.1 h.blk).1
  · exact row_lt h.rH hb
  · exact row_lt h.rB hb
  · exact row_lt h.rG hb
theorem Lr.below {w w' : World} {g now : Nat} {vH vB vG : Value} {lH : List (Int × Int)} {lB lG : List Value} (h : Lr w g now vH vB vG lH lB lG) (hb : Below w.heap.size w w') : Lr w' g now vH vB vG lH lB lG :=
  ⟨(hb.block g (h.lts (.inl rfl))).trans h.blk, row_kept h.rH fun b h1 => hb.block b (row_lt h.rH h1), row_kept h.rB fun b h1 => hb.block b (row_lt h.rB h1), row_kept h.rG fun b h1 => hb.block b (row_lt h.rG h1)⟩
theorem Lr.cells {w : World} {g now : Nat} {vH vB vG : Value} {lH : List (Int × Int)} {lB lG : List Value} (h : Lr w g now vH vB vG lH lB lG) : w.cell? ⟨g, 0, none⟩ = some (.int .i64 (now : Int)) ∧ w.cell? ⟨g, 1, none⟩ = some vH ∧ w.cell? ⟨g, 2, none⟩ = some vB ∧ w.cell? ⟨g, 3, none⟩ = some vG :=
  ⟨cell_of_row w g 0 _ _ (0, 0) h.blk, cell_of_row w g 1 _ _ (0, 0) h.blk, cell_of_row w g 2 _ _ (0, 0) h.blk, cell_of_row w g 3 _ _ (0, 0) h.blk⟩
theorem Lr.lm {w : World} {g now : Nat} {vH vB vG : Value} {D : List Rt} : Lr w g now vH vB vG (rtH D) (rtB D) (rtG D) ↔ Lm w g now vH vB vG D := by
  have e1 : (rtH D).length = D.length := by simp [rtH]
  have e2 : (rtB D).length = D.length := by simp [rtB]
  have e3 : (rtG D).length = D.length := by simp [rtG]
  constructor
  · intro h
    exact ⟨h.blk, by have := h.rH; rw [e1] at this; exact this, by have := h.rB; rw [e2] at this; exact this, by have := h.rG; rw [e3] at this; exact this⟩
  · intro h
    exact ⟨h.blk, by rw [e1]; exact h.rH, by rw [e2]; exact h.rB, by rw [e3]; exact h.rG⟩
/-- A limbo that is being changed; its blocks are among these, or new. -/
structure Lf (w0 w : World) (fs : List Nat) (g now : Nat) (lH : List (Int × Int)) (lB lG : List Value) : Prop where
  md : Mod fs w0 w
  mem : ∃ vH vB vG, Lr w g now vH vB vG lH lB lG ∧ ∀ b, b = g ∨ vH.ownBlock = some b ∨ vB.ownBlock = some b ∨ vG.ownBlock = some b → b ∈ fs ∨ w0.heap.size ≤ b
theorem rt_endH {w0 w wa w5 : World} {fs : List Nat} {g now gx cx n c : Nat} {a1 : Option Addr} {vB vG : Value} {lH : List (Int × Int)} {lB lG : List Value} {p q : Int} (hm : Mod fs w0 w) (h : Lr w g now (.slice a1 n c) vB vG lH lB lG) (hn : lH.length = n)
    (hf : ∀ b, b = g ∨ (Value.slice a1 n c).ownBlock = some b ∨ vB.ownBlock = some b ∨ vG.ownBlock = some b → b ∈ fs ∨ w0.heap.size ≤ b)
    (ho : w5.ownsRow 0 43 2 (.slice (some ⟨gx, 0, none⟩) (n + 1) cx) (n + 1) (hcs lH ++ [.int .i64 p, .int .i64 q]))
    (D : Below w.heap.size w wa) (hg : wa.grownBy w5 (Value.slice a1 n c).ownBlock)
    (hat : (Value.slice a1 n c).ownBlock = some gx ∨ w.heap.size ≤ gx) :
    w5.cell? ⟨g, 1, none⟩ = some (.slice a1 n c) ∧ w5.frozen? ⟨g, 1, none⟩ = false ∧ Lf w0 (w5.setCell ⟨g, 1, none⟩ (.slice (some ⟨gx, 0, none⟩) (n + 1) cx)) fs g now (lH ++ [(p, q)]) lB lG := by
  subst hn
  have h1 := h.below D
  have hb := (hg.block g (h1.lts (.inl rfl)) (fun e => row_ne h.rH h.blk (by decide) e.symm)).trans h1.blk
  have k1 := row_kept h1.rB fun b hb' => hg.block b (row_lt h1.rB hb') fun e => by
    obtain ⟨cur, hc⟩ := row_block h.rB hb'
    exact row_ne h.rH hc (by decide) e.symm
  have k2 := row_kept h1.rG fun b hb' => hg.block b (row_lt h1.rG hb') fun e => by
    obtain ⟨cur, hc⟩ := row_block h.rG hb'
    exact row_ne h.rH hc (by decide) e.symm
  have M1 : Mod fs w0 w5 := (hm.trans (fs' := []) (Mod.of_below D) (by simp)).trans (fs' := (Value.slice a1 lH.length c).ownBlock.toList) (Mod.of_grown hg fun k hk => by simp [hk]) fun k hk => hf k ((fun h => .inr <| .inl h) (by simpa using hk))
  refine ⟨cell_of_row w5 g 1 _ _ (0, 0) hb, Joins.unfrozen_of_block hb 1, M1.setCell (hf g (.inl rfl)) _, .slice (some ⟨gx, 0, none⟩) (lH.length + 1) cx, vB, vG, ?_, ?_⟩
  · have sk : ∀ {v : Value} {e : TypeId} {sz m : Nat} {xs : List Value}, w5.ownsRow 0 e sz v m xs → e ≠ 31 → (w5.setCell ⟨g, 1, none⟩ (.slice (some ⟨gx, 0, none⟩) (lH.length + 1) cx)).ownsRow 0 e sz v m xs := fun hr ht => row_kept hr fun k hk => Below.heap_setCell _ _ _ _ (by
      rintro rfl
      exact row_ne hr hb (fun e => ht e.symm) hk)
    have hx := sk ho (by decide)
    have hx1 := sk k1 (by decide)
    have hx2 := sk k2 (by decide)
    have hbb := Joins.block_setCell (i := 1) hb (.slice (some ⟨gx, 0, none⟩) (lH.length + 1) cx)
    exact ⟨by simpa using hbb, by rw [List.length_append, hcs_append]; exact hx, hx1, hx2⟩
  · rintro b (rfl | hb' | hb' | hb')
    · exact hf _ (.inl rfl)
    · simp [Value.ownBlock] at hb'
      subst hb'
      rcases hat with h2 | h2
      · exact hf _ ((fun h => .inr <| .inl h) h2)
      · right
        have := hm.size
        omega
    · exact hf _ ((fun h => .inr <| .inr <| .inl h) hb')
    · exact hf _ ((fun h => .inr <| .inr <| .inr h) hb')
theorem rt_endB {w0 w wa w5 : World} {fs : List Nat} {g now gx cx n c : Nat} {a1 : Option Addr} {vH vG : Value} {lH : List (Int × Int)} {lB lG : List Value} {p : Int} (hm : Mod fs w0 w) (h : Lr w g now vH (.slice a1 n c) vG lH lB lG) (hn : lB.length = n)
    (hf : ∀ b, b = g ∨ vH.ownBlock = some b ∨ (Value.slice a1 n c).ownBlock = some b ∨ vG.ownBlock = some b → b ∈ fs ∨ w0.heap.size ≤ b)
    (ho : w5.ownsRow 0 3 1 (.slice (some ⟨gx, 0, none⟩) (n + 1) cx) (n + 1) (lB ++ [.int .i64 p]))
    (D : Below w.heap.size w wa) (hg : wa.grownBy w5 (Value.slice a1 n c).ownBlock)
    (hat : (Value.slice a1 n c).ownBlock = some gx ∨ w.heap.size ≤ gx) :
    w5.cell? ⟨g, 2, none⟩ = some (.slice a1 n c) ∧ w5.frozen? ⟨g, 2, none⟩ = false ∧ Lf w0 (w5.setCell ⟨g, 2, none⟩ (.slice (some ⟨gx, 0, none⟩) (n + 1) cx)) fs g now lH (lB ++ [.int .i64 p]) lG := by
  subst hn
  have h1 := h.below D
  have hb := (hg.block g (h1.lts (.inl rfl)) (fun e => row_ne h.rB h.blk (by decide) e.symm)).trans h1.blk
  have k1 := row_kept h1.rH fun b hb' => hg.block b (row_lt h1.rH hb') fun e => by
    obtain ⟨cur, hc⟩ := row_block h.rH hb'
    exact row_ne h.rB hc (by decide) e.symm
  have k2 := row_kept h1.rG fun b hb' => hg.block b (row_lt h1.rG hb') fun e => by
    obtain ⟨cur, hc⟩ := row_block h.rG hb'
    exact row_ne h.rB hc (by decide) e.symm
  have M1 : Mod fs w0 w5 := (hm.trans (fs' := []) (Mod.of_below D) (by simp)).trans (fs' := (Value.slice a1 lB.length c).ownBlock.toList) (Mod.of_grown hg fun k hk => by simp [hk]) fun k hk => hf k ((fun h => .inr <| .inr <| .inl h) (by simpa using hk))
  refine ⟨cell_of_row w5 g 2 _ _ (0, 0) hb, Joins.unfrozen_of_block hb 2, M1.setCell (hf g (.inl rfl)) _, vH, .slice (some ⟨gx, 0, none⟩) (lB.length + 1) cx, vG, ?_, ?_⟩
  · have sk : ∀ {v : Value} {e : TypeId} {sz m : Nat} {xs : List Value}, w5.ownsRow 0 e sz v m xs → e ≠ 31 → (w5.setCell ⟨g, 2, none⟩ (.slice (some ⟨gx, 0, none⟩) (lB.length + 1) cx)).ownsRow 0 e sz v m xs := fun hr ht => row_kept hr fun k hk => Below.heap_setCell _ _ _ _ (by
      rintro rfl
      exact row_ne hr hb (fun e => ht e.symm) hk)
    have hx := sk ho (by decide)
    have hx1 := sk k1 (by decide)
    have hx2 := sk k2 (by decide)
    have hbb := Joins.block_setCell (i := 2) hb (.slice (some ⟨gx, 0, none⟩) (lB.length + 1) cx)
    exact ⟨by simpa using hbb, hx1, by rw [List.length_append]; exact hx, hx2⟩
  · rintro b (rfl | hb' | hb' | hb')
    · exact hf _ (.inl rfl)
    · exact hf _ ((fun h => .inr <| .inl h) hb')
    · simp [Value.ownBlock] at hb'
      subst hb'
      rcases hat with h2 | h2
      · exact hf _ ((fun h => .inr <| .inr <| .inl h) h2)
      · right
        have := hm.size
        omega
    · exact hf _ ((fun h => .inr <| .inr <| .inr h) hb')
theorem rt_endG {w0 w wa w5 : World} {fs : List Nat} {g now gx cx n c : Nat} {a1 : Option Addr} {vH vB : Value} {lH : List (Int × Int)} {lB lG : List Value} {p : Bool} (hm : Mod fs w0 w) (h : Lr w g now vH vB (.slice a1 n c) lH lB lG) (hn : lG.length = n)
    (hf : ∀ b, b = g ∨ vH.ownBlock = some b ∨ vB.ownBlock = some b ∨ (Value.slice a1 n c).ownBlock = some b → b ∈ fs ∨ w0.heap.size ≤ b)
    (ho : w5.ownsRow 0 4 1 (.slice (some ⟨gx, 0, none⟩) (n + 1) cx) (n + 1) (lG ++ [.bool p]))
    (D : Below w.heap.size w wa) (hg : wa.grownBy w5 (Value.slice a1 n c).ownBlock)
    (hat : (Value.slice a1 n c).ownBlock = some gx ∨ w.heap.size ≤ gx) :
    w5.cell? ⟨g, 3, none⟩ = some (.slice a1 n c) ∧ w5.frozen? ⟨g, 3, none⟩ = false ∧ Lf w0 (w5.setCell ⟨g, 3, none⟩ (.slice (some ⟨gx, 0, none⟩) (n + 1) cx)) fs g now lH lB (lG ++ [.bool p]) := by
  subst hn
  have h1 := h.below D
  have hb := (hg.block g (h1.lts (.inl rfl)) (fun e => row_ne h.rG h.blk (by decide) e.symm)).trans h1.blk
  have k1 := row_kept h1.rH fun b hb' => hg.block b (row_lt h1.rH hb') fun e => by
    obtain ⟨cur, hc⟩ := row_block h.rH hb'
    exact row_ne h.rG hc (by decide) e.symm
  have k2 := row_kept h1.rB fun b hb' => hg.block b (row_lt h1.rB hb') fun e => by
    obtain ⟨cur, hc⟩ := row_block h.rB hb'
    exact row_ne h.rG hc (by decide) e.symm
  have M1 : Mod fs w0 w5 := (hm.trans (fs' := []) (Mod.of_below D) (by simp)).trans (fs' := (Value.slice a1 lG.length c).ownBlock.toList) (Mod.of_grown hg fun k hk => by simp [hk]) fun k hk => hf k ((fun h => .inr <| .inr <| .inr h) (by simpa using hk))
  refine ⟨cell_of_row w5 g 3 _ _ (0, 0) hb, Joins.unfrozen_of_block hb 3, M1.setCell (hf g (.inl rfl)) _, vH, vB, .slice (some ⟨gx, 0, none⟩) (lG.length + 1) cx, ?_, ?_⟩
  · have sk : ∀ {v : Value} {e : TypeId} {sz m : Nat} {xs : List Value}, w5.ownsRow 0 e sz v m xs → e ≠ 31 → (w5.setCell ⟨g, 3, none⟩ (.slice (some ⟨gx, 0, none⟩) (lG.length + 1) cx)).ownsRow 0 e sz v m xs := fun hr ht => row_kept hr fun k hk => Below.heap_setCell _ _ _ _ (by
      rintro rfl
      exact row_ne hr hb (fun e => ht e.symm) hk)
    have hx := sk ho (by decide)
    have hx1 := sk k1 (by decide)
    have hx2 := sk k2 (by decide)
    have hbb := Joins.block_setCell (i := 3) hb (.slice (some ⟨gx, 0, none⟩) (lG.length + 1) cx)
    exact ⟨by simpa using hbb, hx1, hx2, by rw [List.length_append]; exact hx⟩
  · rintro b (rfl | hb' | hb' | hb')
    · exact hf _ (.inl rfl)
    · exact hf _ ((fun h => .inr <| .inl h) hb')
    · exact hf _ ((fun h => .inr <| .inr <| .inl h) hb')
    · simp [Value.ownBlock] at hb'
      subst hb'
      rcases hat with h2 | h2
      · exact hf _ ((fun h => .inr <| .inr <| .inr h) h2)
      · right
        have := hm.size
        omega
end Go.Proofs.Ytbfbnfnjjlibbaa
