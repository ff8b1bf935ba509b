/-
  A slice of numbers that came in can be read. No conditions.
-/
import Derived.Test.YtbfbnfnjjlibbaaELst
import Derived.Test.YtbfbnfnjjlibbaaBase
namespace Go.Proofs.Ytbfbnfnjjlibbaa
open Go.RowKit
set_option linter.unusedVariables false

theorem IsRow.is {w : World} {a : Option Addr} {len cap : Nat} {zs : List Int} (h : IsRow .i64 w a len cap zs) : ∃ ls : List Int, ls.length = len ∧ Is w a cap ls ∧ ∀ x ∈ ls, i64B x := by
  rcases h with ⟨rfl, rfl, rfl, rfl⟩ | ⟨x, rfl, hl, hm, hz, hcell, hwf⟩
  · exact ⟨[], rfl, ⟨Nat.le_refl _, Nat.zero_le _, fun h => by simp at h⟩, by simp⟩
  · have ht : (zs.take len).length = len := by rw [List.length_take]; omega
    refine ⟨zs.take len, ht, ⟨by omega, hm, fun hp => ?_⟩, fun y hy => ?_⟩
    · have hc : ∀ j (h : j < (zs.take len).length), w.cell? (x.add j) = some (.int .i64 (zs.take len)[j]) := fun j h => by
        have hj : j < zs.length := by omega
        rw [hcell j hj]
        simp [List.getD, List.getElem?_eq_getElem hj]
      obtain ⟨b, o, spot⟩ := x
      have h0 := hc 0 (by omega)
      have hspot : spot = none := by simpa [Addr.add] using World.cell?_spot h0
      subst hspot
      refine ⟨b, o, rfl, fun j h => ?_⟩
      have := hc j h
      rwa [Addr.add_lit] at this
    · have := bounds_i64 (hwf y (List.mem_of_mem_take hy))
      unfold i64B
      omega
end Go.Proofs.Ytbfbnfnjjlibbaa
