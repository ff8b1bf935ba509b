/-
  What awake of layer 4 answers: true. No conditions.
-/
import Derived.Test.YtmmnnmljilhahaaSRef
namespace Go.Proofs.Ytmmnnmljilhahaa
open Go.RowKit
set_option linter.unusedVariables false

theorem nx_good : nxN 4 7 100 = 5 ∧ nxR 4 7 100 = 7 ∧ nxE 4 7 100 = 0 := by decide
theorem sAwake_any (w : World) : Calls Try.prog 8 #[] w (TrueRet w) := by
  have K0 := hide (next_any 4 7 100)
  have K1 := hide (sid_any 5 7)
  have K2 := hide (sright_any 5 7)
  have K3 := hide (scmp_any 5 7 5 8)
  unfold NextRet at K0
  unfold st at K1 K2 K3
  rw [nx_good.1, nx_good.2.1, nx_good.2.2] at K0
  rw [show stI 5 7 = 1287 by decide] at K1
  rw [show stR 5 7 = true by decide] at K2
  rw [show stC 5 7 5 8 = -1 by decide] at K3
  go_enter Try.func8, Try.ntmps8
  go_wp2_with fail
  refine (K0.out _).mono ?_
  rintro e w1 ⟨rfl, hb⟩
  have B1 := hide hb
  have s1 := hb.size
  clear hb
  go_wp2_with fail
  refine (K1.out _).mono ?_
  rintro e w2 ⟨rfl, hb⟩
  obtain ⟨c0, c1⟩ := (Bx.new w1 5 7 23).below hb (by simp)
  have B2 := hide ((B1.out.alloc s1 _).trans (hb.mono (by simp; omega)))
  have s2 := B2.out.size
  have l2 := hb.size
  simp at l2
  clear hb B1
  go_wp2_with fail
  refine (K2.out _).mono ?_
  rintro e w3 ⟨rfl, hb⟩
  obtain ⟨d0, d1⟩ := Bx.below ⟨c0, c1⟩ hb (by omega)
  have B3 := hide (B2.out.trans (hb.mono s2))
  have s3 := B3.out.size
  clear hb B2 c0 c1
  go_wp2_with fail
  refine (K3.out _).mono ?_
  rintro e w4 ⟨rfl, hb⟩
  have B4 := hide (B3.out.trans (hb.mono s3))
  clear hb
  go_wp2
  go_ret
  exact ⟨rfl, B4.out⟩
end Go.Proofs.Ytmmnnmljilhahaa
