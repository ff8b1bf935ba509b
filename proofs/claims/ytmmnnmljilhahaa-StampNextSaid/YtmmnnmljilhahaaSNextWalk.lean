/-
  The walk of the law StampNext: it answers true at every input, and changes nothing that was there. No conditions.
-/
import Derived.Test.YtmmnnmljilhahaaSAwake
import Derived.Test.YtmmnnmljilhahaaPair
namespace Go.Proofs.Ytmmnnmljilhahaa
open Go.RowKit
set_option linter.unusedVariables false

set_option maxHeartbeats 2000000 in
theorem stampNext_in (a b c : Int) (w : World) : Calls Try.prog 4 #[.int .i64 a, .int .i64 b, .int .i64 c] w (TrueRet w) := by
  have K0 := hide (next_any a b c)
  have K1 := hide (refNext_any a b c)
  unfold NextRet at K0 K1
  generalize nxN a b c = n at K0 K1
  generalize nxR a b c = r at K0 K1
  generalize nxE a b c = x at K0 K1
  go_enter Try.func4, Try.ntmps4
  go_wp2_with fail
  refine (sAwake_any w).mono ?_
  rintro e w1 ⟨rfl, hb⟩
  have B1 := hide hb
  have s1 := hb.size
  clear hb
  go_wp2_with fail
  refine (K0.out _).mono ?_
  rintro e w2 ⟨rfl, hb⟩
  have B2 := hide (B1.out.trans (hb.mono s1))
  have s2 := B2.out.size
  clear hb B1 s1
  go_wp2_with fail
  refine (K1.out _).mono ?_
  rintro e w3 ⟨rfl, hb⟩
  obtain ⟨c0, c1⟩ := ((Bx.new w2 n r 23).below hb (by simp)).alloc (.cells #[.int .i64 n, .int .i64 r] 23)
  have B3 := hide ((B2.out.alloc s2 _).trans (hb.mono (by simp; omega)))
  have s3 := B3.out.size
  have l3 := hb.size
  simp at l3
  clear hb B2 s2
  go_wp2
  go_ret
  exact ⟨rfl, B3.out.alloc s3 _⟩
theorem stampNext_walk (a b c : Int) (w : World) (ha : (Lit.int .i64 a).wf = true) (hb : (Lit.int .i64 b).wf = true) (hc : (Lit.int .i64 c).wf = true) :
    Calls Try.prog 4 #[.int .i64 a, .int .i64 b, .int .i64 c] w (TrueRet w) := stampNext_in a b c w
end Go.Proofs.Ytmmnnmljilhahaa
