/-
  Contracts of the document's Right and Cmp of operations. Conditions: names are no longer than a thousand bytes.
-/
import Derived.Test.YtlcmkikjgelfaaaDoorOSmall
import Derived.Test.YtlcmkikjgelfaaaDoorSRef
import Derived.Test.YtlcmkikjgelfaaaDoorNRefRight
namespace Go.Proofs.YtlcmkikjgelfaaaDoor
set_option maxRecDepth 100000
open Go.RowKit
set_option linter.unusedVariables false

set_option maxHeartbeats 2000000 in
set_option maxRecDepth 100000 in
theorem orefRight_any (n r d t : Int) (l : List UInt8) (w : World) (hl : l.length ≤ 1000) : Calls Tryd.prog 34 #[opv n r d t l] w (BoolRet (opR n r d t l) w) := by
  have K1 := hide (srefRight_any n r)
  have K2 := hide (fun w => refRight_any l w hl)
  have K3 := hide (refNode_any d)
  have K4 := hide (refNode_any t)
  have E := hide (show (stR n r && right l && ndB d && (ndB t || (t == 0) || (t == 1))) = opR n r d t l by
    unfold opR
    rw [toB_or]
    cases stR n r <;> cases right l <;> cases ndB d <;> cases ndB t <;> simp
    rfl)
  unfold st at K1
  unfold opv
  generalize opR n r d t l = R at E
  generalize stR n r = q1 at K1 E
  generalize right l = q2 at K2 E
  generalize ndB d = q3 at K3 E
  generalize ndB t = q4 at K4 E
  have HA := hide (Bo.new w n r d t l 37)
  go_enter Tryd.func34, Tryd.ntmps34
  go_wp2_with fail
  refine (K1.out _).mono ?_
  rintro e w1 ⟨rfl, hb⟩
  obtain ⟨a0, a1, a2, a3, a4⟩ := HA.out.below hb (by simp)
  have B1 := hide ((Below.refl w.heap.size w).alloc (Nat.le_refl _) _ |>.trans (hb.mono (by simp)))
  clear hb
  go_wp2_with fail
  refine (K2.out _).mono ?_
  rintro e w2 ⟨rfl, rfl⟩
  go_wp2_with fail
  refine (K3.out _).mono ?_
  rintro e w3 ⟨rfl, rfl⟩
  go_wp2_with fail
  refine (K4.out _).mono ?_
  rintro e w4 ⟨rfl, rfl⟩
  clear K1 K2 K3 K4
  cases q1 <;> cases q2 <;> cases q3 <;> cases q4 <;> go_wp2 <;> go_ret <;> first | exact ⟨ret_bool E.out, B1.out⟩ | exact ⟨ret_bool (by rw [← E.out]; simp_all), B1.out⟩
end Go.Proofs.YtlcmkikjgelfaaaDoor
