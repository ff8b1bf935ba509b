/-
  The contract of package op's Right. Conditions: the two tables of unicode/utf8 as the program's text lays them.
-/
import Derived.Test.YtimfeocaghccdaaGreatDoorORef
import Derived.Test.YtimfeocaghccdaaGreatDoorNRight
namespace Go.Proofs.YtimfeocaghccdaaGreatDoor
set_option maxRecDepth 100000
open Go.RowKit
set_option linter.unusedVariables false

theorem Env.alloc {w : World} (h : Env w) (o : Obj) : Env (w.alloc o) := h.below ((Below.refl w.heap.size w).alloc (Nat.le_refl _) o)
set_option maxHeartbeats 2000000 in
set_option maxRecDepth 100000 in
theorem oright_any (n r d t : Int) (l : List UInt8) (w : World) (hl : l.length ≤ maxLen) (hE : Env w) : Calls Tryz.prog 45 #[opv n r d t l] w (BoolRet (opR n r d t l) w) := by
  have K1 := hide (sright_any n r)
  have K2 := hide (node_any d)
  have K3 := hide (parent_any t)
  have K4 := hide (fun w => right_any l w hl)
  have E := hide (show (stR n r && ndB d && toB t && right l) = opR n r d t l from rfl)
  have HE := hide (hE.alloc (.cells #[.int .i64 n, .int .i64 r, .int .i64 d, .int .i64 t, .string (bs l)] 50))
  clear hE
  unfold st at K1
  unfold opv
  generalize opR n r d t l = R at E
  generalize stR n r = q1 at K1 E
  generalize ndB d = q2 at K2 E
  generalize toB t = q3 at K3 E
  generalize right l = q4 at K4 E
  have HA := hide (Bo.new w n r d t l 50)
  go_enter Tryz.func45, Tryz.ntmps45
  go_wp2_with fail
  refine (K1.out _).mono ?_
  rintro e w1 ⟨rfl, hb⟩
  obtain ⟨a0, a1, a2, a3, a4⟩ := HA.out.below hb (by simp)
  have HE1 := hide (HE.out.below hb)
  have B1 := hide ((Below.refl w.heap.size w).alloc (Nat.le_refl _) _ |>.trans (hb.mono (by simp)))
  have s1 := B1.out.size
  clear hb
  cases q1 with
  | false =>
    go_wp2
    go_ret
    exact ⟨ret_bool E.out, B1.out⟩
  | true =>
    go_wp2_with fail
    refine (K2.out _).mono ?_
    rintro e w2 ⟨rfl, rfl⟩
    cases q2 with
    | false =>
      go_wp2
      go_ret
      exact ⟨ret_bool E.out, B1.out⟩
    | true =>
      go_wp2_with fail
      refine (K3.out _).mono ?_
      rintro e w3 ⟨rfl, rfl⟩
      cases q3 with
      | false =>
        go_wp2
        go_ret
        exact ⟨ret_bool E.out, B1.out⟩
      | true =>
        go_wp2_with fail
        refine (K4.out _ HE1.out).mono ?_
        rintro e w4 ⟨rfl, hb4⟩
        have B4 := hide (B1.out.trans (hb4.mono s1))
        clear hb4
        go_wp2
        go_ret
        exact ⟨ret_bool E.out, B4.out⟩
end Go.Proofs.YtimfeocaghccdaaGreatDoor
