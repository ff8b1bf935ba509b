/-
  Contracts of the document's Right and Cmp of operations. Conditions: names are no longer than a thousand bytes.
-/
import Derived.Test.YtimfeocaghccdaaGreatDoorOCmp2
import Derived.Test.YtimfeocaghccdaaGreatDoorSRef
import Derived.Test.YtimfeocaghccdaaGreatDoorNRefRight
namespace Go.Proofs.YtimfeocaghccdaaGreatDoor
set_option maxRecDepth 100000
open Go.RowKit
set_option linter.unusedVariables false

set_option maxHeartbeats 2000000 in
set_option maxRecDepth 100000 in
theorem orefRight_any (n r d t : Int) (l : List UInt8) (w : World) (hl : l.length ≤ 1000) : Calls Tryz.prog 35 #[opv n r d t l] w (BoolRet (opR n r d t l) w) := by
  have K1 := hide (srefRight_any n r)
  have K2 := hide (fun w => refRight_any l w hl)
  have K3 := hide (refNode_any d)
  have K4 := hide (refNode_any t)
  have E := hide (show (stR n r && right l && ndB d && (ndB t || (t == 0) || (t == 1))) = opR n r d t l by
    unfold opR
    rw [toB_or]
    cases stR n r <;> cases right l <;> cases ndB d <;> cases ndB t <;> simp
    rfl)
  unfold st at K1
  unfold opv
  generalize opR n r d t l = R at E
  generalize stR n r = q1 at K1 E
  generalize right l = q2 at K2 E
  generalize ndB d = q3 at K3 E
  generalize ndB t = q4 at K4 E
  have HA := hide (Bo.new w n r d t l 50)
  go_enter Tryz.func35, Tryz.ntmps35
  go_wp2_with fail
  refine (K1.out _).mono ?_
  rintro e w1 ⟨rfl, hb⟩
  obtain ⟨a0, a1, a2, a3, a4⟩ := HA.out.below hb (by simp)
  have B1 := hide ((Below.refl w.heap.size w).alloc (Nat.le_refl _) _ |>.trans (hb.mono (by simp)))
  clear hb
  go_wp2_with fail
  refine (K2.out _).mono ?_
  rintro e w2 ⟨rfl, rfl⟩
  go_wp2_with fail
  refine (K3.out _).mono ?_
  rintro e w3 ⟨rfl, rfl⟩
  go_wp2_with fail
  refine (K4.out _).mono ?_
  rintro e w4 ⟨rfl, rfl⟩
  clear K1 K2 K3 K4
  cases q1 <;> cases q2 <;> cases q3 <;> cases q4 <;> go_wp2 <;> go_ret <;> first | exact ⟨ret_bool E.out, B1.out⟩ | exact ⟨ret_bool (by rw [← E.out]; simp_all), B1.out⟩
set_option maxHeartbeats 2000000 in
set_option maxRecDepth 100000 in
theorem orefCmp_any (n r d t : Int) (l : List UInt8) (m s e u : Int) (k : List UInt8) (w : World) : Calls Tryz.prog 64 #[opv n r d t l, opv m s e u k] w (NumRet (opC n r d t l m s e u k) w) := by
  have K1 := hide (refCmp_any n r m s)
  have H1 := hide (show stC n r m s ≠ 0 → opC n r d t l m s e u k = stC n r m s from fun h => by unfold opC; rw [if_pos h])
  have H2 := hide (show stC n r m s = 0 → cm d e ≠ 0 → opC n r d t l m s e u k = cm d e from fun h h2 => by unfold opC; rw [if_neg (by simpa using h), if_pos h2])
  have H3 := hide (show stC n r m s = 0 → cm d e = 0 → cm t u ≠ 0 → opC n r d t l m s e u k = cm t u from fun h h2 h3 => by unfold opC; rw [if_neg (by simpa using h), if_neg (by simpa using h2), if_pos h3])
  have H4 := hide (show stC n r m s = 0 → cm d e = 0 → cm t u = 0 → opC n r d t l m s e u k = cN l k from fun h h2 h3 => by unfold opC; rw [if_neg (by simpa using h), if_neg (by simpa using h2), if_neg (by simpa using h3)])
  have HA := hide (Bo.new w n r d t l 50)
  have HB := hide (Bo.new2 w m s e u k 50 (.cells #[.int .i64 n, .int .i64 r, .int .i64 d, .int .i64 t, .string (bs l)] 50))
  unfold st at K1
  unfold opv
  go_enter Tryz.func64, Tryz.ntmps64
  go_wp2_with fail
  refine (K1.out _).mono ?_
  rintro e' w1 ⟨rfl, hb⟩
  obtain ⟨a0, a1, a2, a3, a4⟩ := (HA.out.alloc _).below hb (by simp; omega)
  obtain ⟨b0, b1, b2, b3, b4⟩ := HB.out.below hb (by simp)
  have B := hide ((below_two w _ _).trans (hb.mono (by simp; omega)))
  clear hb HA HB K1
  by_cases h0 : stC n r m s = 0
  · have Z0 := hide h0
    rw [h0]
    clear h0
    by_cases h1 : d = e
    · have Z1 := hide (show cm d e = 0 by rw [h1]; exact cm_self e)
      by_cases h2 : t = u
      · have Z2 := hide (show cm t u = 0 by rw [h2]; exact cm_self u)
        have Z := hide (H4.out Z0.out Z1.out Z2.out)
        go_wp2
        · rename_i hq
          go_ret
          rw [Z.out, cN_less l k (by simpa [bs_list] using hq)]
          exact ⟨rfl, B.out⟩
        · rename_i hq hr
          go_ret
          rw [Z.out, cN_more l k (by simpa [bs_list] using hq) (by simpa [bs_list] using hr)]
          exact ⟨rfl, B.out⟩
        · rename_i hq hr
          go_ret
          rw [bs_list, bs_list] at hr
          rw [Z.out, show l = k by simpa using hr, cN_self]
          exact ⟨rfl, B.out⟩
      · by_cases h3 : t < u
        · have Z2 := hide (show cm t u = -1 by simp [cm, h3])
          have Z := hide (H3.out Z0.out Z1.out (by rw [Z2.out]; decide))
          go_wp2
          go_ret
          rw [Z.out, Z2.out]
          exact ⟨rfl, B.out⟩
        · have Z2 := hide (show cm t u = 1 by simp [cm, h3]; omega)
          have Z := hide (H3.out Z0.out Z1.out (by rw [Z2.out]; decide))
          go_wp2
          go_ret
          rw [Z.out, Z2.out]
          exact ⟨rfl, B.out⟩
    · by_cases h3 : d < e
      · have Z2 := hide (show cm d e = -1 by simp [cm, h3])
        have Z := hide (H2.out Z0.out (by rw [Z2.out]; decide))
        go_wp2
        go_ret
        rw [Z.out, Z2.out]
        exact ⟨rfl, B.out⟩
      · have Z2 := hide (show cm d e = 1 by simp [cm, h3]; omega)
        have Z := hide (H2.out Z0.out (by rw [Z2.out]; decide))
        go_wp2
        go_ret
        rw [Z.out, Z2.out]
        exact ⟨rfl, B.out⟩
  · have Z := hide (H1.out h0)
    go_wp2
    go_ret
    rw [Z.out]
    exact ⟨rfl, B.out⟩
end Go.Proofs.YtimfeocaghccdaaGreatDoor
