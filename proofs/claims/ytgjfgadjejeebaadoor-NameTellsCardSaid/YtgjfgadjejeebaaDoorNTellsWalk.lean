/-
  The walk of the law NameTells: it answers true at every input, and changes nothing that was there. Conditions: Env (the library's variables).
-/
import Derived.Test.YtgjfgadjejeebaaDoorNAwake
namespace Go.Proofs.YtgjfgadjejeebaaDoor
open Go.RowKit Go.Shelf
set_option linter.unusedVariables false

set_option maxHeartbeats 2000000 in
set_option maxRecDepth 100000 in
theorem nTells_in (l : List UInt8) (w : World) (hl : l.length ≤ maxLen) (hE : Env w) : Calls Tryd.prog 3 #[.string (bs l)] w (TrueRet w) := by
  have hm : maxLen = 9223372036854775807 := rfl
  have hsz := bs_size l
  have EN := hide hE
  clear hE
  go_enter Tryd.func3, Tryd.ntmps3
  go_wp2_with fail
  refine (awake_any w EN.out).mono ?_
  rintro e w1 ⟨rfl, hb⟩
  have B1 := hide hb
  have s1 := hb.size
  clear hb
  by_cases h5 : 500 < l.length
  · have h5i : (500 : Int) < (l.length : Int) := by omega
    go_wp2
    go_ret
    exact ⟨rfl, B1.out⟩
  · have h5i : ¬ (500 : Int) < (l.length : Int) := by omega
    go_wp2_with fail
    refine (split_any l w1 (by omega) (EN.out.below B1.out)).mono ?_
    rintro e w2 ⟨v2, rfl, htx, hb⟩
    have T2 := hide htx
    have B2 := hide (B1.out.trans (hb.mono s1))
    have s2 := B2.out.size
    clear hb htx B1 s1
    go_wp2_with fail
    refine (refSplit_any l w2 (by omega)).mono ?_
    rintro e w3 ⟨v3, rfl, htx, hb⟩
    have T3 := hide (T2.out.below hb)
    have U3 := hide htx
    have B3 := hide (B2.out.trans (hb.mono s2))
    have s3 := B3.out.size
    clear hb htx B2 s2 T2
    go_wp2_with fail
    refine (right_any l w3 hl (EN.out.below B3.out)).mono ?_
    rintro e w4 ⟨rfl, hb⟩
    have T4 := hide (T3.out.below hb)
    have U4 := hide (U3.out.below hb)
    have B4 := hide (B3.out.trans (hb.mono s3))
    have s4 := B4.out.size
    clear hb B3 s3 T3 U3
    go_wp2_with fail
    refine (refRight_any l w4 (by omega)).mono ?_
    rintro e w5 ⟨rfl, rfl⟩
    have k := texts_any v2 v3 _ _ w5 T4.out U4.out
    rw [decide_eq_true rfl] at k
    have K := hide k
    clear k T4 U4
    have hq : (right l == right l) = true := beq_self_eq_true _
    have hq2 : (errN (splitP l) == errN (splitP l)) = true := beq_self_eq_true _
    revert hq hq2
    generalize right l = r
    generalize errN (splitP l) = n
    intro hq hq2
    go_wp2_with fail
    refine K.out.mono ?_
    rintro e w6 ⟨rfl, hb⟩
    have B6 := hide (B4.out.trans (hb.mono s4))
    clear hb B4 s4
    go_wp2
    go_ret
    exact ⟨rfl, B6.out⟩
theorem nameTells_walk (a0 : ByteArray) (w : World) (w0 : a0.size ≤ maxLen) (hE : Env w) : Calls Tryd.prog 3 #[.string a0] w (TrueRet w) := by
  rw [← bs_of a0]
  exact nTells_in a0.data.toList w w0 hE
end Go.Proofs.YtgjfgadjejeebaaDoor
