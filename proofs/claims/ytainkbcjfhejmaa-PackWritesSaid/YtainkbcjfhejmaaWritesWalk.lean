/-
  The walk of the law PackWrites: it answers true at every input, and changes nothing that was there. No conditions beyond the kinds of its arguments.
-/
import Derived.Test.YtainkbcjfhejmaaRef
namespace Go.Proofs.Ytainkbcjfhejmaa
open Go.RowKit
set_option linter.unusedVariables false

set_option maxHeartbeats 1000000 in
theorem writes_big (a0 : Int) (a1 : ByteArray) (w : World) (h : 5000 < a1.size) :
    Calls Try.prog 3 #[.int .i64 a0, .string a1] w (TrueRet w) := by
  go_enter Try.func3, Try.ntmps3
  go_wp2_with fail
  refine (awake_any w).mono ?_
  rintro e w1 ⟨rfl, hb⟩
  have HB := hide hb
  clear hb
  go_wp2_with fail
  go_ret
  exact ⟨rfl, HB.out⟩

set_option maxHeartbeats 2000000 in
set_option maxRecDepth 100000 in
theorem writes_small (a0 : Int) (a1 : ByteArray) (w : World) (h : a1.size ≤ 5000) :
    Calls Try.prog 3 #[.int .i64 a0, .string a1] w (TrueRet w) := by
  go_enter Try.func3, Try.ntmps3
  go_wp2_with fail
  refine (awake_any w).mono ?_
  rintro e w1 ⟨rfl, hb1⟩
  have B1 := hide hb1
  have s1 := hb1.size
  clear hb1
  go_wp2_with fail
  refine (num_any a0 w1).mono ?_
  rintro e w2 ⟨v2, rfl, hown, hb⟩
  have B2 := hide (B1.out.trans (hb.mono s1))
  have s2 := B2.out.size
  have O2 := hide hown
  clear hown hb B1
  go_wp2_with fail
  refine (refnum_any a0 w2).mono ?_
  rintro e w3 ⟨v3, rfl, hown, hb⟩
  have B3 := hide (B2.out.trans (hb.mono s2))
  have s3 := B3.out.size
  have C2 := hide (conv_any w3 v2 _ (RSl.of_own (own_below O2.out hb)))
  have C3 := hide (conv_any w3 v3 _ (RSl.of_own hown))
  clear hown hb B2 O2
  go_wp2_with fail
  refine (same_yes v2 v3 _ w3 C2.out C3.out).mono ?_
  rintro e w4 ⟨rfl, rfl⟩
  clear C2 C3
  go_wp2_with fail
  refine (Text_any a1 w3).mono ?_
  rintro e w4 ⟨v4, rfl, hown, hb⟩
  have B4 := hide (B3.out.trans (hb.mono s3))
  have s4 := B4.out.size
  have O4 := hide hown
  clear hown hb B3
  go_wp2_with fail
  refine (refText_any a1 w4).mono ?_
  rintro e w5 ⟨v5, rfl, hown, hb⟩
  have B5 := hide (B4.out.trans (hb.mono s4))
  have C4 := hide (conv_any w5 v4 _ (RSl.of_own (own_below O4.out hb)))
  have C5 := hide (conv_any w5 v5 _ (RSl.of_own hown))
  clear hown hb B4 O4
  go_wp2_with fail
  refine (same_yes v4 v5 _ w5 C4.out C5.out).mono ?_
  rintro e w6 ⟨rfl, rfl⟩
  clear C4 C5
  go_wp2_with fail
  go_ret
  exact ⟨rfl, B5.out⟩

theorem packWrites_walk (a0 : Int) (a1 : ByteArray) (w : World) (w0 : (Lit.int .i64 a0).wf = true) (w1 : a1.size ≤ maxLen) :
    Calls Try.prog 3 #[.int .i64 a0, .string a1] w (TrueRet w) := by
  by_cases h : 5000 < a1.size
  · exact writes_big a0 a1 w h
  · exact writes_small a0 a1 w (by omega)
end Go.Proofs.Ytainkbcjfhejmaa
