/-
  The walk of the law SumTells: it answers true at every input, and changes nothing that was there. No conditions beyond the kinds of its arguments.
-/
import Derived.Test.YtdflpciabdjhnaaSumAwake
namespace Go.Proofs.Ytdflpciabdjhnaa
open Go.RowKit
set_option linter.unusedVariables false

theorem tells_long (a0 a2 : Option Addr) (len0 cap0 len2 cap2 : Nat) (s : Int) (w : World) (hm0 : len0 ≤ maxLen) (hm2 : len2 ≤ maxLen) (h : 300 < len0 ∨ 300 < len2) :
    Calls Try.prog 3 #[.slice a0 len0 cap0, .int .u32 s, .slice a2 len2 cap2] w (TrueRet w) := by
  have hm : maxLen = 9223372036854775807 := rfl
  go_enter Try.func3, Try.ntmps3
  go_wp2_with fail
  refine (awake_any w).mono ?_
  rintro e w1 ⟨rfl, hb⟩
  have B1 := hide hb
  clear hb
  by_cases h0 : 300 < len0
  · go_wp2
    go_ret
    exact ⟨rfl, B1.out⟩
  · have h2 : 300 < len2 := by omega
    go_wp2
    go_ret
    exact ⟨rfl, B1.out⟩

set_option maxHeartbeats 1000000 in
set_option maxRecDepth 100000 in
theorem tells_short (a0 a2 : Option Addr) (cap0 cap2 s : Nat) (l0 l2 : List UInt8) (w : World) (hs : s < 4294967296) (h0 : l0.length ≤ 300) (h2 : l2.length ≤ 300) (hh0 : Hnd w (.slice a0 l0.length cap0) l0) (hh2 : Hnd w (.slice a2 l2.length cap2) l2) :
    Calls Try.prog 3 #[.slice a0 l0.length cap0, .int .u32 s, .slice a2 l2.length cap2] w (TrueRet w) := by
  have hm : maxLen = 9223372036854775807 := rfl
  have lt0 := sumN_lt 0 l0
  have H0 := hide hh0
  have H2 := hide hh2
  clear hh0 hh2
  go_enter Try.func3, Try.ntmps3
  go_wp2_with fail
  refine (awake_any w).mono ?_
  rintro e w1 ⟨rfl, hb⟩
  have B1 := hide hb
  have s1 := hb.size
  clear hb
  go_wp2_with fail
  refine (refThen_any 0 _ l0 w1 (by omega) (by omega) (H0.out.below B1.out)).mono ?_
  rintro e w2 ⟨rfl, hb⟩
  have B2 := hide (B1.out.trans (hb.mono s1))
  have s2 := B2.out.size
  clear hb B1 s1
  go_wp2_with fail
  refine (refFour_any _ w2 lt0).mono ?_
  rintro e w3 ⟨v3, rfl, hown, hb⟩
  have B3 := hide (B2.out.trans (hb.mono s2))
  have s3 := B3.out.size
  have H3 := hide (Hnd.of_RSl (RSl.of_own hown))
  clear hb hown B2 s2
  go_wp2_with fail
  refine (then_any s _ l0 w3 hs (by omega) (H0.out.below B3.out)).mono ?_
  rintro e w4 ⟨rfl, hb⟩
  have B4 := hide (B3.out.trans (hb.mono s3))
  have s4 := B4.out.size
  have W4 := hide (H3.out.below hb)
  clear hb B3 s3
  go_wp2_with fail
  refine (refThen_any s _ l0 w4 hs (by omega) (H0.out.below B4.out)).mono ?_
  rintro e w5 ⟨rfl, hb⟩
  have B5 := hide (B4.out.trans (hb.mono s4))
  have s5 := B5.out.size
  have W5 := hide (W4.out.below hb)
  clear W4
  clear hb B4 s4
  go_wp2_with fail
  refine (of_any _ l0 w5 (by omega) (H0.out.below B5.out)).mono ?_
  rintro e w6 ⟨rfl, hb⟩
  have B6 := hide (B5.out.trans (hb.mono s5))
  have s6 := B6.out.size
  have W6 := hide (W5.out.below hb)
  clear W5
  clear hb B5 s5
  go_wp2_with fail
  refine (refThen_any 0 _ l0 w6 (by omega) (by omega) (H0.out.below B6.out)).mono ?_
  rintro e w7 ⟨rfl, hb⟩
  have B7 := hide (B6.out.trans (hb.mono s6))
  have s7 := B7.out.size
  have W7 := hide (W6.out.below hb)
  clear W6
  clear hb B6 s6
  go_wp2_with fail
  refine (Four_any s w7 hs).mono ?_
  rintro e w8 ⟨v8, rfl, hown, hb⟩
  have O8 := hide (Hnd.of_RSl (RSl.of_own hown))
  clear hown
  have B8 := hide (B7.out.trans (hb.mono s7))
  have s8 := B8.out.size
  have W8 := hide (W7.out.below hb)
  clear W7
  clear hb B7 s7
  go_wp2_with fail
  refine (refFour_any s w8 hs).mono ?_
  rintro e w9 ⟨v9, rfl, hown, hb⟩
  have O9 := hide (Hnd.of_RSl (RSl.of_own hown))
  clear hown
  have B9 := hide (B8.out.trans (hb.mono s8))
  have s9 := B9.out.size
  have W9 := hide (W8.out.below hb)
  have P9 := hide (O8.out.below hb)
  clear W8 O8
  clear hb B8 s8
  go_wp2_with fail
  have k := same_any _ _ _ _ w9 P9.out O9.out
  rw [decide_eq_true rfl] at k
  refine (k).mono ?_
  rintro e w10 ⟨rfl, hb⟩
  have B10 := hide (B9.out.trans (hb.mono s9))
  have s10 := B10.out.size
  clear k P9 O9
  have W10 := hide (W9.out.below hb)
  clear W9
  clear hb B9 s9
  go_wp2_with fail
  have k := is_any _ _ l0 l2 w10 (by omega) (H0.out.below B10.out) (H2.out.below B10.out)
  have k2 := fun w v => same_any (.slice a2 l2.length cap2) v l2 (four (sumN 0 l0)) w
  rw [show decide (l2 = four (sumN 0 l0)) = decide (four (sumN 0 l0) = l2) by simp [eq_comm]] at k2
  revert k k2
  generalize decide (four (sumN 0 l0) = l2) = bb
  intro k k2
  have K2 := hide k2
  clear k2
  refine (k).mono ?_
  rintro e w11 ⟨rfl, hb⟩
  have B11 := hide (B10.out.trans (hb.mono s10))
  have s11 := B11.out.size
  clear k
  have W11 := hide (W10.out.below hb)
  clear W10
  clear hb B10 s10
  go_wp2_with fail
  refine (K2.out w11 v3 (H2.out.below B11.out) W11.out).mono ?_
  rintro e w12 ⟨rfl, hb⟩
  have B12 := hide (B11.out.trans (hb.mono s11))
  clear hb B11 s11
  go_wp2
  go_ret
  refine ⟨ret_bool ?_, B12.out⟩
  simp

theorem sumTells_walk (a0 : Option Addr) (len0 cap0 : Nat) (z0 : List Int) (a1 : Int) (a2 : Option Addr) (len2 cap2 : Nat) (z2 : List Int) (w : World) (w0 : IsRow .u8 w a0 len0 cap0 z0) (w1 : (Lit.int .u32 a1).wf = true) (w2 : IsRow .u8 w a2 len2 cap2 z2) :
    Calls Try.prog 3 #[.slice a0 len0 cap0, .int .u32 a1, .slice a2 len2 cap2] w (TrueRet w) := by
  have b0 := ByteArg.of_row w0
  have b2 := ByteArg.of_row w2
  have h1 := bounds_u32 w1
  by_cases h : 300 < len0 ∨ 300 < len2
  · exact tells_long a0 a2 len0 cap0 len2 cap2 a1 w (Nat.le_trans b0.ceq b0.most) (Nat.le_trans b2.ceq b2.most) h
  · obtain ⟨s, rfl⟩ := Int.eq_ofNat_of_zero_le h1.1
    have e0 := b0.leq
    have e2 := b2.leq
    have k0 := b0.hnd
    have k2 := b2.hnd
    revert e0 e2 k0 k2
    generalize rowBytes z0 len0 = l0
    generalize rowBytes z2 len2 = l2
    intro e0 e2 k0 k2
    subst e0 e2
    exact tells_short a0 a2 cap0 cap2 s l0 l2 w (by omega) (by omega) (by omega) k0 k2
end Go.Proofs.Ytdflpciabdjhnaa
