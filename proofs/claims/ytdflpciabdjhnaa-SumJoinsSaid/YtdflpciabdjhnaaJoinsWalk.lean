/-
  The walk of the law SumJoins: it answers true at every input, and changes nothing that was there. No conditions beyond the kinds of its arguments.
-/
import Derived.Test.YtdflpciabdjhnaaSumAwake
import Derived.Test.YtdflpciabdjhnaaAppendB
namespace Go.Proofs.Ytdflpciabdjhnaa
open Go.RowKit
set_option linter.unusedVariables false

theorem joins_long (a0 a2 : Option Addr) (len0 cap0 len2 cap2 : Nat) (s : Int) (w : World) (hm0 : len0 ≤ maxLen) (hm2 : len2 ≤ maxLen) (h : 300 < len0 ∨ 300 < len2) :
    Calls Try.prog 4 #[.slice a0 len0 cap0, .slice a2 len2 cap2, .int .u32 s] w (TrueRet w) := by
  have hm : maxLen = 9223372036854775807 := rfl
  go_enter Try.func4, Try.ntmps4
  go_wp2_with fail
  refine (awake_any w).mono ?_
  rintro e w1 ⟨rfl, hb⟩
  have B1 := hide hb
  clear hb
  by_cases h0 : 300 < len0
  · go_wp2
    go_ret
    exact ⟨rfl, B1.out⟩
  · have h2 : 300 < len2 := by omega
    go_wp2
    go_ret
    exact ⟨rfl, B1.out⟩

set_option maxHeartbeats 1000000 in
set_option maxRecDepth 100000 in
theorem joins_short (a0 a1 : Option Addr) (cap0 cap1 s : Nat) (l0 l1 : List UInt8) (w : World) (hs : s < 4294967296) (h0 : l0.length ≤ 300) (h1 : l1.length ≤ 300) (hh0 : Hnd w (.slice a0 l0.length cap0) l0) (hh1 : Hnd w (.slice a1 l1.length cap1) l1) (n0 : a0 = none → cap0 = 0) (n1 : a1 = none → cap1 = 0) :
    Calls Try.prog 4 #[.slice a0 l0.length cap0, .slice a1 l1.length cap1, .int .u32 s] w (TrueRet w) := by
  have hm : maxLen = 9223372036854775807 := rfl
  have lt0 := sumN_lt 0 l0
  have lts := sumN_lt s l0
  have H0 := hide hh0
  have H1 := hide hh1
  have N0 := hide n0
  have N1 := hide n1
  clear hh0 hh1 n0 n1
  go_enter Try.func4, Try.ntmps4
  go_wp2_with fail
  refine (awake_any w).mono ?_
  rintro e w1 ⟨rfl, hb⟩
  have B1 := hide hb
  have s1 := hb.size
  have C1 := hide (hb.alloc s1 (.cells #[] 5))
  clear hb
  go_wp2_with (at_builtin; refine wpList_append_b _ rfl _ _ rfl w.heap.size _ 0 [] rfl (own_new0 w1 w.heap.size s1) a0 l0.length cap0 l0 rfl rfl N0.out (H0.out.below C1.out) (by omega) (by simp; omega) ?_)
  intro v2 w2 hown hg _
  have B2 := hide (C1.out.grown hg (by simp; omega) (fun q hq => by simp [Value.ownBlock] at hq; omega))
  have s2 := B2.out.size
  have O2 := hide hown
  clear hown hg C1 B1 s1
  go_wp2_with (at_builtin; refine wpList_append_b _ rfl _ _ rfl w.heap.size v2 l0.length l0 rfl O2.out a1 l1.length cap1 l1 rfl rfl N1.out (H1.out.below B2.out) (by omega) s2 ?_)
  intro v3 w3 hown hg _
  have B3 := hide (B2.out.grown hg s2 (fun q hq => (O2.out.lt q hq).1))
  have s3 := B3.out.size
  have O3 : Hid (Hnd w3 v3 (l0 ++ l1)) := hide (Hnd.of_RSl (RSl.of_own (by simpa using hown)))
  have hl3 : (l0 ++ l1).length ≤ 600 := by simp; omega
  clear hown hg B2 s2 O2
  go_wp2_with fail
  refine (of_any v3 (l0 ++ l1) w3 (by omega) O3.out).mono ?_
  rintro e w4 ⟨rfl, hb⟩
  have B4 := hide (B3.out.trans (hb.mono s3))
  have O4 := hide (O3.out.below hb)
  have s4 := B4.out.size
  clear hb B3 s3 O3
  go_wp2_with fail
  refine (of_any _ l0 w4 (by omega) (H0.out.below B4.out)).mono ?_
  rintro e w5 ⟨rfl, hb⟩
  have B5 := hide (B4.out.trans (hb.mono s4))
  have O5 := hide (O4.out.below hb)
  have s5 := B5.out.size
  clear hb B4 s4 O4
  go_wp2_with fail
  have k := then_any (sumN 0 l0) _ l1 w5 lt0 (by omega) (H1.out.below B5.out)
  rw [← sumN_join] at k
  refine k.mono ?_
  rintro e w6 ⟨rfl, hb⟩
  have B6 := hide (B5.out.trans (hb.mono s5))
  have O6 := hide (O5.out.below hb)
  have s6 := B6.out.size
  clear k hb B5 s5 O5
  go_wp2_with fail
  refine (then_any s v3 (l0 ++ l1) w6 hs (by omega) O6.out).mono ?_
  rintro e w7 ⟨rfl, hb⟩
  have B7 := hide (B6.out.trans (hb.mono s6))
  have s7 := B7.out.size
  clear hb B6 s6 O6
  go_wp2_with fail
  refine (then_any s _ l0 w7 hs (by omega) (H0.out.below B7.out)).mono ?_
  rintro e w8 ⟨rfl, hb⟩
  have B8 := hide (B7.out.trans (hb.mono s7))
  have s8 := B8.out.size
  clear hb B7 s7
  go_wp2_with fail
  have k := then_any (sumN s l0) _ l1 w8 lts (by omega) (H1.out.below B8.out)
  rw [← sumN_join] at k
  refine k.mono ?_
  rintro e w9 ⟨rfl, hb⟩
  have B9 := hide (B8.out.trans (hb.mono s8))
  clear k hb B8 s8
  go_wp2
  go_ret
  refine ⟨ret_bool ?_, B9.out⟩
  simp

theorem sumJoins_walk (a0 : Option Addr) (len0 cap0 : Nat) (z0 : List Int) (a1 : Option Addr) (len1 cap1 : Nat) (z1 : List Int) (a2 : Int) (w : World) (w0 : IsRow .u8 w a0 len0 cap0 z0) (w1 : IsRow .u8 w a1 len1 cap1 z1) (w2 : (Lit.int .u32 a2).wf = true) :
    Calls Try.prog 4 #[.slice a0 len0 cap0, .slice a1 len1 cap1, .int .u32 a2] w (TrueRet w) := by
  have b0 := ByteArg.of_row w0
  have b1 := ByteArg.of_row w1
  have h2 := bounds_u32 w2
  by_cases h : 300 < len0 ∨ 300 < len1
  · exact joins_long a0 a1 len0 cap0 len1 cap1 a2 w (Nat.le_trans b0.ceq b0.most) (Nat.le_trans b1.ceq b1.most) h
  · obtain ⟨s, rfl⟩ := Int.eq_ofNat_of_zero_le h2.1
    have e0 := b0.leq
    have e1 := b1.leq
    have k0 := b0.hnd
    have k1 := b1.hnd
    revert e0 e1 k0 k1
    generalize rowBytes z0 len0 = l0
    generalize rowBytes z1 len1 = l1
    intro e0 e1 k0 k1
    subst e0 e1
    exact joins_short a0 a1 cap0 cap1 s l0 l1 w (by omega) (by omega) (by omega) k0 k1 (ByteArg.nilcap w0) (ByteArg.nilcap w1)
end Go.Proofs.Ytdflpciabdjhnaa
