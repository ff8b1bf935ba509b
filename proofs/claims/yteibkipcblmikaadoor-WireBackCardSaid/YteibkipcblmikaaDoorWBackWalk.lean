/-
  The walk of WireBack. Conditions: those of the statement.
-/
import Derived.Test.YteibkipcblmikaaDoorM8
import Derived.Test.YteibkipcblmikaaDoorWTiny
namespace Go.Proofs.YteibkipcblmikaaDoor
open Go.RowKit
set_option linter.unusedVariables false
set_option maxRecDepth 100000

set_option maxHeartbeats 1000000 in
theorem wireBack_walk (a : Option Addr) (len cap : Nat) (t : List T5) (a' : Option Addr) (len' cap' : Nat) (zs : List Int) (w : World) (h : IsTns w a len cap t) (h' : IsRow .u8 w a' len' cap' zs) (hE : Env w) :
    Calls Tryd.prog 5 #[.slice a len cap, .slice a' len' cap'] w (TrueRet w) := by
  obtain ⟨rfl, ht, hk⟩ := h
  have hB := ByteArg.of_row h'
  generalize rowBytes zs len' = bb at hB
  obtain ⟨rfl, bc1, bm1, bh, _⟩ := hB
  have HT := hide ht
  have HK := hide hk
  have HE := hide hE
  have HB := hide bh
  have BC := hide bc1
  have BM := hide bm1
  clear ht hk hE bh bc1 bm1 h'
  go_enter Tryd.func5, Tryd.ntmps5
  go_wp2_with fail
  refine (wAwake_any w HE.out).mono ?_
  rintro e w1 ⟨rfl, hb⟩
  have B1 := hide hb
  clear hb
  by_cases h1 : t.length ≤ 20
  · have d1 : decide ((t.length : Int) > 20) = false := by simp; omega
    by_cases h2 : bb.length ≤ 600
    · have d2 : decide ((bb.length : Int) > 600) = false := by simp; omega
      go_wp2_with fail
      clear d1 d2
      refine (all_any a cap t w1 (by omega) HK.out (HT.out.below B1.out)).mono ?_
      rintro e w2 ⟨v2, rfl, hown, hb⟩
      have B2 := hide (B1.out.trans (hb.mono B1.out.size))
      obtain ⟨A2, c2, rfl, p2⟩ := hown.ops
      have Q2 := hide p2
      have HO2 := hide (ofT_ok t (by omega))
      have HN2 := hide (ofT_name t)
      have n2 : (t.map ofT).length ≤ 1000000 := by rw [List.length_map]; omega
      generalize t.map ofT = l at Q2 HO2 HN2 n2 ⊢
      clear hown hb p2 HK HT h1 B1
      go_wp2_with fail
      refine (encode_any A2 c2 l w2 n2 HN2.out (HE.out.below B2.out) Q2.out).mono ?_
      rintro e w3 ⟨v3, rfl, hown, hb⟩
      have B3 := hide (B2.out.trans (hb.mono B2.out.size))
      have Q3 := hide (Q2.out.below hb)
      rw [show encB l = wEnc l from if_pos HO2.out] at hown
      rw [show encE l = 0 from if_pos HO2.out]
      obtain ⟨A3, c3, rfl, f1, f2, f3⟩ := (RSl.of_own hown).form
      have N3 := hide (Hnd.of_RSl (RSl.of_own hown))
      have L3 := hide (show (wEnc l).length ≤ 1099511627776 by have := wEnc_le HO2.out; omega)
      have F2 := hide f2
      have F3 := hide f3
      have HD := hide (dec_put HO2.out)
      generalize wEnc l = x at N3 L3 HD F2 ⊢
      clear hown hb f1 f2 f3 Q2 B2
      go_wp2_with fail
      refine (decode_any A3 c3 x w3 L3.out F2.out F3.out (HE.out.below B3.out) N3.out).mono ?_
      rw [HD.out]
      rintro e w4 ⟨v4, rfl, hown, hb⟩
      obtain ⟨A4, c4, rfl, p4⟩ := OwnOps.ops (show OwnOps w4 w3.heap.size v4 l from hown)
      have B4 := hide (B3.out.trans (hb.mono B3.out.size))
      have Q4 := hide p4
      have Q5 := hide (Q3.out.below hb)
      clear hown hb p4 Q3 B3 N3 HD
      go_wp2_with fail
      refine (sameOps_any A2 c2 l A4 c4 l w4 n2 n2 Q5.out Q4.out).mono ?_
      rw [decide_eq_true rfl]
      rintro e w5 ⟨rfl, hb⟩
      have B5 := hide (B4.out.trans (hb.mono B4.out.size))
      clear hb Q4 Q5 B4
      go_wp2_with fail
      refine (decode_any a' cap' bb w5 (by omega) BC.out BM.out (HE.out.below B5.out) (HB.out.below B5.out)).mono ?_
      rintro e w6 ⟨v6, rfl, hown, hb⟩
      have B6 := hide (B5.out.trans (hb.mono B5.out.size))
      rcases hd : dec? bb with _ | os
      · rw [hd] at hown
        obtain ⟨A6, c6, rfl, _⟩ := OwnOps.ops (show OwnOps w6 w5.heap.size v6 [] from hown)
        clear hd hown hb
        go_wp2
        go_ret
        exact ⟨rfl, B6.out⟩
      · rw [hd] at hown
        obtain ⟨A6, c6, rfl, p6⟩ := OwnOps.ops (show OwnOps w6 w5.heap.size v6 os from hown)
        obtain ⟨s1, s2⟩ := dec_sound hd
        have Q6 := hide p6
        have S1 := hide s1
        have S2 := hide s2
        have HN6 := hide (show ∀ o ∈ os, o.l.length ≤ maxLen by
          intro o ho
          have := (right_ne (opR_t ((wOk_t s1).2 o ho)).2.2.2).2
          unfold maxLen
          omega)
        have n6 := (wOk_t s1).1
        clear hd hown hb s1 s2 p6
        go_wp2_with fail
        refine (encode_any A6 c6 os w6 (by omega) HN6.out (HE.out.below B6.out) Q6.out).mono ?_
        rintro e w7 ⟨v7, rfl, hown, hb⟩
        have B7 := hide (B6.out.trans (hb.mono B6.out.size))
        rw [show encB os = bb by rw [S2.out]; exact if_pos S1.out] at hown
        rw [show encE os = 0 from if_pos S1.out]
        have R7 := hide (Hnd.of_RSl (RSl.of_own hown))
        clear hown hb
        go_wp2_with fail
        refine (same_hnd v7 _ bb w7 R7.out (HB.out.below B7.out)).mono ?_
        rintro e w8 ⟨rfl, h8⟩
        rw [← h8]
        clear h8 w8
        go_wp2
        go_ret
        exact ⟨rfl, B7.out⟩
    · have d2 : decide ((bb.length : Int) > 600) = true := by simp; omega
      go_wp2
      go_ret
      exact ⟨rfl, B1.out⟩
  · have d1 : decide ((t.length : Int) > 20) = true := by simp; omega
    go_wp2
    go_ret
    exact ⟨rfl, B1.out⟩
end Go.Proofs.YteibkipcblmikaaDoor
