/-
  The walk of WireUnlike. Conditions: those of the statement.
-/
import Derived.Test.YteibkipcblmikaaDoorM8
import Derived.Test.YteibkipcblmikaaDoorWTiny
namespace Go.Proofs.YteibkipcblmikaaDoor
open Go.RowKit
set_option linter.unusedVariables false
set_option maxRecDepth 100000

theorem enc_same {a b : List O5} (ha : wOk a = true) (hb : wOk b = true) : decide (encB a = encB b) = decide (a = b) := by
  unfold encB
  rw [if_pos ha, if_pos hb]
  by_cases h : a = b
  · subst h; simp
  · rw [decide_eq_false h, decide_eq_false (fun e => h (wEnc_inj ha hb e))]
set_option maxHeartbeats 1000000 in
theorem wireUnlike_walk (a : Option Addr) (len cap : Nat) (t : List T5) (a' : Option Addr) (len' cap' : Nat) (u : List T5) (w : World) (h : IsTns w a len cap t) (h' : IsTns w a' len' cap' u) (hE : Env w) :
    Calls Tryd.prog 8 #[.slice a len cap, .slice a' len' cap'] w (TrueRet w) := by
  obtain ⟨rfl, ht, hk⟩ := h
  obtain ⟨rfl, hu, hk'⟩ := h'
  have HT := hide ht
  have HU := hide hu
  have HK := hide hk
  have HK' := hide hk'
  have HE := hide hE
  clear ht hu hk hk' hE
  go_enter Tryd.func8, Tryd.ntmps8
  go_wp2_with fail
  refine (wAwake_any w HE.out).mono ?_
  rintro e w1 ⟨rfl, hb⟩
  have B1 := hide hb
  clear hb
  by_cases h1 : t.length ≤ 20
  · have d1 : decide ((t.length : Int) > 20) = false := by simp; omega
    by_cases h2 : u.length ≤ 20
    · have d2 : decide ((u.length : Int) > 20) = false := by simp; omega
      go_wp2_with fail
      clear d1 d2
      refine (all_any a cap t w1 (by omega) HK.out (HT.out.below B1.out)).mono ?_
      rintro e w2 ⟨v2, rfl, hown, hb⟩
      have B2 := hide (B1.out.trans (hb.mono B1.out.size))
      have P2 := hide hown
      clear hown hb
      go_wp2_with fail
      refine (all_any a' cap' u w2 (by omega) HK'.out (HU.out.below B2.out)).mono ?_
      rintro e w3 ⟨v3, rfl, hown, hb⟩
      have B3 := hide (B2.out.trans (hb.mono B2.out.size))
      obtain ⟨A2, c2, rfl, p2⟩ := (P2.out.below hb).ops
      obtain ⟨A3, c3, rfl, p3⟩ := hown.ops
      have Q2 := hide p2
      have Q3 := hide p3
      have HO2 := hide (ofT_ok t (by omega))
      have HO3 := hide (ofT_ok u (by omega))
      have HN2 := hide (ofT_name t)
      have HN3 := hide (ofT_name u)
      have n2 : (t.map ofT).length ≤ 1000000 := by rw [List.length_map]; omega
      have n3 : (u.map ofT).length ≤ 1000000 := by rw [List.length_map]; omega
      generalize t.map ofT = l at Q2 HO2 HN2 n2 ⊢
      generalize u.map ofT = m at Q3 HO3 HN3 n3 ⊢
      clear hown hb p2 p3 P2 HK HK' HT HU h1 h2 B1 B2
      go_wp2_with fail
      refine (encode_any A2 c2 l w3 n2 HN2.out (HE.out.below B3.out) Q2.out).mono ?_
      rintro e w4 ⟨v4, rfl, hown, hb⟩
      have B4 := hide (B3.out.trans (hb.mono B3.out.size))
      have R4 := hide (RSl.of_own hown)
      have Q2b := hide (Q2.out.below hb)
      have Q3b := hide (Q3.out.below hb)
      rw [show encE l = 0 from if_pos HO2.out]
      clear hown hb Q2 Q3 B3
      go_wp2_with fail
      refine (encode_any A3 c3 m w4 n3 HN3.out (HE.out.below B4.out) Q3b.out).mono ?_
      rintro e w5 ⟨v5, rfl, hown, hb⟩
      have B5 := hide (B4.out.trans (hb.mono B4.out.size))
      have R5 := hide (Hnd.of_RSl (RSl.of_own hown))
      have R4b := hide (Hnd.of_RSl (R4.out.below hb))
      have Q2c := hide (Q2b.out.below hb)
      have Q3c := hide (Q3b.out.below hb)
      rw [show encE m = 0 from if_pos HO3.out]
      clear hown hb Q2b Q3b B4 R4
      go_wp2_with fail
      refine (same_any v4 v5 _ _ w5 R4b.out R5.out).mono ?_
      rw [enc_same HO2.out HO3.out]
      rintro e w6 ⟨rfl, h6⟩
      rw [← h6]
      clear h6 w6
      go_wp2_with fail
      refine (sameOps_any A2 c2 l A3 c3 m w5 n2 n3 Q2c.out Q3c.out).mono ?_
      rintro e w6 ⟨rfl, hb⟩
      have B6 := hide (B5.out.trans (hb.mono B5.out.size))
      generalize decide (l = m) = q
      have hq : (q == q) = true := by simp
      clear hb
      go_wp2
      go_ret
      exact ⟨by simp, B6.out⟩
    · have d2 : decide ((u.length : Int) > 20) = true := by simp; omega
      go_wp2
      go_ret
      exact ⟨rfl, B1.out⟩
  · have d1 : decide ((t.length : Int) > 20) = true := by simp; omega
    go_wp2
    go_ret
    exact ⟨rfl, B1.out⟩
end Go.Proofs.YteibkipcblmikaaDoor
