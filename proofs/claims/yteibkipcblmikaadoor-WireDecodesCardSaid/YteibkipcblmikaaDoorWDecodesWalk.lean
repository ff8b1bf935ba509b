/-
  The walk of WireDecodes. Conditions: those of the statement.
-/
import Derived.Test.YteibkipcblmikaaDoorWQDec
namespace Go.Proofs.YteibkipcblmikaaDoor
open Go.RowKit
set_option linter.unusedVariables false
set_option maxRecDepth 100000

set_option maxHeartbeats 1000000 in
theorem wireDecodes_walk (a : Option Addr) (len cap : Nat) (zs : List Int) (w : World) (h' : IsRow .u8 w a len cap zs) (hE : Env w) :
    Calls Tryd.prog 4 #[.slice a len cap] w (TrueRet w) := by
  have hB := ByteArg.of_row h'
  generalize rowBytes zs len = l at hB
  obtain rfl := hB.leq
  have HB := hide hB
  have HE := hide hE
  clear hB hE h'
  go_enter Tryd.func4, Tryd.ntmps4
  go_wp2_with fail
  refine (wAwake_any w HE.out).mono ?_
  rintro e w1 ⟨rfl, hb⟩
  have B1 := hide hb
  clear hb
  by_cases h1 : l.length ≤ 600
  · have d1 : decide ((l.length : Int) > 600) = false := by simp; omega
    go_wp2_with fail
    clear d1
    refine (decode_any a cap l w1 (by omega) HB.out.ceq HB.out.most (HE.out.below B1.out) (HB.out.hnd.below B1.out)).mono ?_
    rintro e w2 ⟨v2, rfl, hown, hb⟩
    have B2 := hide (B1.out.trans (hb.mono B1.out.size))
    have O2 := hide hown
    generalize hQ : (if (dec? l).isSome = true then (0 : Int) else 3) = q
    have HQ := hide hQ
    clear hown hb B1 hQ
    go_wp2_with fail
    refine (refDecode_any a cap l w2 (by omega) (HB.out.below B2.out)).mono ?_
    rintro e w3 ⟨v3, rfl, hown, hb⟩
    have B3 := hide (B2.out.trans (hb.mono B2.out.size))
    obtain ⟨A2, c2, rfl, p2⟩ := (O2.out.below hb).ops
    obtain ⟨A3, c3, rfl, p3⟩ := hown.ops
    have P2 := hide p2
    have P3 := hide p3
    have hl2 : ((dec? l).getD []).length ≤ 1000000 := by
      rcases hd : dec? l with _ | os
      · simp
      · have := (wOk_t (dec_sound hd).1).1
        simp only [Option.getD_some]
        omega
    generalize (dec? l).getD [] = os at P2 P3 hl2 ⊢
    rw [HQ.out]
    clear HQ
    clear hown hb B2 O2 p2 p3
    go_wp2_with fail
    refine (cut6_any a cap l w3 (by omega) HB.out.ceq HB.out.most (HB.out.hnd.below B3.out)).mono ?_
    rintro e w4 ⟨v4, v4', rfl, hown, hown', hb⟩
    have B4 := hide (B3.out.trans (hb.mono B3.out.size))
    have R4 := hide (Hnd.of_RSl (RSl.of_own hown))
    have R4' := hide (Hnd.of_RSl (RSl.of_own hown'))
    have P2b := hide (P2.out.below hb)
    have P3b := hide (P3.out.below hb)
    clear hown hown' hb B3 P2 P3
    go_wp2_with fail
    refine (refCut_any a cap l w4 (by omega) (HB.out.below B4.out)).mono ?_
    rintro e w5 ⟨v5, v5', rfl, hh, hh', hb⟩
    have B5 := hide (B4.out.trans (hb.mono B4.out.size))
    have S4 := hide (R4.out.below hb)
    have S4' := hide (R4'.out.below hb)
    have S5 := hide hh
    have S5' := hide hh'
    have P2c := hide (P2b.out.below hb)
    have P3c := hide (P3b.out.below hb)
    generalize spE l = sp
    generalize cutF l = F at S4 S5
    generalize cutR l = R at S4' S5'
    clear hh hh' hb B4 P2b P3b R4 R4'
    have dq : ((q : Int) == (q : Int)) = true := by simp
    have ds : ((sp : Int) == (sp : Int)) = true := by simp
    go_wp2_with fail
    refine (sameOps_any A2 c2 os A3 c3 os w5 hl2 hl2 P2c.out P3c.out).mono ?_
    rw [decide_eq_true rfl]
    rintro e w6 ⟨rfl, hb⟩
    have B6 := hide (B5.out.trans (hb.mono B5.out.size))
    have T4 := hide (S4.out.below hb)
    have T4' := hide (S4'.out.below hb)
    have T5 := hide (S5.out.below hb)
    have T5' := hide (S5'.out.below hb)
    clear hb B5 S4 S4' S5 S5'
    go_wp2_with fail
    refine (same_hnd v4 v5 F w6 T4.out T5.out).mono ?_
    rintro e w7 ⟨rfl, h7⟩
    rw [← h7]
    clear h7 w7
    go_wp2_with fail
    refine (same_hnd v4' v5' R w6 T4'.out T5'.out).mono ?_
    rintro e w7 ⟨rfl, h7⟩
    rw [← h7]
    clear h7 w7
    go_wp2
    go_ret
    exact ⟨rfl, B6.out⟩
  · have d1 : decide ((l.length : Int) > 600) = true := by simp; omega
    go_wp2
    go_ret
    exact ⟨rfl, B1.out⟩
end Go.Proofs.YteibkipcblmikaaDoor
