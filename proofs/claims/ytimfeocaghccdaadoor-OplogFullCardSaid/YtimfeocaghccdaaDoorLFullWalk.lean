/-
  The walk of OplogFull. Conditions: those of the statement.
-/
import Derived.Test.YtimfeocaghccdaaDoorLM3
namespace Go.Proofs.YtimfeocaghccdaaDoor
set_option maxRecDepth 100000
open Go.RowKit Go.Maps
set_option linter.unusedVariables false
set_option linter.unusedSimpArgs false
set_option maxRecDepth 100000

set_option maxHeartbeats 1000000 in
theorem oplogFull_walk (a : Option Addr) (len cap : Nat) (ts : List T5) (a' : Option Addr) (len' cap' : Nat) (us : List T5) (less : Int) (W : World) (h : IsTns W a len cap ts) (h' : IsTns W a' len' cap' us)
    (hl : (Lit.int .u8 less).wf = true) (hE : Env W) :
    Calls Tryd.prog 4 #[.slice a len cap, .slice a' len' cap', .int .u8 less] W (TrueRet W) := by
  obtain ⟨rfl, hts, hok⟩ := h
  obtain ⟨rfl, hus, hok'⟩ := h'
  have hl := bounds_u8 hl
  obtain ⟨less, rfl⟩ : ∃ n : Nat, less = n := ⟨less.toNat, by omega⟩
  have HT := hide hts
  have HU := hide hus
  have HK := hide hok
  have HK' := hide hok'
  have HE := hide hE
  clear hts hus hok hok' hE
  obtain ⟨X, hX⟩ : ∃ X, ts.map ofT = X := ⟨_, rfl⟩
  obtain ⟨Y, hY⟩ : ∃ Y, us.map ofT = Y := ⟨_, rfl⟩
  have xl : X.length = ts.length := by rw [← hX, List.length_map]
  have yl : Y.length = us.length := by rw [← hY, List.length_map]
  have XR := hide (show AllR X by rw [← hX]; exact tiny_R ts)
  have YR := hide (show AllR Y by rw [← hY]; exact tiny_R us)
  have XN := hide (show ∀ o ∈ X, o.l.length ≤ maxLen by rw [← hX]; exact ofT_name ts)
  have YN := hide (show ∀ o ∈ Y, o.l.length ≤ maxLen by rw [← hY]; exact ofT_name us)
  have XE := hide hX
  have YE := hide hY
  obtain ⟨M, hM⟩ : ∃ M, putO [] X = M := ⟨_, rfl⟩
  obtain ⟨N, hN⟩ : ∃ N, putO M Y = N := ⟨_, rfl⟩
  have m1 : M.length ≤ ts.length := by
    have := putF_most (f := ocF) X []
    rw [show putF ocF [] X = M from hM] at this
    simp at this
    omega
  have m2 : N.length ≤ M.length + us.length := by
    have := putF_most (f := ocF) Y M
    rw [show putF ocF M Y = N from hN] at this
    omega
  have m3 : M.length ≤ N.length := by
    have := putF_le (f := ocF) Y M
    rw [← hN]
    exact this
  have SM := hide (show SrtO M by rw [← hM]; exact putF_srt ocF_order List.Pairwise.nil)
  have SN := hide (show SrtO N by rw [← hN]; exact putF_srt ocF_order SM.out)
  have MX := hide (show putO M X = M from putF_there ocF_order SM.out (fun x hx => by rw [← hM]; exact mem_putF.2 (.inr hx)))
  have NX := hide (show putO N X = N from putF_there ocF_order SN.out (fun x hx => by rw [← hN, ← hM]; exact mem_putF.2 (.inl (mem_putF.2 (.inr hx)))))
  have HM := hide hM
  have HN := hide hN
  have XL := hide xl
  have YL := hide yl
  have m4 : X.length ≤ ts.length := Nat.le_of_eq xl
  have m5 : Y.length ≤ us.length := Nat.le_of_eq yl
  clear hX hY hM hN xl yl
  go_enter Tryd.func4, Tryd.ntmps4
  go_wp2_with fail
  refine (lawake_any W HE.out).mono ?_
  rintro e w1 ⟨rfl, hb⟩
  have B1 := hide hb
  clear hb
  by_cases h1 : ts.length ≤ 24 ∧ us.length ≤ 8
  · obtain ⟨h1, h2⟩ := h1
    have d1 : decide ((ts.length : Int) > 24) = false := by simp; omega
    have d2 : decide ((us.length : Int) > 8) = false := by simp; omega
    go_wp2_with fail
    refine (lnew_any 1000 w1).mono ?_
    rintro e w2 ⟨g, fs2, rfl, hL2⟩
    have L2 := hide (hL2.back B1.out)
    clear hL2
    have T2 := hide (HT.out.below L2.out.bel)
    go_wp2_with fail
    refine (all_any a cap ts w2 (by omega) HK.out T2.out).mono ?_
    rintro e w3 ⟨v3, rfl, hv3, hb3⟩
    rw [XE.out] at hv3
    obtain ⟨A3, c3, rfl, ho3⟩ := hv3.ops
    have L3 := hide (L2.out.below hb3)
    have O3 := hide ho3
    clear hv3 hb3 ho3 T2 L2 B1
    have K3 := hide (put_fits W HE.out g 1000 [] fs2 A3 c3 X XR.out XN.out (by simp; omega) (by rw [HM.out]; omega) w3 L3.out O3.out)
    rw [HM.out] at K3
    simp only [List.length_nil, Nat.sub_zero] at K3
    go_wp2_with fail
    refine K3.out.mono ?_
    rintro e w4 ⟨A4, k4, c4, fs4, rfl, -, hL4, -, -⟩
    have L4 := hide hL4
    clear hL4 K3 L3 O3
    go_wp2_with fail
    refine (lall_any g 1000 M fs4 (by omega) w4 L4.out.lg).mono ?_
    rintro e w5 ⟨v5, rfl, hv5, hb5⟩
    obtain ⟨A5, c5, rfl, ho5⟩ := hv5.ops
    have L5 := hide (L4.out.below hb5)
    clear hv5 hb5 ho5 L4
    have U5 := hide (HU.out.below L5.out.bel)
    go_wp2_with fail
    refine (all_any a' cap' us w5 (by omega) HK'.out U5.out).mono ?_
    rintro e w6 ⟨v6, rfl, hv6, hb6⟩
    rw [YE.out] at hv6
    obtain ⟨A6, c6, rfl, ho6⟩ := hv6.ops
    have L6 := hide (L5.out.below hb6)
    have O6 := hide ho6
    clear hv6 hb6 ho6 U5 L5
    have K6 := hide (put_fits W HE.out g 1000 M fs4 A6 c6 Y YR.out YN.out (by omega) (by rw [HN.out]; omega) w6 L6.out O6.out)
    rw [HN.out] at K6
    obtain ⟨dn, hdn⟩ : ∃ dn, N.length - M.length = dn := ⟨_, rfl⟩
    rw [hdn] at K6
    go_wp2_with fail
    refine K6.out.mono ?_
    rintro e w7 ⟨A7, k7, c7, fs7, rfl, -, hL7, -, -⟩
    have L7 := hide hL7
    clear hL7 K6 L6 O6
    have Bw := hide L7.out.bel
    go_wp2_with fail
    rotate_left
    · obtain ⟨rm, hrm⟩ : ∃ rm : Nat, (M.length : Int) + dn - less % 3 = rm := ⟨((M.length : Int) + dn - less % 3).toNat, by omega⟩
      rw [hrm]
      have hr1 : M.length ≤ rm := by omega
      have n1 : N.length ≤ M.length + dn := by omega
      have n2 : M.length + dn ≤ N.length := by omega
      have hr2 : rm ≤ M.length + dn := by omega
      clear hrm hdn
      refine (lnew_any rm w7).mono ?_
      rintro e w8 ⟨q, fs8, rfl, hL8⟩
      have L8 := hide (hL8.back Bw.out)
      have T8 := hide (HT.out.below L8.out.bel)
      clear hL8 L7 Bw
      go_wp2_with fail
      refine (all_any a cap ts w8 (by omega) HK.out T8.out).mono ?_
      rintro e w9 ⟨v9, rfl, hv9, hb9⟩
      rw [XE.out] at hv9
      obtain ⟨A9, c9, rfl, ho9⟩ := hv9.ops
      have L9 := hide (L8.out.below hb9)
      have O9 := hide ho9
      clear hv9 hb9 ho9 T8 L8
      have K9 := hide (put_fits W HE.out q rm [] fs8 A9 c9 X XR.out XN.out (by simp; omega) (by rw [HM.out]; omega) w9 L9.out O9.out)
      rw [HM.out] at K9
      simp only [List.length_nil, Nat.sub_zero] at K9
      go_wp2_with fail
      refine K9.out.mono ?_
      rintro e w10 ⟨A10, k10, c10, fs10, rfl, -, hL10, -, -⟩
      have L10 := hide hL10
      clear hL10 K9 L9 O9
      go_wp2_with fail
      refine (lall_any q rm M fs10 (by omega) w10 L10.out.lg).mono ?_
      rintro e w11 ⟨v11, rfl, hv11, hb11⟩
      obtain ⟨A11, c11, rfl, ho11⟩ := hv11.ops
      have L11 := hide (L10.out.below hb11)
      have D11 := hide (show ∀ b, (Value.slice A11 M.length c11).ownBlock = some b → b ∉ fs10 from fun b hb hk => by
        have h1 := L10.out.lg.lt b hk
        have h2 := hv11.row b hb
        omega)
      have V11 := hide hv11
      clear hv11 hb11 ho11 L10
      have U11 := hide (HU.out.below L11.out.bel)
      go_wp2_with fail
      refine (all_any a' cap' us w11 (by omega) HK'.out U11.out).mono ?_
      rintro e w12 ⟨v12, rfl, hv12, hb12⟩
      rw [YE.out] at hv12
      obtain ⟨A12, c12, rfl, ho12⟩ := hv12.ops
      have L12 := hide (L11.out.below hb12)
      have V12 := hide (V11.out.below hb12)
      have O12 := hide ho12
      clear hv12 hb12 ho12 U11 L11 V11
      by_cases hfull : rm < M.length + dn
      · have d3 : decide ((rm : Int) < (M.length : Int) + (dn : Int)) = true := by simp; omega
        have K12 := hide (put_full W HE.out q rm M fs10 A12 c12 Y YR.out YN.out (by omega) (by rw [HN.out]; omega) w12 L12.out O12.out)
        go_wp2_with fail
        refine K12.out.mono ?_
        rintro e w13 ⟨A13, k13, c13, fs13, rfl, hk13, hL13, hM13, hf13⟩
        obtain rfl : k13 = 0 := hk13 rfl
        have L13 := hide hL13
        have V13 := hide (V12.out.mod hM13 D11.out)
        have D13 := hide (show ∀ b, (Value.slice A11 M.length c11).ownBlock = some b → b ∉ fs13 from fun b hb hk => by
          rcases hf13 b hk with h | h
          · exact D11.out b hb h
          · have := V12.out.lt hb
            omega)
        have T13 := hide (HT.out.below L13.out.bel)
        clear hk13 hL13 hM13 hf13 K12 L12 V12 D11 O12
        go_wp2_with fail
        refine (all_any a cap ts w13 (by omega) HK.out T13.out).mono ?_
        rintro e w14 ⟨v14, rfl, hv14, hb14⟩
        rw [XE.out] at hv14
        obtain ⟨A14, c14, rfl, ho14⟩ := hv14.ops
        have L14 := hide (L13.out.below hb14)
        have V14 := hide (V13.out.below hb14)
        have O14 := hide ho14
        clear hv14 hb14 ho14 T13 L13 V13
        have K14 := hide (put_fits W HE.out q rm M fs13 A14 c14 X XR.out XN.out (by omega) (by rw [MX.out]; omega) w14 L14.out O14.out)
        rw [MX.out, Nat.sub_self] at K14
        go_wp2_with fail
        refine K14.out.mono ?_
        rintro e w15 ⟨A15, k15, c15, fs15, rfl, -, hL15, hM15, -⟩
        have L15 := hide hL15
        have V15 := hide (V14.out.mod hM15 D13.out)
        clear hL15 hM15 K14 L14 V14 D13 O14
        go_wp2_with fail
        refine (lall_any q rm M fs15 (by omega) w15 L15.out.lg).mono ?_
        rintro e w16 ⟨v16, rfl, hv16, hb16⟩
        obtain ⟨A16, c16, rfl, ho16⟩ := hv16.ops
        have L16 := hide (L15.out.below hb16)
        obtain ⟨A17, c17, e17, ho17⟩ := (V15.out.below hb16).ops
        simp at e17
        obtain ⟨rfl, rfl⟩ := e17
        have O16 := hide ho16
        have O17 := hide ho17
        clear hv16 hb16 ho16 L15 V15 ho17
        have KS := hide (sameOps_any A16 c16 M A11 c11 M w16 (by omega) (by omega) O16.out O17.out)
        rw [decide_eq_true (rfl : M = M)] at KS
        go_wp2_with fail
        refine KS.out.mono ?_
        rintro e w17 ⟨rfl, hb17⟩
        have B17 := hide (L16.out.below hb17).bel
        clear hb17 KS L16
        go_wp2
        go_ret
        exact ⟨rfl, B17.out⟩
      · have d3 : decide ((rm : Int) < (M.length : Int) + (dn : Int)) = false := by simp; omega
        have K12 := hide (put_fits W HE.out q rm M fs10 A12 c12 Y YR.out YN.out (by omega) (by rw [HN.out]; omega) w12 L12.out O12.out)
        rw [HN.out, show N.length - M.length = dn by omega] at K12
        go_wp2_with fail
        refine K12.out.mono ?_
        rintro e w13 ⟨A13, k13, c13, fs13, rfl, -, hL13, -, -⟩
        have L13 := hide hL13
        have T13 := hide (HT.out.below L13.out.bel)
        clear hL13 K12 L12 V12 D11 O12
        go_wp2_with fail
        refine (all_any a cap ts w13 (by omega) HK.out T13.out).mono ?_
        rintro e w14 ⟨v14, rfl, hv14, hb14⟩
        rw [XE.out] at hv14
        obtain ⟨A14, c14, rfl, ho14⟩ := hv14.ops
        have L14 := hide (L13.out.below hb14)
        have O14 := hide ho14
        clear hv14 hb14 ho14 T13 L13
        have K14 := hide (put_fits W HE.out q rm N fs13 A14 c14 X XR.out XN.out (by omega) (by rw [NX.out]; omega) w14 L14.out O14.out)
        rw [NX.out, Nat.sub_self] at K14
        go_wp2_with fail
        refine K14.out.mono ?_
        rintro e w15 ⟨A15, k15, c15, fs15, rfl, -, hL15, -, -⟩
        have B15 := hide hL15.bel
        clear hL15 K14 L14 O14
        go_wp2
        go_ret
        exact ⟨rfl, B15.out⟩
    · go_ret
      exact ⟨rfl, Bw.out⟩
  · by_cases h2 : ts.length ≤ 24
    · have d1 : decide ((ts.length : Int) > 24) = false := by simp; omega
      have d2 : decide ((us.length : Int) > 8) = true := by simp; omega
      clear h1
      go_wp2
      go_ret
      exact ⟨rfl, B1.out⟩
    · have d1 : decide ((ts.length : Int) > 24) = true := by simp; omega
      clear h1
      go_wp2
      go_ret
      exact ⟨rfl, B1.out⟩
end Go.Proofs.YtimfeocaghccdaaDoor
