/-
  The walk of OplogOwn. Conditions: those of the statement.
-/
import Derived.Test.YtimfeocaghccdaaGreatDoorLOwnPure
import Derived.Deep.CutRange
import Derived.Deep.RegionHeld3
namespace Go.Proofs.YtimfeocaghccdaaGreatDoor
open Go.RowKit Go.Maps
set_option linter.unusedVariables false
set_option linter.unusedSimpArgs false
set_option maxRecDepth 100000

set_option maxHeartbeats 1000000 in
theorem oplogOwn_walk (a : Option Addr) (len cap : Nat) (ts : List T5) (ta tb tc te tf : Int) (W : World) (h : IsTns W a len cap ts)
    (ha : (Lit.int .u8 ta).wf = true) (hb : (Lit.int .u8 tb).wf = true) (hc : (Lit.int .u8 tc).wf = true) (he : (Lit.int .u8 te).wf = true) (hf : (Lit.int .u8 tf).wf = true) (hE : Env W) :
    Calls Tryz.prog 5 #[.slice a len cap, .agg #[.int .u8 ta, .int .u8 tb, .int .u8 tc, .int .u8 te, .int .u8 tf]] W (TrueRet W) := by
  obtain ⟨rfl, hts, hok⟩ := h
  have ha := bounds_u8 ha
  have hb := bounds_u8 hb
  have hc := bounds_u8 hc
  have he := bounds_u8 he
  have hf := bounds_u8 hf
  obtain ⟨ta, rfl⟩ : ∃ n : Nat, ta = n := ⟨ta.toNat, by omega⟩
  obtain ⟨tb, rfl⟩ : ∃ n : Nat, tb = n := ⟨tb.toNat, by omega⟩
  obtain ⟨tc, rfl⟩ : ∃ n : Nat, tc = n := ⟨tc.toNat, by omega⟩
  obtain ⟨te, rfl⟩ : ∃ n : Nat, te = n := ⟨te.toNat, by omega⟩
  obtain ⟨tf, rfl⟩ : ∃ n : Nat, tf = n := ⟨tf.toNat, by omega⟩
  have KO := hide (fun W => of_any ta tb tc te tf W (by omega) (by omega) (by omega) (by omega) (by omega))
  obtain ⟨t, ht⟩ : ∃ t : T5, t = ⟨ta, tb, tc, te, tf⟩ := ⟨_, rfl⟩
  have hx : ofT t = ⟨1 + (ta : Int) % 40, (tb : Int) % 4, 256 + (tc : Int) % 8, toOf te, [b8 (97 + tf % 8)]⟩ := by rw [ht]; rfl
  have EX := hide hx
  clear ht hx ha hb hc he hf
  have Bz := (Below.refl W.heap.size W).alloc (Nat.le_refl _) (.cells #[.int .u8 (ta : Int), .int .u8 (tb : Int), .int .u8 (tc : Int), .int .u8 (te : Int), .int .u8 (tf : Int)] 58)
  have bx := heap_alloc_new W (.cells #[.int .u8 (ta : Int), .int .u8 (tb : Int), .int .u8 (tc : Int), .int .u8 (te : Int), .int .u8 (tf : Int)] 58)
  have HBX := hide bx
  have B0 := hide Bz
  have HT := hide hts
  have HK := hide hok
  have HE := hide hE
  have lx : W.heap.size < (W.alloc (.cells #[.int .u8 (ta : Int), .int .u8 (tb : Int), .int .u8 (tc : Int), .int .u8 (te : Int), .int .u8 (tf : Int)] 58)).heap.size := by simp
  clear Bz bx hts hok hE
  go_enter Tryz.func5, Tryz.ntmps5
  go_wp2_with fail
  refine (lawake_any _ (HE.out.below B0.out)).mono ?_
  rintro e w1 ⟨rfl, hb⟩
  have B1 := hide (B0.out.trans (hb.mono (by simp)))
  have X1 := (hb.block _ lx).trans HBX.out
  have y0 := cell_of_row _ _ 0 _ _ (0, 0) X1
  have y1 := cell_of_row _ _ 1 _ _ (0, 0) X1
  have y2 := cell_of_row _ _ 2 _ _ (0, 0) X1
  have y3 := cell_of_row _ _ 3 _ _ (0, 0) X1
  have y4 := cell_of_row _ _ 4 _ _ (0, 0) X1
  simp at y0 y1 y2 y3 y4
  have HX1 := hide X1
  have HE1 := hide ((HE.out.below B0.out).below hb)
  clear hb B0 HBX lx X1 y0 y1 y2 y3 y4
  by_cases h1 : ts.length ≤ 24
  · have d1 : decide ((ts.length : Int) > 24) = false := by simp; omega
    go_wp2_with fail
    clear d1
    refine (lnew_any 1000 w1).mono ?_
    rintro e w2 ⟨g, fs2, rfl, hL2⟩
    have L2 := hide hL2
    have S2 := hide hL2.bel.size
    have T2 := hide (HT.out.below (B1.out.trans (hL2.bel.mono B1.out.size)))
    obtain ⟨X, hX⟩ : ∃ X, ts.map ofT = X := ⟨_, rfl⟩
    have XR := hide (show AllR X by rw [← hX]; exact tiny_R ts)
    have XN := hide (show ∀ o ∈ X, o.l.length ≤ maxLen by rw [← hX]; exact ofT_name ts)
    have xl : X.length ≤ 24 := by rw [← hX, List.length_map]; exact h1
    have XE := hide hX
    obtain ⟨M, hM⟩ : ∃ M, putO [] X = M := ⟨_, rfl⟩
    have m1 : M.length ≤ 24 := by
      have := putF_most (f := ocF) X []
      rw [show putF ocF [] X = M from hM] at this
      simp at this
      omega
    have HM := hide hM
    have hrl := runS_len M
    have HH := hide (runS_hst M)
    have hrk : (runS M).1.length ≤ 24 := by have := HH.out.len; omega
    clear hL2 hX hM
    go_wp2_with fail
    refine (all_any a cap ts w2 (by omega) HK.out T2.out).mono ?_
    rintro e w3 ⟨v3, rfl, hv3, hb3⟩
    rw [XE.out] at hv3
    obtain ⟨A3, c3, rfl, ho3⟩ := hv3.ops
    have L3 := hide (L2.out.below hb3)
    have O3 := hide ho3
    have R3 := hide hv3
    have F3 := hide (show ∀ b, (Value.slice A3 X.length c3).ownBlock = some b → b ∉ fs2 from fun b hb hk => by
      have h1 := L2.out.lg.lt b hk
      have h2 := hv3.row b hb
      omega)
    clear hv3 hb3 ho3 T2 L2
    have K3 := hide (put_fits w1 HE1.out g 1000 [] fs2 A3 c3 X XR.out XN.out (by simp; omega) (by rw [HM.out]; omega) w3 L3.out O3.out)
    rw [HM.out] at K3
    simp only [List.length_nil, Nat.sub_zero] at K3
    go_wp2_with fail
    refine K3.out.mono ?_
    rintro e w4 ⟨A4, k4, c4, fs4, rfl, -, hL4, hm4, hf4⟩
    have L4 := hide hL4
    have R4 := hide (R3.out.mod hm4 F3.out)
    have F4 := hide (show ∀ b, (Value.slice A3 X.length c3).ownBlock = some b → b ∉ fs4 from fun b hb hk => by
      rcases hf4 b hk with h | h
      · exact F3.out b hb h
      · have := R3.out.lt hb
        omega)
    clear hL4 hm4 hf4 K3 L3 O3 R3 F3
    go_wp2_with fail
    refine (lall_any g 1000 M fs4 (by omega) w4 L4.out.lg).mono ?_
    rintro e w5 ⟨v5, rfl, hv5, hb5⟩
    obtain ⟨A5, c5, rfl, -⟩ := hv5.ops
    have L5 := hide (L4.out.below hb5)
    have S4 := hide L4.out.bel.size
    have S5 := hide L5.out.bel.size
    have R5 := hide (R4.out.below hb5)
    have V5 := hide hv5
    have Z4 := hide (fun b (hb : (Value.slice A3 X.length c3).ownBlock = some b) => R4.out.lt hb)
    have Z4' := hide (fun b (hb : (Value.slice A5 M.length c5).ownBlock = some b) => hv5.row b hb)
    clear hv5 hb5 L4 R4
    go_wp2_with fail
    refine (ltree_any g 1000 M fs4 (by omega) w5 L5.out.lg).mono ?_
    rintro e w6 ⟨b6, f6, rfl, hT6, hf6, hb6⟩
    have L6 := hide (L5.out.below hb6)
    have R6 := hide (R5.out.below hb6)
    have V6 := hide (V5.out.below hb6)
    have T6 := hide hT6
    have N6 := hide hf6
    have s56 := hb6.size
    have Z5 := hide (fun b (hb : (Value.slice A3 X.length c3).ownBlock = some b) => R5.out.lt hb)
    have Z5' := hide (fun b (hb : (Value.slice A5 M.length c5).ownBlock = some b) => V5.out.lt hb)
    have Z5'' := hide (L5.out.lg.lt)
    clear hT6 hf6 hb6 L5 R5 V5
    go_wp2_with fail
    refine (tall_any b6 (runS M).1 (runS M).2 f6 (by omega) w6 T6.out).mono ?_
    rintro e w7 ⟨v7, rfl, hv7, hb7⟩
    have s21 : w1.heap.size ≤ w2.heap.size := S2.out
    have P6 := hide (show w1.heap.size ≤ w5.heap.size from by have := S5.out; omega)
    have P7 := hide (show Own9 w1 g M fs4 (.slice A5 M.length c5) v7 (.slice A3 X.length c3) X b6 (runS M) f6 w7 from
      ⟨⟨L6.out.below hb7, (V6.out.below hb7).base S4.out, hv7.base (by have := P6.out; omega)⟩, (R6.out.below hb7).base s21, T6.out.below hb7,
        ⟨fun k hk hk' => by have := Z5''.out k hk; have := N6.out k hk'; omega, fun b hb hk' => by have := Z5'.out b hb; have := N6.out b hk'; omega, fun b hb hk' => by
          have := (hv7.lt hb).1
          have := T6.out.lt b hk'
          omega⟩,
        fun b hb hk' => by have := Z5.out b hb; have := N6.out b hk'; omega, fun k hk => by have := P6.out; have := N6.out k hk; omega⟩)
    have AR := hide (show ∀ b, (Value.slice A3 X.length c3).ownBlock = some b → Apart8 fs4 (.slice A5 M.length c5) v7 [b] from fun b hb =>
      ⟨fun k hk hk' => by
        rw [List.mem_singleton.1 hk'] at hk
        exact F4.out b hb hk, fun b' hb' hk' => by
        rw [List.mem_singleton.1 hk'] at hb'
        have := Z4.out b hb
        have := Z4'.out b hb'
        omega, fun b' hb' hk' => by
        rw [List.mem_singleton.1 hk'] at hb'
        have := Z5.out b hb
        have := (hv7.lt hb').1
        omega⟩)
    have X7 := (P7.out.own.log.bel.block _ (Array.getElem?_eq_some_iff.1 HX1.out).1).trans HX1.out
    have y0 := cell_of_row _ _ 0 _ _ (0, 0) X7
    have y1 := cell_of_row _ _ 1 _ _ (0, 0) X7
    have y2 := cell_of_row _ _ 2 _ _ (0, 0) X7
    have y3 := cell_of_row _ _ 3 _ _ (0, 0) X7
    have y4 := cell_of_row _ _ 4 _ _ (0, 0) X7
    simp at y0 y1 y2 y3 y4
    clear hv7 hb7 L6 R6 V6 T6 N6 Z5 Z5' Z5'' s56 X7 F4 P6 s21 Z4 Z4'
    go_wp2_with fail
    refine (KO.out _).mono ?_
    rintro e w8 ⟨rfl, hb8⟩
    have P8 := hide (P7.out.below hb8)
    obtain ⟨o, ho⟩ : ∃ o : O5, o = ofT t := ⟨_, rfl⟩
    have ev : opv (1 + (ta : Int) % 40) ((tb : Int) % 4) (256 + (tc : Int) % 8) (toOf te) [b8 (97 + tf % 8)] = .agg #[.int .i64 o.n, .int .i64 o.r, .int .i64 o.d, .int .i64 o.t, .string (bs o.l)] := by rw [ho, EX.out]; rfl
    rw [ev]
    have ol : o.l.length ≤ maxLen := by rw [ho]; show 1 ≤ maxLen; unfold maxLen; omega
    have KA := hide (tapply_any b6 (runS M) f6 o ol (by omega) w8 (HE1.out.below P8.out.own.log.bel) P8.out.tr)
    have hs8 : (stp (runS M) o).2.length ≤ 25 := by
      unfold stp
      split
      · simp
        omega
      · omega
    clear ho ev ol hb8 P7 KO EX y0 y1 y2 y3 y4
    go_wp2_with fail
    refine KA.out.mono ?_
    rintro e w9 hr
    obtain ⟨rfl, f9, hP9⟩ := P8.out.step hr
    have P9 := hide hP9
    clear hr hP9 KA P8
    have KU := hide (tund_any b6 (stp (runS M) o) f9 (by omega) w9 P9.out.tr)
    go_wp2_with fail
    refine KU.out.mono ?_
    rintro e w10 hr
    obtain ⟨rfl, f10, hP10⟩ := P9.out.step hr
    have P10 := hide hP10
    have hs10 : (und (stp (runS M) o)).2.length ≤ 25 := by have := und_len (stp (runS M) o); omega
    clear hr hP10 KU P9
    have KU := hide (tund_any b6 (und (stp (runS M) o)) f10 (by omega) w10 P10.out.tr)
    go_wp2_with fail
    refine KU.out.mono ?_
    rintro e w11 hr
    obtain ⟨rfl, f11, hP11⟩ := P10.out.step hr
    have P11 := hide hP11.own
    have R11 := hide hP11.row
    have S0 := hide (Own7.of P11.out R11.out AR.out)
    clear hr hP11 KU P10 P11 R11 AR
    go_wp2_with fail
    go_loopw [14] (OwRel w1 g M fs4 (.slice A5 M.length c5) v7 A3 X.length) (fun i _ => X.length - (intOf i).toNat)
    case atStart => exact ⟨0, Nat.zero_le _, rfl, S0.out⟩
    case round =>
      rename World => wi
      obtain ⟨k, hk, rfl, hO⟩ := hrel
      by_cases hlt : k < X.length
      · obtain ⟨b, hA, hB, -, -⟩ := hO.row (by omega)
        obtain ⟨u, hu⟩ := hB.cell (j := k * 5 + 4) (by omega)
        have fz := hB.open (k * 5 + 4)
        have HO := hide (hO.set hA (by omega) (k * 5 + 4) (.string { data := #[113] }))
        have i1 : (k : Int) < (X.length : Int) := by omega
        have i0 : (0 : Int) ≤ (k : Int) := by omega
        clear hO hB
        subst hA
        go_wp2
        go_roundw
        case rel => exact ⟨k + 1, by omega, by go_num, HO.out⟩
        case measure => simp [intOf]; omega
      · obtain rfl : k = X.length := by omega
        have P12 := hide hO.own
        clear hO
        go_wp2_with fail
        refine (lall_any g 1000 M fs4 (by omega) wi P12.out.log.lg).mono ?_
        rintro e w13 ⟨v13, rfl, hv13, hb13⟩
        obtain ⟨A13, c13, rfl, -⟩ := hv13.ops
        have S13 := hide (Own7.of (P12.out.below hb13) (hv13.base P12.out.log.bel.size) (fun b hb => P12.out.new (fun k hk => by rw [List.mem_singleton.1 hk]; exact hv13.row b hb)))
        clear hv13 hb13 P12 S0
        go_wp2_with fail
        go_loopw [16] (OwRel w1 g M fs4 (.slice A5 M.length c5) v7 A13 M.length) (fun i _ => M.length - (intOf i).toNat)
        case atStart => exact ⟨0, Nat.zero_le _, rfl, S13.out⟩
        case round =>
          rename World => wj
          obtain ⟨k, hk', rfl, hO⟩ := hrel
          by_cases hlt' : k < M.length
          · obtain ⟨b, hA, hB, -, -⟩ := hO.row (by omega)
            obtain ⟨u, hu⟩ := hB.cell (j := k * 5 + 2) (by omega)
            have fz := hB.open (k * 5 + 2)
            have HO := hide (hO.set hA (by omega) (k * 5 + 2) (.int .i64 999))
            have i1 : (k : Int) < (M.length : Int) := by omega
            have i0 : (0 : Int) ≤ (k : Int) := by omega
            clear hO hB
            subst hA
            go_wp2
            go_roundw
            case rel => exact ⟨k + 1, by omega, by go_num, HO.out⟩
            case measure => simp [intOf]; omega
          · obtain rfl : k = M.length := by omega
            have P14 := hide hO.own
            clear hO S13
            go_wp2_with fail
            refine (ltree_any g 1000 M fs4 (by omega) wj P14.out.log.lg).mono ?_
            rintro e w15 ⟨b15, f15, rfl, hT15, -, hb15⟩
            have P15 := hide (P14.out.below hb15)
            have T15 := hide hT15
            clear hT15 hb15 P14
            go_wp2_with fail
            refine (lall_any g 1000 M fs4 (by omega) w15 P15.out.log.lg).mono ?_
            rintro e w16 ⟨v16, rfl, hv16, hb16⟩
            obtain ⟨A16, c16, rfl, ho16⟩ := hv16.ops
            have P16 := hide (P15.out.below hb16)
            have T16 := hide (T15.out.below hb16)
            obtain ⟨A17, c17, e17, ho17⟩ := P16.out.was.ops
            simp at e17
            obtain ⟨rfl, rfl⟩ := e17
            have KS := hide (sameOps_any A16 c16 M A5 c5 M w16 (by omega) (by omega) ho16 ho17)
            rw [decide_eq_true (rfl : M = M)] at KS
            clear hv16 hb16 ho16 ho17 P15 T15
            go_wp2_with fail
            refine KS.out.mono ?_
            rintro e w17 ⟨rfl, hb17⟩
            have P17 := hide (P16.out.below hb17)
            have T17 := hide (T16.out.below hb17)
            clear hb17 KS P16 T16
            go_wp2_with fail
            refine (tall_any b15 (runS M).1 (runS M).2 f15 (by omega) w17 T17.out).mono ?_
            rintro e w18 ⟨v18, rfl, hv18, hb18⟩
            have P18 := hide (P17.out.below hb18)
            have sl : (sortK (runS M).1).length ≤ 1000000 := by rw [sortK_length]; omega
            have KK := hide (ksame_any v18 v7 _ _ w18 sl sl hv18.kids P18.out.all.kids)
            rw [decide_eq_true rfl] at KK
            clear hv18 hb18 P17 T17
            go_wp2_with fail
            refine KK.out.mono ?_
            rintro e w19 ⟨rfl, hb19⟩
            have B19 := hide (P18.out.below hb19).log.bel
            clear hb19 KK P18
            go_wp2
            go_ret
            exact ⟨rfl, B1.out.trans (B19.out.mono B1.out.size)⟩
  · have d1 : decide ((ts.length : Int) > 24) = true := by simp; omega
    clear h1
    go_wp2
    go_ret
    exact ⟨rfl, B1.out⟩
end Go.Proofs.YtimfeocaghccdaaGreatDoor
