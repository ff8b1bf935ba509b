/-
  PmapGets returns true, if the program keeps the contracts. Condition: these.
-/
import Derived.Test.YtcckamajiebgeaaPEdit
namespace Go.Proofs.Ytcckamajiebgeaa
open Go.RowKit
set_option linter.unusedVariables false
set_option linter.unusedSimpArgs false
set_option maxRecDepth 100000

/-- What the law has behind so many keys taken. -/
structure Gs (P : MapPred) (W w : World) (gm i k9 : Nat) (vw : Value) (T : Tr) (A : Ar) (U : Nat) : Prop where
  pm : P W w gm 2000 U A
  uu : U ≤ 30000 + 1000 * i
  st : Stands A T
  len : T.prs.length ≤ 30
  live : A.live ≤ 840 + 28 * i
  h9 : Hb w k9 T.root.1 T.root.2
  own : OwnP w W.heap.size vw T.prs
  b9 : W.heap.size ≤ k9
theorem Gs.below {P : MapPred} (H : MapOk P) {W w w' : World} {gm i k9 : Nat} {vw : Value} {T : Tr} {A : Ar} {U : Nat} (h : Gs P W w gm i k9 vw T A U) (hb : Below w.heap.size w w') : Gs P W w' gm i k9 vw T A U :=
  ⟨H.below h.pm hb, h.uu, h.st, h.len, h.live, h.h9.below hb, h.own.below hb, h.b9⟩
/-- Behind a call that did nothing. -/
theorem Gs.kp {P : MapPred} {W w w' : World} {gm i k9 : Nat} {vw : Value} {T : Tr} {A : Ar} {U : Nat} (h : Gs P W w gm i k9 vw T A U) (hk : Kp w w') (hp : P W w' gm 2000 U A) : Gs P W w' gm (i + 1) k9 vw T A U :=
  ⟨hp, by have := h.uu; omega, h.st, h.len, by have := h.live; omega, h.h9.kp hk, h.own.kp hk, h.b9⟩
/-- Behind a key taken, the root written. -/
theorem Gs.del {P : MapPred} (H : MapOk P) {W w w' : World} {gm i k9 : Nat} {vw v : Value} {T : Tr} {A : Ar} {U : Nat} (h : Gs P W w gm i k9 vw T A U) (hk : Kp w w') {T' : Tr} {A' : Ar} {U' : Nat} {k n : Nat} {key : Int} (hp : P W w' gm 2000 U' A') (hst : Stands A' T') (hpr : T'.prs = woP key T.prs) (hu : U' ≤ U + 1000) (hl : A'.live ≤ A.live + n) (hn : n ≤ 28) (ho : OwnP w' W.heap.size v (woP key T.prs)) :
    Gs P W ((w'.setCell ⟨k9, 0, none⟩ (.int .i64 T'.root.1)).setCell ⟨k9, 1, none⟩ (.int .i64 T'.root.2)) gm (i + 1) k9 v T' A' U' := by
  have h9 := h.h9.kp hk
  refine ⟨mo_setH H hp h9 h.b9 _ _, by have := h.uu; omega, hst, ?_, by have := h.live; omega, h9.set, ?_, h.b9⟩
  · rw [hpr]
    exact Nat.le_trans (List.length_filter_le _ _) h.len
  · rw [hpr]
    exact ho.setH h9 _ _
def GsRel (P : MapPred) (W : World) (gm n k9 : Nat) (vw vi : Value) (w : World) : Prop := ∃ i T A U, i ≤ n ∧ vi = .int .i64 (i : Int) ∧ Gs P W w gm i k9 vw T A U
set_option maxHeartbeats 4000000 in
theorem pmapGets_walk {P : MapPred} (H : MapOk P) (p : Option Addr) (len cap : Nat) (zs : List Int) (p' : Option Addr) (len' cap' : Nat) (zs' : List Int) (k : Int) (W : World) (h : IsRow .u8 W p len cap zs) (h' : IsRow .u8 W p' len' cap' zs') (hk : (Lit.int .i64 k).wf = true) :
    Calls Try.prog 4 #[.slice p len cap, .slice p' len' cap', .int .i64 k] W (TrueRet W) := by
  have bk : i64B k := by have := bounds_i64 hk; unfold i64B; omega
  have hb := ByteArg.of_row h
  have hb' := ByteArg.of_row h'
  generalize rowBytes zs len = l at hb
  generalize rowBytes zs' len' = d at hb'
  obtain rfl := hb.leq
  obtain rfl := hb'.leq
  have HB := hide hb
  have HD := hide hb'
  have c1 := hb.ceq
  have c2 := hb.most
  have c3 := hb'.ceq
  have c4 := hb'.most
  unfold maxLen at c2 c4
  clear h h' hk hb hb'
  go_enter Try.func4, Try.ntmps4
  go_wp2_with fail
  refine (awake_any H W).mono ?_
  rintro e w1 ⟨rfl, hb1⟩
  have B1 := hide hb1
  clear hb1
  by_cases hl : l.length ≤ 30
  case neg =>
    have d0 : decide ((l.length : Int) > 30) = true := decide_eq_true (by omega)
    go_wp2_with fail
    go_ret
    exact ⟨rfl, B1.out⟩
  have d0 : decide ((l.length : Int) > 30) = false := decide_eq_false (by omega)
  by_cases hl2 : d.length ≤ 30
  case neg =>
    have d1 : decide ((d.length : Int) > 30) = true := decide_eq_true (by omega)
    go_wp2_with fail
    go_ret
    exact ⟨rfl, B1.out⟩
  have d1 : decide ((d.length : Int) > 30) = false := decide_eq_false (by omega)
  have KN := hide (H.new W w1 2000 (by omega) B1.out)
  unfold cmpV at KN
  go_wp2_with fail
  refine KN.out.mono ?_
  rintro e w2 ⟨gm, rfl, hp, hb⟩
  have HP := hide hp
  clear hp hb KN
  have KM := hide (made_any H W w2 gm 2000 0 0 ⟨[], []⟩ p cap l (by omega) (by omega) (by simp [Ar.live]) (by omega) HP.out (Ub.at HB.out (H.bel HP.out)))
  go_wp2_with fail
  refine KM.out.mono ?_
  rintro e w3 ⟨T, A, U, vw, rfl, hp3, hu3, hst, hprs, hlv, how, hub⟩
  have hml := mkP_length l l.length
  rw [← hprs] at how hml
  obtain ⟨aw, cw, rfl⟩ := row_form how
  have HG := hide (show Gs P W (w3.alloc (.cells #[.int .i64 T.root.1, .int .i64 T.root.2] 28)) gm 0 w3.heap.size (.slice aw T.prs.length cw) T A U from
    ⟨mo_alloc H hp3 _, by omega, hst, by omega, by omega, Hb.new w3 _ _, (how.base (H.bel HP.out).size).below ((Below.refl _ _).alloc (Nat.le_refl _) _), (H.bel hp3).size⟩)
  clear hp3 hu3 hst hprs hlv how hub KM HP B1 HB hml
  go_upto_region 8 with (fail)
  generalize w3.heap.size = k9 at HG ⊢
  generalize w3.alloc _ = w4 at HG ⊢
  go_wp2_with fail
  go_loopw [10, 12] (GsRel P W gm d.length k9) (fun _ i _ => d.length - (intOf i).toNat)
  case atStart => exact ⟨0, T, A, U, Nat.zero_le _, rfl, HG.out⟩
  case round =>
    clear HG
    obtain ⟨i, T, A, U, hi, rfl, G⟩ := hrel
    have HG := hide G
    have huu := G.uu
    have hlv := G.live
    have hln := G.len
    obtain ⟨ao, co, rfl⟩ := row_form G.own
    by_cases hlt : i < d.length
    · obtain ⟨b, o, rfl, hat⟩ := byte_at HD.out hlt
      have HAT := hide hat
      have z0 := hat wr (H.bel G.pm)
      have i0 : (0 : Int) ≤ (i : Int) := by omega
      have i1 : (i : Int) < (d.length : Int) := by omega
      have hkey := byte_b d[i]
      generalize hke : (d[i].toNat : Int) = key at *
      have hwk : IntKind.i64.wrap key = key := wrap_in _ hkey.1 hkey.2
      have KW := hide (without_any ao co T.prs key (by omega) wr HG.out.own.at)
      rw [fi_wo] at KW
      clear hat hke
      go_wp2_with fail
      refine KW.out.mono ?_
      rintro e wb ⟨vr, rfl, hvr, hbv⟩
      have HG2 := hide (HG.out.below H hbv)
      have HVR := hide (hvr.base (H.bel HG.out.pm).size)
      have hsb := (H.bel HG2.out.pm).size
      obtain ⟨x0, x1⟩ := HG2.out.h9.two
      have z0 := HAT.out wb (H.bel HG2.out.pm)
      have hh := HG2.out.st.bal.high9 (by omega)
      have BD1 := hide ((Below.refl wb.heap.size wb).drew)
      have BD2 := hide (((Below.refl wb.heap.size wb).alloc (Nat.le_refl _) (.cells #[.int .i64 0, .int .i64 0, .slice none 0 0, .slice none 0 0] 34)).drew)
      have KS := hide (fun (V : World) (hk : Kp wb V) (hb : Below W.heap.size W V) => show (V.cell? ⟨k9, 0, none⟩ = some (.int .i64 T.root.1) ∧ V.cell? ⟨k9, 1, none⟩ = some (.int .i64 T.root.2)) ∧ V.cell? ⟨b, o + i, none⟩ = some (.int .u8 key) from ⟨(HG2.out.h9.kp hk).two, HAT.out V hb⟩)
      obtain ⟨ar, cr, rfl⟩ := row_form hvr
      clear hvr hbv KW HG
      by_cases hf : (fiP key T.prs).isSome = true
      · have KP := hide (fun (V : World) (hV : Below wb.heap.size wb V) => H.del T key (H.below HG2.out.pm hV) (by omega) HG2.out.st (by omega) (by omega) hkey hf)
        rw [hf]
        clear hf huu hlv hln hkey
        go_upto_region 14 with (fail)
        go_region_held3 (fun w' => (w'.cell? ⟨k9, 0, none⟩ = some (.int .i64 T.root.1) ∧ w'.cell? ⟨k9, 1, none⟩ = some (.int .i64 T.root.2)) ∧ w'.cell? ⟨b, o + i, none⟩ = some (.int .u8 key))
          (first | with_reducible exact hS2 | with_reducible exact hS1 | with_reducible exact ⟨⟨x0, x1⟩, z0⟩ | go_keep)
          (first
            | (with_reducible refine (KP.out _ BD1.out).mono ?_
               rintro e w5 ⟨vm, vg, T1, A1, U1, made, gone, rfl, E⟩
               obtain ⟨am, cm, rfl⟩ := row_form E.om
               obtain ⟨ag, cg, rfl⟩ := row_form E.og
               have hS1 := KS.out _ ((Kp.of_below BD1.out).trans E.kp) (H.bel E.pm)
               have HE := hide E
               have HX := hide (Eds.late H BD1.out E.pm E.kp E.om E.og T1.root)
               have HY := hide (⟨E.uu, E.live, E.few, E.st, E.prs⟩ : U1 ≤ U + 1000 ∧ A1.live = A.live + made.length ∧ made.length ≤ 3 * T.high + 1 ∧ Stands A1 T1 ∧ T1.prs = woP key T.prs)
               clear E HE
               unfold edv)
            | (with_reducible refine (KP.out _ BD2.out).mono ?_
               rintro e w5 ⟨vm, vg, T1, A1, U1, made, gone, rfl, E⟩
               obtain ⟨am, cm, rfl⟩ := row_form E.om
               obtain ⟨ag, cg, rfl⟩ := row_form E.og
               obtain ⟨hZ, c0, c1, c2, c3, g0, g1, g2, g3⟩ := ed_zero (kp_zero E.kp)
               have hS1 := KS.out _ ((Kp.of_below BD2.out).trans E.kp) (H.bel E.pm)
               have hX := Eds.early H hZ hsb BD2.out E.pm E.kp E.om E.og T1.root
               have hS2 := KS.out _ hX.kp (H.bel hX.pm)
               have HX := hide hX
               have HY := hide (⟨E.uu, E.live, E.few, E.st, E.prs⟩ : U1 ≤ U + 1000 ∧ A1.live = A.live + made.length ∧ made.length ≤ 3 * T.high + 1 ∧ Stands A1 T1 ∧ T1.prs = woP key T.prs)
               clear E hX hZ
               unfold edv))
        all_goals
          clear hS1
          try clear hS2 c0 c1 c2 c3 g0 g1 g2 g3
          first
            | (generalize (World.alloc _ _) = w6 at HX ⊢
               generalize w5.heap.size = ke at HX ⊢)
            | (generalize (World.setCell _ _ _) = w6 at HX ⊢
               generalize hke : wb.heap.size = ke at HX ⊢
               clear hke)
          obtain ⟨e0, e1, -, -⟩ := HX.out.eb.four
          have H9 := hide (HG2.out.h9.kp HX.out.kp)
          obtain ⟨y0, y1⟩ := H9.out.two
          have f0 := Joins.unfrozen_of_block H9.out 0
          have f1 := Joins.unfrozen_of_block H9.out 1
          have HN := hide (HG2.out.del H (k := 0) (n := made.length) HX.out.kp HX.out.pm HY.out.2.2.2.1 HY.out.2.2.2.2 HY.out.1 (Nat.le_of_eq HY.out.2.1) (by have := HY.out.2.2.1; omega) (HVR.out.kp HX.out.kp))
          clear x0 x1 z0 KP KS BD1 BD2 HX HY H9
          go_wp2_with fail
          go_roundw
          case rel => exact ⟨i + 1, T1, A1, U1, by omega, by go_num, HN.out⟩
          case measure => simp [intOf]; omega
      · have hf0 : (fiP key T.prs).isSome = false := by simpa using hf
        have KP := hide (fun (V : World) (hV : Below wb.heap.size wb V) => H.delNo T key (H.below HG2.out.pm hV) (by omega) HG2.out.st (by omega) hkey (by simpa using hf0))
        rw [hf0]
        clear hf hf0 huu hlv hln hkey
        go_upto_region 14 with (fail)
        go_region_held3 (fun w' => (w'.cell? ⟨k9, 0, none⟩ = some (.int .i64 T.root.1) ∧ w'.cell? ⟨k9, 1, none⟩ = some (.int .i64 T.root.2)) ∧ w'.cell? ⟨b, o + i, none⟩ = some (.int .u8 key))
          (first | with_reducible exact hS2 | with_reducible exact hS1 | with_reducible exact ⟨⟨x0, x1⟩, z0⟩ | go_keep)
          (first
            | (with_reducible refine (KP.out _ BD1.out).mono ?_
               rintro e w5 ⟨vm, vg, rfl, om, og, pm, kp⟩
               obtain ⟨am, cm, rfl⟩ := row_form om
               obtain ⟨ag, cg, rfl⟩ := row_form og
               have hS1 := KS.out _ ((Kp.of_below BD1.out).trans kp) (H.bel pm)
               have HX := hide (Eds.late H BD1.out pm kp om og (0, 0))
               simp only [List.length_nil] at HX ⊢
               clear om og pm kp
               unfold edv)
            | (with_reducible refine (KP.out _ BD2.out).mono ?_
               rintro e w5 ⟨vm, vg, rfl, om, og, pm, kp⟩
               obtain ⟨am, cm, rfl⟩ := row_form om
               obtain ⟨ag, cg, rfl⟩ := row_form og
               obtain ⟨hZ, c0, c1, c2, c3, g0, g1, g2, g3⟩ := ed_zero (kp_zero kp)
               have hS1 := KS.out _ ((Kp.of_below BD2.out).trans kp) (H.bel pm)
               have hX := Eds.early H hZ hsb BD2.out pm kp om og (0, 0)
               simp only [List.length_nil] at hX ⊢
               have hS2 := KS.out _ hX.kp (H.bel hX.pm)
               have HX := hide hX
               clear om og pm kp hX hZ
               unfold edv))
        all_goals
          clear hS1
          try clear hS2 c0 c1 c2 c3 g0 g1 g2 g3
          first
            | (generalize (World.alloc _ _) = w6 at HX ⊢
               generalize w5.heap.size = ke at HX ⊢)
            | (generalize (World.setCell _ _ _) = w6 at HX ⊢
               generalize hke : wb.heap.size = ke at HX ⊢
               clear hke)
          have HN := hide (HG2.out.kp HX.out.kp HX.out.pm)
          clear x0 x1 z0 KP KS BD1 BD2 HX HVR
          go_wp2_with fail
          go_roundw
          case rel => exact ⟨i + 1, T, A, U, by omega, by go_num, HN.out⟩
          case measure => simp [intOf]; omega
    · obtain rfl : i = d.length := by omega
      obtain ⟨x0, x1⟩ := G.h9.two
      have KG := hide (H.get T k G.pm (by omega) G.st (by omega) bk)
      have KF := hide (fun (V : World) (hV : Below wr.heap.size wr V) => pfind_any ao co T.prs k (by omega) V (HG.out.own.below hV).at)
      have KZ := hide (fun (V : World) (hV : Below wr.heap.size wr V) => H.get .nil k (H.below HG.out.pm hV) (by omega) (Stands.nil _) (by simp [Tr.prs]) bk)
      simp only [Tr.root, Tr.prs, show fiP k [] = none from rfl, Option.getD_none, Option.isSome_none] at KZ
      generalize (fiP k T.prs).getD 0 = z at *
      generalize (fiP k T.prs).isSome = r at *
      have q0 : (z == z) = true := by simp
      have q1 : (r == r) = true := by simp
      clear G hln hlv huu
      go_wp2_with fail
      refine KG.out.mono ?_
      rintro e w5 ⟨rfl, hb5⟩
      have B5 := hide hb5
      clear hb5 KG
      go_wp2_with fail
      refine (KF.out w5 B5.out).mono ?_
      rintro e w6 ⟨rfl, hb6⟩
      have B6 := hide (B5.out.trans (hb6.mono B5.out.size))
      clear hb6 KF
      go_wp2_with fail
      refine (KZ.out w6 B6.out).mono ?_
      rintro e w7 ⟨rfl, hb7⟩
      have BE := hide (H.bel (H.below HG.out.pm (B6.out.trans (hb7.mono B6.out.size))))
      clear hb7 KZ B5 B6 x0 x1 HG
      go_wp2_with fail
      go_ret
      exact ⟨by simp, BE.out⟩
end Go.Proofs.Ytcckamajiebgeaa
