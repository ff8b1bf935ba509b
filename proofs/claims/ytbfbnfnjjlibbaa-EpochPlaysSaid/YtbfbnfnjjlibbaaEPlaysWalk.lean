/-
  EpochPlays returns true. No conditions.
-/
import Derived.Test.YtbfbnfnjjlibbaaEDuo
import Derived.Deep.DeepCutAuto
namespace Go.Proofs.Ytbfbnfnjjlibbaa
open Go.RowKit
set_option linter.unusedVariables false
set_option linter.unusedSimpArgs false
set_option maxRecDepth 100000

def EyRel (W : World) (g1 g2 N : Nat) (vi : Value) (wr : World) : Prop := ∃ i : Nat, i ≤ N ∧ vi = .int .i64 (i : Int) ∧ Ey W wr g1 g2 i
set_option maxHeartbeats 8000000 in
theorem epochPlays_walk (p : Option Addr) (len cap : Nat) (l : List Ec) (W : World) (h : IsEcs W p len cap l) :
    Calls Try.prog 3 #[.slice p len cap] W (TrueRet W) := by
  obtain rfl := h.leq
  have c1 := h.le
  have c2 := h.most
  unfold maxLen at c2
  have HI := hide h
  clear h
  go_enter Try.func3, Try.ntmps3
  go_wp2_with fail
  refine (awake_any W).mono ?_
  rintro e w1 ⟨rfl, hb1⟩
  have B1 := hide hb1
  clear hb1
  by_cases h2 : 40 < l.length
  · have e2 : decide ((l.length : Int) > 40) = true := by simp; omega
    go_wp2
    go_ret
    exact ⟨rfl, B1.out⟩
  have e2 : decide ((l.length : Int) > 40) = false := by simp; omega
  go_wp2_with fail
  refine (znew_any (w0 := W) B1.out).mono ?_
  rintro e w2 ⟨rfl, hz, hb2⟩
  have D := (Below.refl w2.heap.size w2).alloc (Nat.le_refl _) (.cells #[.int .i64 0, .slice none 0 0, .slice none 0 0, .slice none 0 0] 31)
  have S2 := hide (show Ey W (w2.alloc (.cells #[.int .i64 0, .slice none 0 0, .slice none 0 0, .slice none 0 0] 31)) w1.heap.size w2.heap.size 0 from ⟨0, [], [w2.heap.size], Nat.le_refl _, Nat.le_refl _, Pst.nil 0, by simp, hz.below D, Ln.new w2, fun k hk => by rw [List.mem_singleton.1 hk]; exact hz.bel.size⟩)
  clear hz hb2 B1 D e2
  generalize w1.heap.size = g1 at *
  go_upto_region 6 with (fail)
  generalize hm2 : w2.heap.size = g2 at S2 ⊢
  generalize w2.alloc (.cells #[.int .i64 0, .slice none 0 0, .slice none 0 0, .slice none 0 0] 31) = w3 at S2 ⊢
  go_wp2_with fail
  go_loopw [6] (EyRel W g1 g2 l.length) (fun i _ => l.length - (intOf i).toNat)
  case atStart => exact ⟨0, Nat.zero_le _, rfl, S2.out⟩
  case round =>
    obtain ⟨i, hi, rfl, now, D, fs, hnow, hD, hq, hep, hdu⟩ := hrel
    have HP := hide hq
    have HEP := hide hep
    have HDU := hide hdu
    have BW := hide hdu.ez.bel
    have hql := wq_le D
    by_cases hlt : i < l.length
    · obtain ⟨b, o, rfl, hc⟩ := HI.out.lit (by omega)
      obtain ⟨x0, x1, x2⟩ := hc i hlt
      obtain ⟨o1, o2, o3, o4⟩ := HI.out.ok l[i] (List.getElem_mem hlt)
      have KX := hide (fun (V : World) (hb : Below W.heap.size W V) => show V.cell? ⟨b, o + i * 3, none⟩ = some (.int .i64 l[i].k) ∧ V.cell? ⟨b, o + i * 3 + 1, none⟩ = some (.int .i64 l[i].n) ∧ V.cell? ⟨b, o + i * 3 + 2, none⟩ = some (.slice l[i].a l[i].l.length l[i].c) ∧ Hs V l[i].a l[i].c l[i].l from ⟨cell_b hb x0, cell_b hb x1, cell_b hb x2, o3.below hb⟩)
      have HO3 := hide o3
      have i0 : (0 : Int) ≤ (i : Int) := by omega
      have i1 : (i : Int) < (l.length : Int) := by omega
      clear hdu hc x0 x1 x2 hq hep o1 o2 o3 o4
      generalize l[i] = ac at *
      obtain ⟨kd, ls, ha, hc, hs⟩ := ac
      simp only at KX HO3
      obtain ⟨x0, x1, x2, -⟩ := KX.out wr BW.out
      by_cases h10 : 10 < hs.length
      · have e2 : decide ((hs.length : Int) > 10) = true := by simp; omega
        go_wp2_with fail
        go_ret
        exact ⟨rfl, BW.out⟩
      · have e2 : decide ((hs.length : Int) > 10) = false := by simp; omega
        have hs10 : hs.length ≤ 10 := by omega
        clear h10
        go_upto_region 13 with (fail)
        clear e2
        go_cut [37] (fun s37 wx => s37 = .int .i64 kd ∧ wx = wr)
        case first =>
          go_wp2_with fail
          go_meet
          exact ⟨rfl, rfl⟩
        case rest =>
          obtain ⟨rfl, rfl⟩ := hcut
          apply_assumption
          go_cut [6] (fun s6 wx => s6 = .int .i64 (i : Int) ∧ Ey W wx g1 g2 (i + 1))
          case first =>
            by_cases q0 : kd = 0
            · subst q0
              have K := hide (zadv_any (by omega) HDU.out.ez)
              clear x0 x1 x2
              go_wp2_with fail
              refine K.out.mono ?_
              rintro e w4 ⟨rfl, hz, hk⟩
              have hd := HDU.out.one hz hk
              obtain ⟨y0, f0, hd2⟩ := du_now hd (now + 1)
              have HN := hide (show Ey W (w4.setCell ⟨g2, 0, none⟩ (.int .i64 ((now : Int) + 1))) g1 g2 (i + 1) from ⟨now + 1, D, fs, by omega, by omega, HP.out.later (by omega), fun r hr => Nat.le_trans (HEP.out r hr) (by omega), hd2⟩)
              have we : IntKind.i64.wrap ((now : Int) + 1) = (now : Int) + 1 := wrap_in _ (by omega) (by omega)
              clear hz hk hd hd2 K
              go_wp2_with fail
              go_meet
              exact ⟨rfl, HN.out⟩
            · have d0 : (kd == 0) = false := by simpa using q0
              clear q0
              by_cases q1 : kd = 1
              · subst q1
                have K := hide (zret_any (by omega) (KX.out _ BW.out).2.2.2 (fun hp => HO3.out.apart hp) HDU.out.ez)
                have K2 := hide (fun (V : World) (q : List Wp) (h : Du W V g1 g2 now q now D fs) (hV : Hs V ha hc hs) => du_retire (by omega) HO3.out hV h)
                go_wp2_with fail
                refine K.out.mono ?_
                rintro e w4 ⟨rfl, hz, hk⟩
                have HD4 := hide (HDU.out.one hz hk)
                obtain ⟨x0, x1, x2, hV⟩ := KX.out w4 hz.bel
                have HV := hide hV
                clear hz hk hV K
                go_wp2_with fail
                refine (K2.out w4 _ HD4.out HV.out).mono ?_
                rintro e w5 ⟨rfl, fs', hd⟩
                have HN := hide (show Ey W w5 g1 g2 (i + 1) from ⟨now, D ++ reD now hs, fs', by omega, by rw [List.length_append, reD_length]; omega, by rw [wq_retire]; exact HP.out.retire hs, reD_ep HEP.out, by rw [wq_retire]; exact hd⟩)
                clear hd K2 x0 x1 x2
                go_wp2_with fail
                go_meet
                exact ⟨rfl, HN.out⟩
              · have d1 : (kd == 1) = false := by simpa using q1
                clear q1
                have K := hide (zfree_any ls (by omega) (by omega) HP.out HDU.out.ez)
                rw [← otD_eq, ← wq_frD] at K
                have K2 := hide (fun (V : World) (q : List Wp) (h : Du W V g1 g2 now q now D fs) => du_free ls (by omega) (by omega) (fun r hr => Nat.le_trans (HEP.out r hr) (by omega)) h)
                have hol : (otD ls now D).length ≤ 1000000 := Nat.le_trans (otD_le ls now D) (by omega)
                have HFL := hide HDU.out.ln.lt
                have HFR := hide (show (frD ls now D).length ≤ (i + 1) * 10 ∧ Pst (wq (frD ls now D)) now ∧ ∀ r ∈ frD ls now D, r.ep ≤ now from ⟨by rw [frD_length]; omega, by rw [wq_frD]; exact HP.out.free ls now, frD_ep HEP.out⟩)
                generalize otD ls now D = out at *
                generalize frD ls now D = D2 at *
                go_wp2_with fail
                refine K.out.mono ?_
                rintro e w4 ⟨va, rfl, ho, hz, hk⟩
                have HD4 := hide (HDU.out.one hz hk)
                have HO4 := hide ho
                obtain ⟨x0, x1, x2, -⟩ := KX.out w4 hz.bel
                obtain ⟨aa, ca, rfl⟩ := row_form ho
                clear hz hk ho K
                go_wp2_with fail
                refine (K2.out w4 _ HD4.out).mono ?_
                rintro e w5 ⟨vb, rfl, ho, hd, hm⟩
                have HN := hide (show Ey W w5 g1 g2 (i + 1) from ⟨now, D2, fs, by omega, HFR.out.1, HFR.out.2.1, HFR.out.2.2, hd⟩)
                have HA := hide (HO4.out.mod hm HFL.out)
                obtain ⟨ab, cb, rfl, hsb⟩ := ho.hs
                have KH := hide (show Calls Try.prog 15 #[.slice aa out.length ca, .slice ab out.length cb] w5 (BoolRet true w5) from by
                  obtain ⟨A', c', e', hs'⟩ := HA.out.hs
                  injection e' with e1 e2 e3
                  subst e1 e3
                  exact handles_same hol hs' hsb)
                clear ho hd hm hsb K2 x0 x1 x2 HA HO4
                go_wp2_with fail
                refine KH.out.mono ?_
                rintro e w6 ⟨rfl, hb⟩
                have HN := hide (show Ey W w6 g1 g2 (i + 1) from by
                  obtain ⟨n, D', f', h1, h2, h3, h4, h5⟩ := HN.out
                  exact ⟨n, D', f', h1, h2, h3, h4, h5.below hb⟩)
                clear hb KH
                go_wp2_with fail
                go_meet
                exact ⟨rfl, HN.out⟩
          case rest =>
            obtain ⟨rfl, now', D', fs', hnow', hD', hq', hep', hdu'⟩ := hcut
            have hql' := wq_le D'
            have HN := hide (show ∀ V, Below wc.heap.size wc V → EyRel W g1 g2 l.length (.int .i64 ((i : Int) + 1)) V from fun V hV => ⟨i + 1, by omega, by go_num, now', D', fs', hnow', hD', hq', hep', hdu'.below hV⟩)
            have CC := hide (fun V (h : Below wc.heap.size wc V) => (hdu'.below h).ln.now.1)
            have K1 := hide (fun V (h : Below wc.heap.size wc V) => znow_any (hdu'.below h).ez)
            have K2 := hide (fun V (h : Below wc.heap.size wc V) => zwait_any (by omega) (hdu'.below h).ez)
            have K3 := hide (fun V (h : Below wc.heap.size wc V) => nwait_any g2 now' D' fs' (by omega) V (hdu'.below h).ln)
            rw [wq_fst] at K2
            have hol : (wt D').length ≤ 1000000 := Nat.le_trans (wt_le D') (by omega)
            have hS0 := CC.out _ (Below.refl _ _)
            have q1 : ((now' : Int) != (now' : Int)) = false := by simp
            clear hq' hep' hdu' x0 x1 x2
            generalize wt D' = out at *
            apply_assumption
            go_wp2_with fail
            go_region_held3 (fun w' => w'.cell? ⟨g2, 0, none⟩ = some (.int .i64 (now' : Int)))
              (first | with_reducible exact hS4 | with_reducible exact hS3 | with_reducible exact hS2 | with_reducible exact hS1 | with_reducible exact hS0 | go_keep)
              (first
                | (go_at_call 16
                   (with_reducible refine (K1.out _ ?hz).mono ?_)
                   case hz => exact (Below.refl wc.heap.size wc).drew
                   rintro e wa ⟨rfl, hb⟩
                   have Za := hide (show Below wc.heap.size wc wa from ⟨hb.os, hb.tape, hb.output, hb.size, hb.block⟩)
                   have hS1 := CC.out _ Za.out
                   clear hb)
                | (go_at_call 17
                   (with_reducible refine (K2.out _ Za.out).mono ?_)
                   rintro e wb ⟨vb, rfl, hown, hb⟩
                   obtain ⟨ab, cb, rfl, hO⟩ := hown.hs
                   have Zb := hide (Za.out.trans (hb.mono Za.out.size))
                   have hS2 := CC.out _ Zb.out
                   have Ob := hide hO
                   clear hb hown hO)
                | (go_at_call 18
                   (with_reducible refine (K3.out _ Zb.out).mono ?_)
                   rintro e wd ⟨vd, rfl, hown, hb⟩
                   obtain ⟨ad, cd, rfl, hO⟩ := hown.hs
                   have Zd := hide (Zb.out.trans (hb.mono Zb.out.size))
                   have hS3 := CC.out _ Zd.out
                   have Od := hide hO
                   have Ob2 := hide (Ob.out.below hb)
                   clear hb hown hO)
                | (go_at_call 15
                   (with_reducible refine (handles_same hol Ob2.out Od.out).mono ?_)
                   rintro e we ⟨rfl, hb⟩
                   have Ze := hide (Zd.out.trans (hb.mono Zd.out.size))
                   have hS4 := CC.out _ Ze.out
                   clear hb))
            have HN2 := hide (HN.out _ Ze.out)
            clear hS0 hS1 hS2 hS3 hS4 K1 K2 K3 CC HN Ob Ob2 Od
            go_wp2_with fail
            go_roundw
            case rel => simpa using HN2.out
            case measure => simp [intOf]; omega
    · obtain rfl : i = l.length := by omega
      go_wp2_with fail
      go_ret
      exact ⟨rfl, BW.out⟩
end Go.Proofs.Ytbfbnfnjjlibbaa
