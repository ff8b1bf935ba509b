/-
  A draft's node is balanced. Conditions: the draft is in memory, both sides are trees as they must be, of which one is two higher at most.
-/
import Derived.Test.YtcckamajiebgeaaRTurn0
import Derived.Test.YtcckamajiebgeaaRTurn1
namespace Go.Proofs.Ytcckamajiebgeaa
open Go.RowKit
set_option linter.unusedVariables false
set_option linter.unusedSimpArgs false
set_option maxRecDepth 100000
open Dt

/-- What balance leaves. -/
def BlRet (F : Int → Int → Option Nd) (w0 : World) (gm gd : Nat) (gn : List (Int × Int)) (fs : List Nat) (p : Nat) (k v : Int) (h : Nat) (l r : Dt) (w : World) (e : Ending) (w' : World) : Prop :=
  ∃ d op fs', e = .returned (bvv d.bv) ∧ TnPost F w0 gm gd gn fs (new p k v h l r) w w' (max l.high r.high) d op fs' ∧ (l.high ≤ r.high + 1 → r.high ≤ l.high + 1 → d.high = 1 + max l.high r.high)
theorem bl_close {F : Int → Int → Option Nd} {w0 : World} {gm gd : Nat} {gn : List (Int × Int)} {fs : List Nat} {p : Nat} {k v : Int} {h : Nat} {l r : Dt} {w w' : World} (hd : DIn w0.heap.size w (new p k v h l r)) (il : l.Ok F) (ir : r.Ok F) (h1 : l.high ≤ r.high + 1) (h2 : r.high ≤ l.high + 1)
    (S : Stp w0 gm gd gn fs [p] w w' gn fs) (B : Fb w' p k v l.bv r.bv (1 + max l.high r.high)) : TnPost F w0 gm gd gn fs (new p k v h l r) w w' (max l.high r.high) (new p k v (1 + max l.high r.high) l r) [] fs := by
  obtain ⟨f1, f2, f3, f4, f5, f6, f7⟩ := hd
  refine ⟨by rw [List.append_nil]; exact S.wider (by simp [fp]), ⟨B, S.din1 f2 f4, S.din1 f3 f5, f4, f5, f6, f7⟩, ⟨⟨rfl, h1, h2, il, ir⟩, rfl, by simp [Dt.olds], fun x hx => .inl hx⟩, by simp [Dt.cnt], by simp, ?_, fun T e => by cases e⟩
  simp only [Dt.hnew]
  omega
def BlRel (l r : Dt) (w1 : World) (vi : Value) (w : World) : Prop := ∃ i : Nat, i ≤ 2 ∧ vi = .int .i64 (i : Int) ∧ Below w1.heap.size w1 w ∧ (1 ≤ i → l.high ≤ r.high + 1) ∧ (2 ≤ i → r.high ≤ l.high + 1)
set_option maxHeartbeats 4000000 in
theorem balance_any {w0 w : World} {gm gd : Nat} {F : Int → Int → Option Nd} {gn : List (Int × Int)} {fs : List Nat} (C : Ctx w0 gm F) (hD : Dr w0 w gm gd gn fs) (hgn : gn.length ≤ 890) (p : Nat) (k v : Int) (h : Nat) (l r : Dt) (hd : DIn w0.heap.size w (new p k v h l r)) (il : l.Ok F) (ir : r.Ok F) (h1 : l.high ≤ r.high + 2) (h2 : r.high ≤ l.high + 2) (hb : l.high ≤ 890 ∧ r.high ≤ 890) :
    Calls Try.prog 42 #[.pointer (some ⟨gd, 0, none⟩), .pointer (some ⟨p, 0, none⟩)] w (BlRet F w0 gm gd gn fs p k v h l r w) := by
  have D := (Below.refl w.heap.size w).alloc (Nat.le_refl _) (.cells #[.pointer none, .int .i64 0, .int .i64 0] 76)
  have X := hide (show Bxb (w.alloc (.cells #[.pointer none, .int .i64 0, .int .i64 0] 76)) w.heap.size (none, 0, 0) from Bxb.new w (none, 0, 0))
  have HW := hide (fun (W w' : World) (m : Nat) (d : Dt) (op : List (Int × Int)) (fs' : List Nat) (hW : Below w.heap.size w W) (H : TnPost F w0 gm gd gn fs (new p k v h l r) W w' m d op fs') => H.weak hD hW)
  have B := hide D
  have HD1 := hide (hD.below D)
  have HDI := hide (hd.below D)
  have HIL := hide il
  have HIR := hide ir
  have HC := hide C
  have HHH := hide (And.intro h1 (And.intro h2 hb))
  clear D hD hd C il ir h1 h2 hb
  go_enter Try.func42, Try.ntmps42
  go_upto_region 1 with (fail)
  obtain ⟨kx, hkx⟩ : ∃ q, w.heap.size = q := ⟨_, rfl⟩
  have HKX := hide (Nat.le_of_eq hkx)
  rw [hkx] at X ⊢
  clear hkx
  generalize w.alloc (.cells #[.pointer none, .int .i64 0, .int .i64 0] 76) = w1 at *
  have HXN := hide (HDI.out.nobox X.out)
  have KA := hide (fun (V : World) (hV : Below w1.heap.size w1 V) => high_any HC.out (HD1.out.below hV) l (HDI.out.2.1.below hV) HIL.out.li)
  have KB := hide (fun (V : World) (hV : Below w1.heap.size w1 V) => high_any HC.out (HD1.out.below hV) r (HDI.out.2.2.1.below hV) HIR.out.li)
  have KC := hide (fun (V : World) (hV : Below w1.heap.size w1 V) => (HDI.out.below hV).1.nine)
  have KT0 := hide (fun (V : World) (hV : Below w1.heap.size w1 V) (e : l.high = r.high + 2) => turn0_any HC.out (HD1.out.below hV) hgn p k v h l r (HDI.out.below hV) HIL.out HIR.out e (by have := HHH.out; omega))
  have KT1 := hide (fun (V : World) (hV : Below w1.heap.size w1 V) (e : r.high = l.high + 2) => turn1_any HC.out (HD1.out.below hV) hgn p k v h l r (HDI.out.below hV) HIL.out HIR.out e (by have := HHH.out; omega))
  have KL := hide (fun (V : World) (hV : Below w1.heap.size w1 V) => close_any HC.out (HD1.out.below hV) p k v h l r (HDI.out.below hV).1 (HDI.out.2.1.below hV) (HDI.out.2.2.1.below hV) HIL.out.li HIR.out.li (by have := HHH.out; omega) HDI.out.2.2.2.2.2.2)
  obtain ⟨ba, hba⟩ : ∃ u, l.bv = u := ⟨_, rfl⟩
  obtain ⟨bb, hbb⟩ : ∃ u, r.bv = u := ⟨_, rfl⟩
  unfold bvv at KA KB
  rw [hba] at KA KC
  rw [hbb] at KB KC
  clear hba hbb
  obtain ⟨ao, sa, ta⟩ := ba
  obtain ⟨bo, sb, tb⟩ := bb
  unfold pv at KA KB KC
  simp only at KA KB KC
  generalize (ao.map fun q => (⟨q, 0, none⟩ : Addr)) = ma at *
  generalize (bo.map fun q => (⟨q, 0, none⟩ : Addr)) = mb at *
  have A2 := hide (fun (V : World) (hV : Below w1.heap.size w1 V) => show V.cell? ⟨p, 2, none⟩ = some (.pointer ma) ∧ V.cell? ⟨p, 3, none⟩ = some (.int .i64 sa) ∧ V.cell? ⟨p, 4, none⟩ = some (.int .i64 ta) ∧ V.cell? ⟨p, 5, none⟩ = some (.pointer mb) ∧ V.cell? ⟨p, 6, none⟩ = some (.int .i64 sb) ∧ V.cell? ⟨p, 7, none⟩ = some (.int .i64 tb) from by
    obtain ⟨-, -, y2, y3, y4, y5, y6, y7, -⟩ := KC.out _ hV
    exact ⟨y2, y3, y4, y5, y6, y7⟩)
  obtain ⟨ha, hha⟩ : ∃ u, l.high = u := ⟨_, rfl⟩
  obtain ⟨hb, hhb⟩ : ∃ u, r.high = u := ⟨_, rfl⟩
  have HHA := hide hha
  have HHB := hide hhb
  rw [hha] at KA
  rw [hhb] at KB
  have hbd : ha ≤ 890 ∧ hb ≤ 890 ∧ ha ≤ hb + 2 ∧ hb ≤ ha + 2 := by have := HHH.out; omega
  clear hha hhb
  have wz0 : IntKind.i64.wrap 1 = 1 := by decide
  have wz1 : IntKind.i64.wrap 0 = 0 := by decide
  have wz2 : IntKind.i64.wrap (1 - 0) = 1 := by decide
  have wz3 : IntKind.i64.wrap (1 - 1) = 0 := by decide
  have wA : IntKind.i64.wrap ((hb : Int) + 1) = (hb : Int) + 1 := wrap_in _ (by omega) (by omega)
  have wB : IntKind.i64.wrap ((ha : Int) + 1) = (ha : Int) + 1 := wrap_in _ (by omega) (by omega)
  have HBD := hide hbd
  clear hbd KC
  go_wp2_with fail
  go_loopw [6] (BlRel l r w1) (fun i _ => 2 - (intOf i).toNat)
  case atStart => exact ⟨0, by omega, rfl, Below.refl _ _, by omega, by omega⟩
  case round =>
    obtain ⟨i, hi, rfl, hB, e1, e2⟩ := hrel
    have BW := hide hB
    have HE := hide (And.intro e1 e2)
    have BD1 := hide (hB.trans ((Below.refl wr.heap.size wr).drew.mono hB.size))
    have z0 := A2.out wr hB
    clear hB e1 e2
    have hcs : i = 0 ∨ i = 1 ∨ i = 2 := by omega
    rcases hcs with rfl | rfl | rfl
    case inr.inr =>
      have hbal := HE.out
      go_wp2_with fail
      refine (KL.out _ BW.out).mono ?_
      rintro e w3 ⟨rfl, S3, F3⟩
      have PO := bl_close (HDI.out.below BW.out) HIL.out HIR.out (hbal.1 (by omega)) (hbal.2 (by omega)) S3 F3
      have X3 := hide (S3.boxed (X.out.below BW.out) (fun e => HXN.out (by rw [List.mem_singleton.1 e]; simp [fp])))
      have HPO := hide (HW.out _ _ _ _ _ _ (B.out.trans (BW.out.mono B.out.size)) PO)
      clear PO S3 F3 hbal z0 KA KB KT0 KT1 KL A2
      obtain ⟨b0, b1, b2⟩ := X3.out.three
      have g0 := X3.out.fz 0
      have g1 := X3.out.fz 1
      have g2 := X3.out.fz 2
      unfold pv at b0
      unfold bvv pv
      simp only [Option.map_none, Option.map_some] at b0 ⊢
      go_wp2_with fail
      refine bodyPost_ret (v := .agg #[.pointer (some ⟨p, 0, none⟩), .int .i64 0, .int .i64 0]) ?_ rfl ⟨_, _, _, rfl, HPO.out.box X3.out HKX.out _ _ _, fun _ _ => rfl⟩
      rw [results_one rfl]
      go_simp
    case inl =>
      have hcc : (ha > hb + 1 ∧ decide ((ha : Int) > (hb : Int) + 1) = true) ∨ (¬ ha > hb + 1 ∧ decide ((ha : Int) > (hb : Int) + 1) = false) := by
        by_cases hc : ha > hb + 1
        · exact .inl ⟨hc, decide_eq_true (by omega)⟩
        · exact .inr ⟨hc, decide_eq_false (by omega)⟩
      rcases hcc with ⟨hc, q0⟩ | ⟨hc, q0⟩
      all_goals
        have HCC := hide hc
        clear hc
        go_upto_region 4 with (fail)
        go_region_held3 (fun w' => w'.cell? ⟨p, 2, none⟩ = some (.pointer ma) ∧ w'.cell? ⟨p, 3, none⟩ = some (.int .i64 sa) ∧ w'.cell? ⟨p, 4, none⟩ = some (.int .i64 ta) ∧ w'.cell? ⟨p, 5, none⟩ = some (.pointer mb) ∧ w'.cell? ⟨p, 6, none⟩ = some (.int .i64 sb) ∧ w'.cell? ⟨p, 7, none⟩ = some (.int .i64 tb))
          (first | with_reducible exact hS2 | with_reducible exact hS1 | with_reducible exact z0 | go_keep)
          (first
            | (with_reducible refine (KA.out _ BD1.out).mono ?_
               rintro e w3 ⟨rfl, hb⟩
               have B3 := hide (BD1.out.trans (hb.mono BD1.out.size))
               have hS1 := A2.out _ B3.out
               clear hb)
            | (with_reducible refine (KB.out _ B3.out).mono ?_
               rintro e w4 ⟨rfl, hb⟩
               have B4 := hide (B3.out.trans (hb.mono B3.out.size))
               have hS2 := A2.out _ B4.out
               clear hb))
        clear z0 hS1 hS2 B3 BD1
      case' _ =>
        have KT := hide (KT0.out _ B4.out (by have := HCC.out; have := HBD.out; rw [HHA.out, HHB.out]; omega))
        have hc := HCC.out
        go_wp2_with fail
        refine KT.out.mono ?_
        rintro e w5 ⟨d, op, fs', rfl, PO⟩
        have X5 := hide (PO.S.boxed (X.out.below B4.out) HXN.out)
        have HPO := hide (HW.out _ _ _ _ _ _ (B.out.trans (B4.out.mono B.out.size)) PO)
        have HM := hide (show l.high = max l.high r.high by rw [HHA.out, HHB.out]; have := HCC.out; omega)
        have HNB := hide (show ¬ (l.high ≤ r.high + 1 ∧ r.high ≤ l.high + 1) by rw [HHA.out, HHB.out]; have := HCC.out; omega)
        clear PO KT KA KB KT0 KT1 KL A2 hc
        obtain ⟨b0, b1, b2⟩ := X5.out.three
        have g0 := X5.out.fz 0
        have g1 := X5.out.fz 1
        have g2 := X5.out.fz 2
        obtain ⟨bd, hbd⟩ : ∃ u, d.bv = u := ⟨_, rfl⟩
        have HBV := hide hbd
        rw [hbd]
        clear hbd
        obtain ⟨xo, xs, xt⟩ := bd
        unfold pv at b0
        unfold bvv pv
        simp only [Option.map_none] at b0 ⊢
        generalize hmx : (xo.map fun q => (⟨q, 0, none⟩ : Addr)) = mx
        have HMX := hide hmx
        clear hmx
        go_wp2_with fail
        refine bodyPost_ret (v := .agg #[.pointer mx, .int .i64 xs, .int .i64 xt]) ?_ rfl ⟨d, op, fs', by rw [HBV.out, ← HMX.out]; rfl, by rw [← HM.out]; exact HPO.out.box X5.out HKX.out _ _ _, fun e1 e2 => absurd ⟨e1, e2⟩ HNB.out⟩
        rw [results_one rfl]
        go_simp
      case' _ =>
        have hc := HCC.out
        have d1 : ¬ hb + 1 < ha := by omega
        go_wp2_with fail
        go_roundw
        case rel => exact ⟨1, by omega, by go_num, B4.out, by rw [HHA.out, HHB.out]; have := HE.out; rw [HHA.out, HHB.out] at this; omega, by rw [HHA.out, HHB.out]; have := HE.out; rw [HHA.out, HHB.out] at this; omega⟩
        case measure => simp [intOf]
    case inr.inl =>
      have hcc : (hb > ha + 1 ∧ decide ((hb : Int) > (ha : Int) + 1) = true) ∨ (¬ hb > ha + 1 ∧ decide ((hb : Int) > (ha : Int) + 1) = false) := by
        by_cases hc : hb > ha + 1
        · exact .inl ⟨hc, decide_eq_true (by omega)⟩
        · exact .inr ⟨hc, decide_eq_false (by omega)⟩
      rcases hcc with ⟨hc, q0⟩ | ⟨hc, q0⟩
      all_goals
        have HCC := hide hc
        clear hc
        go_upto_region 4 with (fail)
        go_region_held3 (fun w' => w'.cell? ⟨p, 2, none⟩ = some (.pointer ma) ∧ w'.cell? ⟨p, 3, none⟩ = some (.int .i64 sa) ∧ w'.cell? ⟨p, 4, none⟩ = some (.int .i64 ta) ∧ w'.cell? ⟨p, 5, none⟩ = some (.pointer mb) ∧ w'.cell? ⟨p, 6, none⟩ = some (.int .i64 sb) ∧ w'.cell? ⟨p, 7, none⟩ = some (.int .i64 tb))
          (first | with_reducible exact hS2 | with_reducible exact hS1 | with_reducible exact z0 | go_keep)
          (first
            | (with_reducible refine (KB.out _ BD1.out).mono ?_
               rintro e w3 ⟨rfl, hb⟩
               have B3 := hide (BD1.out.trans (hb.mono BD1.out.size))
               have hS1 := A2.out _ B3.out
               clear hb)
            | (with_reducible refine (KA.out _ B3.out).mono ?_
               rintro e w4 ⟨rfl, hb⟩
               have B4 := hide (B3.out.trans (hb.mono B3.out.size))
               have hS2 := A2.out _ B4.out
               clear hb))
        clear z0 hS1 hS2 B3 BD1
      case' _ =>
        have KT := hide (KT1.out _ B4.out (by have := HCC.out; have := HBD.out; rw [HHA.out, HHB.out]; omega))
        have hc := HCC.out
        go_wp2_with fail
        refine KT.out.mono ?_
        rintro e w5 ⟨d, op, fs', rfl, PO⟩
        have X5 := hide (PO.S.boxed (X.out.below B4.out) HXN.out)
        have HPO := hide (HW.out _ _ _ _ _ _ (B.out.trans (B4.out.mono B.out.size)) PO)
        have HM := hide (show r.high = max l.high r.high by rw [HHA.out, HHB.out]; have := HCC.out; omega)
        have HNB := hide (show ¬ (l.high ≤ r.high + 1 ∧ r.high ≤ l.high + 1) by rw [HHA.out, HHB.out]; have := HCC.out; omega)
        clear PO KT KA KB KT0 KT1 KL A2 hc
        obtain ⟨b0, b1, b2⟩ := X5.out.three
        have g0 := X5.out.fz 0
        have g1 := X5.out.fz 1
        have g2 := X5.out.fz 2
        obtain ⟨bd, hbd⟩ : ∃ u, d.bv = u := ⟨_, rfl⟩
        have HBV := hide hbd
        rw [hbd]
        clear hbd
        obtain ⟨xo, xs, xt⟩ := bd
        unfold pv at b0
        unfold bvv pv
        simp only [Option.map_none] at b0 ⊢
        generalize hmx : (xo.map fun q => (⟨q, 0, none⟩ : Addr)) = mx
        have HMX := hide hmx
        clear hmx
        go_wp2_with fail
        refine bodyPost_ret (v := .agg #[.pointer mx, .int .i64 xs, .int .i64 xt]) ?_ rfl ⟨d, op, fs', by rw [HBV.out, ← HMX.out]; rfl, by rw [← HM.out]; exact HPO.out.box X5.out HKX.out _ _ _, fun e1 e2 => absurd ⟨e1, e2⟩ HNB.out⟩
        rw [results_one rfl]
        go_simp
      case' _ =>
        have hc := HCC.out
        have d1 : ¬ ha + 1 < hb := by omega
        go_wp2_with fail
        go_roundw
        case rel => exact ⟨2, by omega, by go_num, B4.out, by rw [HHA.out, HHB.out]; have := HE.out; rw [HHA.out, HHB.out] at this; omega, by rw [HHA.out, HHB.out]; have := HE.out; rw [HHA.out, HHB.out] at this; omega⟩
        case measure => simp [intOf]
end Go.Proofs.Ytcckamajiebgeaa
