/-
  A draft's node is lifted over the one above it, from the left. Conditions: the draft is in memory, the trees lie and aren't too high.
-/
import Derived.Test.YtcckamajiebgeaaROpen
import Derived.Test.YtcckamajiebgeaaRClose
namespace Go.Proofs.Ytcckamajiebgeaa
open Go.RowKit
set_option linter.unusedVariables false
set_option linter.unusedSimpArgs false
set_option maxRecDepth 100000
open Dt

/-- What lift leaves. -/
def LfRet0 (w0 : World) (gm gd : Nat) (gn : List (Int × Int)) (fs : List Nat) (p : Nat) (k v : Int) (h : Nat) (l r : Dt) (w : World) (e : Ending) (w' : World) : Prop :=
  ∃ q k' v' h' a b op fs', e = .returned (.pointer (some ⟨q, 0, none⟩)) ∧ Opn w.heap.size l q k' v' h' a b op ∧ Stp w0 gm gd gn fs (new p k v h l r).fp w w' (gn ++ op) fs' ∧ DIn w0.heap.size w' (new q k' v' h' a (new p k v (1 + max b.high r.high) b r))
theorem lift0_fin {w0 w w1 w2 w3 w4 : World} {gm gd : Nat} {gn op : List (Int × Int)} {fs fs' : List Nat} {p : Nat} {k v : Int} {h : Nat} {l r : Dt} {q : Nat} {k' v' : Int} {h' : Nat} {a b : Dt} (hd : DIn w0.heap.size w (new p k v h l r))
    (O : Opn w.heap.size l q k' v' h' a b op) (S1 : Stp w0 gm gd gn fs [] w w1 (gn ++ op) fs') (D1 : DIn w0.heap.size w1 (new q k' v' h' a b)) (M2 : Mod [p] w1 w2) (F2 : Fb w2 p k v b.bv r.bv h) :
    (Stp w0 gm gd (gn ++ op) fs' [p] w1 w2 (gn ++ op) fs' ∧ DIn w0.heap.size w2 b ∧ DIn w0.heap.size w2 r ∧ Fb w2 p k v b.bv r.bv h) ∧
    (Stp w0 gm gd (gn ++ op) fs' [p] w2 w3 (gn ++ op) fs' → Fb w3 p k v b.bv r.bv (1 + max b.high r.high) →
      Fb w3 q k' v' a.bv b.bv h' ∧ (Mod [q] w3 w4 → Fb w4 q k' v' a.bv (some p, 0, 0) h' → Stp w0 gm gd gn fs (new p k v h l r).fp w w4 (gn ++ op) fs' ∧ DIn w0.heap.size w4 (new q k' v' h' a (new p k v (1 + max b.high r.high) b r)))) := by
  obtain ⟨f1, f2, f3, f4, f5, f6, f7⟩ := hd
  obtain ⟨d1, d2, d3, d4, d5, d6, d7⟩ := D1
  have pl := f1.lt
  have ap := O.apart (x := p) f4 pl
  have ar : ∀ x ∈ r.fp, x ≠ q ∧ x ∉ a.fp ∧ x ∉ b.fp := fun x hx => O.apart ((fun x hx => (fun hl => f6 x hl hx)) x hx) (f3.lt hx)
  have g1 := S1.fb f1 (by simp)
  have gr := S1.din0 f3
  have S2 := Stp.of_mod S1.dr g1 f7 M2
  have sub : ∀ x ∈ q :: (a.fp ++ b.fp), x ∈ (new p k v h l r).fp ∨ w.heap.size ≤ x := fun x hx => (O.lens.2.2.2.2 x hx).imp_left fun hx => by simp [fp, hx]
  have hb2 := S2.din1 d3 ap.2.2
  have hr2 := S2.din1 gr f5
  refine ⟨⟨S2, hb2, hr2, F2⟩, fun S3 F3 => ?_⟩
  have ha2 := S2.din1 d2 ap.2.1
  have gq := S3.fb (S2.fb d1 (by simpa using ap.1.symm)) (by simpa using ap.1.symm)
  have ha3 := S3.din1 ha2 ap.2.1
  have hb3 := S3.din1 hb2 ap.2.2
  have hr3 := S3.din1 hr2 f5
  refine ⟨gq, fun M4 F4 => ?_⟩
  have S4 := Stp.of_mod S3.dr gq d7 M4
  have hq1 : q ∈ (new p k v h l r).fp ∨ w.heap.size ≤ q := sub q (by simp)
  have hp1 : p ∈ (new p k v h l r).fp := by simp [fp]
  refine ⟨((((S1.wider (ks' := (new p k v h l r).fp) (by simp)).trans S2 (by simp [hp1])).trans S3 (by simp [hp1])).trans S4 (by simpa using hq1)), ?_⟩
  have ha4 := S4.din1 ha3 d4
  have hb4 := S4.din1 hb3 d5
  have hr4 := S4.din1 hr3 (fun e => (ar q e).1 rfl)
  have hp4 := S4.fb F3 (by simpa using ap.1)
  exact ⟨F4, ha4, ⟨hp4, hb4, hr4, ap.2.2, f5, fun x hx hx2 => (ar x hx2).2.2 hx, f7⟩, d4, by simp only [fp, List.mem_cons, List.mem_append, not_or]; exact ⟨ap.1.symm, d5, fun e => (ar q e).1 rfl⟩, fun x hx => by simp only [fp, List.mem_cons, List.mem_append, not_or]; exact ⟨fun e => ap.2.1 (e ▸ hx), d6 x hx, fun e => (ar x e).2.1 hx⟩, d7⟩
set_option maxHeartbeats 2000000 in
theorem lift0_any {w0 w : World} {gm gd : Nat} {F : Int → Int → Option Nd} {gn : List (Int × Int)} {fs : List Nat} (C : Ctx w0 gm F) (hD : Dr w0 w gm gd gn fs) (hgn : gn.length ≤ 900) (p : Nat) (k v : Int) (h : Nat) (l r : Dt) (hd : DIn w0.heap.size w (new p k v h l r)) (il : l.Li F) (ir : r.Li F) (hn : l ≠ old .nil) (hs : l.Sm) (hr : r.high ≤ 1000) :
    Calls Try.prog 51 #[.pointer (some ⟨gd, 0, none⟩), .pointer (some ⟨p, 0, none⟩), .int .i64 0] w (LfRet0 w0 gm gd gn fs p k v h l r w) := by
  have K1 := hide (open_any C hD hgn l hd.2.1 il hn)
  obtain ⟨-, -, z2, z3, z4, z5, z6, z7, -⟩ := hd.1.nine
  have HDI := hide hd
  have HIL := hide il
  have HIR := hide ir
  have HSM := hide hs
  have HHR := hide hr
  have HC := hide C
  clear hD hd il ir hs hr C hn
  unfold bvv at K1
  obtain ⟨bo, hbo⟩ : ∃ u, l.bv = u := ⟨_, rfl⟩
  rw [hbo] at K1 z2 z3 z4
  clear hbo
  obtain ⟨xo, xs, xt⟩ := bo
  unfold pv at K1 z2
  simp only at K1 z2
  generalize (xo.map fun q => (⟨q, 0, none⟩ : Addr)) = mo at *
  go_enter Try.func51, Try.ntmps51
  go_wp2_with fail
  refine K1.out.mono ?_
  rintro e w1 ⟨q, k', v', h', a, b, op, fs', rfl, O, S1, D1⟩
  have HO := hide O
  have HS1 := hide S1
  have HD1 := hide D1
  have hpq : p ≠ q := (O.apart HDI.out.2.2.2.1 HDI.out.1.lt).1
  obtain ⟨-, -, y2, y3, y4, y5, y6, y7, -⟩ := D1.1.nine
  have g1 := S1.fb HDI.out.1 (by simp)
  obtain ⟨-, -, z2, z3, z4, z5, z6, z7, -⟩ := g1.nine
  have fp2 := g1.fz 2
  have fp3 := g1.fz 3
  have fp4 := g1.fz 4
  have HG1 := hide g1
  have F2 := hide (g1.setL b.bv)
  have M2 := hide (mod3 w1 p 2 3 4 (pv b.bv.1) (.int .i64 b.bv.2.1) (.int .i64 b.bv.2.2))
  clear O S1 D1 K1 g1
  obtain ⟨bi, hbi⟩ : ∃ u, b.bv = u := ⟨_, rfl⟩
  have HBI := hide hbi
  rw [hbi] at y5 y6 y7 F2 M2
  clear hbi
  obtain ⟨io, iss, it⟩ := bi
  unfold pv at F2 M2 z2 z5 y2 y5
  simp only at y5 y6 y7 F2 M2 z2 z5 y2 y5
  generalize hmi : (io.map fun q => (⟨q, 0, none⟩ : Addr)) = mi at *
  go_upto_region 2 with (fail)
  go_region
  have LF := hide (fun (w3 w4 : World) => lift0_fin (w3 := w3) (w4 := w4) (w2 := (((w1.setCell ⟨p, 2, none⟩ (.pointer mi)).setCell ⟨p, 3, none⟩ (.int .i64 iss)).setCell ⟨p, 4, none⟩ (.int .i64 it)).drew.drew) HDI.out HO.out HS1.out HD1.out M2.out.drew.drew (by rw [HBI.out]; exact F2.out))
  have hop := HO.out.sm HSM.out
  have hoi := HO.out.li HIL.out
  clear z2 z3 z4 z5 z6 z7 y2 y3 y4 y5 y6 y7 fp2 fp3 fp4 hmi M2 F2 HBI HG1
  generalize (World.setCell (World.setCell (World.setCell w1 _ _) _ _) _ _).drew = w2 at *
  have K3 := hide (close_any HC.out (LF.out w w).1.1.dr p k v h b r (LF.out w w).1.2.2.2 (LF.out w w).1.2.1 (LF.out w w).1.2.2.1 hoi.2 HIR.out ⟨hop.2, HHR.out⟩ HDI.out.2.2.2.2.2.2)
  have tr : True := trivial
  have wz0 : IntKind.i64.wrap 1 = 1 := by decide
  have wz1 : IntKind.i64.wrap 0 = 0 := by decide
  have wz2 : IntKind.i64.wrap (1 - 0) = 1 := by decide
  have wz3 : IntKind.i64.wrap (1 - 1) = 0 := by decide
  clear hop hoi
  go_wp2_with fail
  go_region_held3 (fun w' => w'.heap.size = w'.heap.size)
    (first | rfl | with_reducible exact rfl | go_keep)
    (first
      | (with_reducible refine K3.out.mono ?_
         rintro e w3 ⟨rfl, S3, F3⟩
         obtain ⟨gq, KF⟩ := (LF.out w3 (((w3.setCell ⟨q, 5, none⟩ (.pointer (some ⟨p, 0, none⟩))).setCell ⟨q, 6, none⟩ (.int .i64 0)).setCell ⟨q, 7, none⟩ (.int .i64 0))).2 S3 F3
         obtain ⟨-, -, x2, x3, x4, x5, x6, x7, -⟩ := gq.nine
         have fq2 := gq.fz 5
         have fq3 := gq.fz 6
         have fq4 := gq.fz 7
         have KE := hide (KF (mod3 w3 q 5 6 7 _ _ _) (gq.setR (some p, 0, 0)))
         clear KF S3 F3 gq
         unfold bvv pv
         unfold pv at x2 x5
         simp only [Option.map_some] at x2 x5 ⊢))
  go_wp2
  go_ret
  exact ⟨q, k', v', h', a, b, op, fs', rfl, HO.out, KE.out.1, KE.out.2⟩
end Go.Proofs.Ytcckamajiebgeaa
