/-
  A draft's node is lifted over the one above it, from the right. Conditions: the draft is in memory, the trees lie and aren't too high.
-/
import Derived.Test.YtcckamajiebgeaaROpen
import Derived.Test.YtcckamajiebgeaaRClose
namespace Go.Proofs.Ytcckamajiebgeaa
open Go.RowKit
set_option linter.unusedVariables false
set_option linter.unusedSimpArgs false
set_option maxRecDepth 100000
open Dt

/-- What lift leaves. -/
def LfRet1 (w0 : World) (gm gd : Nat) (gn : List (Int × Int)) (fs : List Nat) (p : Nat) (k v : Int) (h : Nat) (l r : Dt) (w : World) (e : Ending) (w' : World) : Prop :=
  ∃ q k' v' h' a b op fs', e = .returned (.pointer (some ⟨q, 0, none⟩)) ∧ Opn w.heap.size r q k' v' h' a b op ∧ Stp w0 gm gd gn fs (new p k v h l r).fp w w' (gn ++ op) fs' ∧ DIn w0.heap.size w' (new q k' v' h' (new p k v (1 + max l.high a.high) l a) b)
theorem lift1_fin {w0 w w1 w2 w3 w4 : World} {gm gd : Nat} {gn op : List (Int × Int)} {fs fs' : List Nat} {p : Nat} {k v : Int} {h : Nat} {l r : Dt} {q : Nat} {k' v' : Int} {h' : Nat} {a b : Dt} (hd : DIn w0.heap.size w (new p k v h l r))
    (O : Opn w.heap.size r q k' v' h' a b op) (S1 : Stp w0 gm gd gn fs [] w w1 (gn ++ op) fs') (D1 : DIn w0.heap.size w1 (new q k' v' h' a b)) (M2 : Mod [p] w1 w2) (F2 : Fb w2 p k v l.bv a.bv h) :
    (Stp w0 gm gd (gn ++ op) fs' [p] w1 w2 (gn ++ op) fs' ∧ DIn w0.heap.size w2 l ∧ DIn w0.heap.size w2 a ∧ Fb w2 p k v l.bv a.bv h) ∧
    (Stp w0 gm gd (gn ++ op) fs' [p] w2 w3 (gn ++ op) fs' → Fb w3 p k v l.bv a.bv (1 + max l.high a.high) →
      Fb w3 q k' v' a.bv b.bv h' ∧ (Mod [q] w3 w4 → Fb w4 q k' v' (some p, 0, 0) b.bv h' → Stp w0 gm gd gn fs (new p k v h l r).fp w w4 (gn ++ op) fs' ∧ DIn w0.heap.size w4 (new q k' v' h' (new p k v (1 + max l.high a.high) l a) b))) := by
  obtain ⟨f1, f2, f3, f4, f5, f6, f7⟩ := hd
  obtain ⟨d1, d2, d3, d4, d5, d6, d7⟩ := D1
  have pl := f1.lt
  have ap := O.apart (x := p) f5 pl
  have ar : ∀ x ∈ l.fp, x ≠ q ∧ x ∉ a.fp ∧ x ∉ b.fp := fun x hx => O.apart ((fun x hx => f6 x hx) x hx) (f2.lt hx)
  have g1 := S1.fb f1 (by simp)
  have gr := S1.din0 f2
  have S2 := Stp.of_mod S1.dr g1 f7 M2
  have sub : ∀ x ∈ q :: (a.fp ++ b.fp), x ∈ (new p k v h l r).fp ∨ w.heap.size ≤ x := fun x hx => (O.lens.2.2.2.2 x hx).imp_left fun hx => by simp [fp, hx]
  have hb2 := S2.din1 d2 ap.2.1
  have hr2 := S2.din1 gr f4
  refine ⟨⟨S2, hr2, hb2, F2⟩, fun S3 F3 => ?_⟩
  have ha2 := S2.din1 d3 ap.2.2
  have gq := S3.fb (S2.fb d1 (by simpa using ap.1.symm)) (by simpa using ap.1.symm)
  have ha3 := S3.din1 ha2 ap.2.2
  have hb3 := S3.din1 hb2 ap.2.1
  have hr3 := S3.din1 hr2 f4
  refine ⟨gq, fun M4 F4 => ?_⟩
  have S4 := Stp.of_mod S3.dr gq d7 M4
  have hq1 : q ∈ (new p k v h l r).fp ∨ w.heap.size ≤ q := sub q (by simp)
  have hp1 : p ∈ (new p k v h l r).fp := by simp [fp]
  refine ⟨((((S1.wider (ks' := (new p k v h l r).fp) (by simp)).trans S2 (by simp [hp1])).trans S3 (by simp [hp1])).trans S4 (by simpa using hq1)), ?_⟩
  have ha4 := S4.din1 ha3 d5
  have hb4 := S4.din1 hb3 d4
  have hr4 := S4.din1 hr3 (fun e => (ar q e).1 rfl)
  have hp4 := S4.fb F3 (by simpa using ap.1)
  exact ⟨F4, ⟨hp4, hr4, hb4, f4, ap.2.1, fun x hx hx2 => (ar x hx).2.1 hx2, f7⟩, ha4, by simp only [fp, List.mem_cons, List.mem_append, not_or]; exact ⟨ap.1.symm, fun e => (ar q e).1 rfl, d4⟩, d5, fun x hx hx2 => by simp only [fp, List.mem_cons, List.mem_append] at hx; rcases hx with e | hx | hx; exact ap.2.2 (e ▸ hx2); exact (ar x hx).2.2 hx2; exact d6 x hx hx2, d7⟩
set_option maxHeartbeats 2000000 in
theorem lift1_any {w0 w : World} {gm gd : Nat} {F : Int → Int → Option Nd} {gn : List (Int × Int)} {fs : List Nat} (C : Ctx w0 gm F) (hD : Dr w0 w gm gd gn fs) (hgn : gn.length ≤ 900) (p : Nat) (k v : Int) (h : Nat) (l r : Dt) (hd : DIn w0.heap.size w (new p k v h l r)) (il : l.Li F) (ir : r.Li F) (hn : r ≠ old .nil) (hs : r.Sm) (hr : l.high ≤ 1000) :
    Calls Try.prog 51 #[.pointer (some ⟨gd, 0, none⟩), .pointer (some ⟨p, 0, none⟩), .int .i64 1] w (LfRet1 w0 gm gd gn fs p k v h l r w) := by
  have K1 := hide (open_any C hD hgn r hd.2.2.1 ir hn)
  obtain ⟨-, -, z2, z3, z4, z5, z6, z7, -⟩ := hd.1.nine
  have HDI := hide hd
  have HIL := hide il
  have HIR := hide ir
  have HSM := hide hs
  have HHR := hide hr
  have HC := hide C
  clear hD hd il ir hs hr C hn
  unfold bvv at K1
  obtain ⟨bo, hbo⟩ : ∃ u, r.bv = u := ⟨_, rfl⟩
  rw [hbo] at K1 z5 z6 z7
  clear hbo
  obtain ⟨xo, xs, xt⟩ := bo
  unfold pv at K1 z5
  simp only at K1 z5
  generalize (xo.map fun q => (⟨q, 0, none⟩ : Addr)) = mo at *
  go_enter Try.func51, Try.ntmps51
  go_wp2_with fail
  refine K1.out.mono ?_
  rintro e w1 ⟨q, k', v', h', a, b, op, fs', rfl, O, S1, D1⟩
  have HO := hide O
  have HS1 := hide S1
  have HD1 := hide D1
  have hpq : p ≠ q := (O.apart HDI.out.2.2.2.2.1 HDI.out.1.lt).1
  obtain ⟨-, -, y2, y3, y4, y5, y6, y7, -⟩ := D1.1.nine
  have g1 := S1.fb HDI.out.1 (by simp)
  obtain ⟨-, -, z2, z3, z4, z5, z6, z7, -⟩ := g1.nine
  have fp2 := g1.fz 5
  have fp3 := g1.fz 6
  have fp4 := g1.fz 7
  have HG1 := hide g1
  have F2 := hide (g1.setR a.bv)
  have M2 := hide (mod3 w1 p 5 6 7 (pv a.bv.1) (.int .i64 a.bv.2.1) (.int .i64 a.bv.2.2))
  clear O S1 D1 K1 g1
  obtain ⟨bi, hbi⟩ : ∃ u, a.bv = u := ⟨_, rfl⟩
  have HBI := hide hbi
  rw [hbi] at y2 y3 y4 F2 M2
  clear hbi
  obtain ⟨io, iss, it⟩ := bi
  unfold pv at F2 M2 z2 z5 y2 y5
  simp only at y2 y3 y4 F2 M2 z2 z5 y2 y5
  generalize hmi : (io.map fun q => (⟨q, 0, none⟩ : Addr)) = mi at *
  go_upto_region 2 with (fail)
  go_region
  have LF := hide (fun (w3 w4 : World) => lift1_fin (w3 := w3) (w4 := w4) (w2 := (((w1.setCell ⟨p, 5, none⟩ (.pointer mi)).setCell ⟨p, 6, none⟩ (.int .i64 iss)).setCell ⟨p, 7, none⟩ (.int .i64 it)).drew.drew) HDI.out HO.out HS1.out HD1.out M2.out.drew.drew (by rw [HBI.out]; exact F2.out))
  have hop := HO.out.sm HSM.out
  have hoi := HO.out.li HIR.out
  clear z2 z3 z4 z5 z6 z7 y2 y3 y4 y5 y6 y7 fp2 fp3 fp4 hmi M2 F2 HBI HG1
  generalize (World.setCell (World.setCell (World.setCell w1 _ _) _ _) _ _).drew = w2 at *
  have K3 := hide (close_any HC.out (LF.out w w).1.1.dr p k v h l a (LF.out w w).1.2.2.2 (LF.out w w).1.2.1 (LF.out w w).1.2.2.1 HIL.out hoi.1 ⟨HHR.out, hop.1⟩ HDI.out.2.2.2.2.2.2)
  have tr : True := trivial
  have wz0 : IntKind.i64.wrap 1 = 1 := by decide
  have wz1 : IntKind.i64.wrap 0 = 0 := by decide
  have wz2 : IntKind.i64.wrap (1 - 0) = 1 := by decide
  have wz3 : IntKind.i64.wrap (1 - 1) = 0 := by decide
  clear hop hoi
  go_wp2_with fail
  go_region_held3 (fun w' => w'.heap.size = w'.heap.size)
    (first | rfl | with_reducible exact rfl | go_keep)
    (first
      | (with_reducible refine K3.out.mono ?_
         rintro e w3 ⟨rfl, S3, F3⟩
         obtain ⟨gq, KF⟩ := (LF.out w3 (((w3.setCell ⟨q, 2, none⟩ (.pointer (some ⟨p, 0, none⟩))).setCell ⟨q, 3, none⟩ (.int .i64 0)).setCell ⟨q, 4, none⟩ (.int .i64 0))).2 S3 F3
         obtain ⟨-, -, x2, x3, x4, x5, x6, x7, -⟩ := gq.nine
         have fq2 := gq.fz 2
         have fq3 := gq.fz 3
         have fq4 := gq.fz 4
         have KE := hide (KF (mod3 w3 q 2 3 4 _ _ _) (gq.setL (some p, 0, 0)))
         clear KF S3 F3 gq
         unfold bvv pv
         unfold pv at x2 x5
         simp only [Option.map_some] at x2 x5 ⊢))
  go_wp2
  go_ret
  exact ⟨q, k', v', h', a, b, op, fs', rfl, HO.out, KE.out.1, KE.out.2⟩
end Go.Proofs.Ytcckamajiebgeaa
