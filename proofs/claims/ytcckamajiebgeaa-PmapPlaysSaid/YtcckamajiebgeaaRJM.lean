/-
  What take leaves of a draft's branch; a call's results, plain. No conditions.
  A draft's outermost node on the left, and the branch without it. Conditions: the branch is an old tree that has nodes, as it must be, not too high; the draft is in memory.
  A draft's outermost node on the right, and the branch without it. Conditions: the branch is an old tree that has nodes, as it must be, not too high; the draft is in memory.
  Both sides of a draft's node as one branch. Conditions: the node was just opened, its sides are old trees as they must be, not too high; the draft is in memory.
-/
import Derived.Test.YtcckamajiebgeaaRPM
namespace Go.Proofs.Ytcckamajiebgeaa
open Go.RowKit
set_option linter.unusedVariables false
set_option linter.unusedSimpArgs false
set_option maxRecDepth 100000
open Dt

structure TkPost (F : Int → Int → Option Nd) (w0 : World) (gm gd : Nat) (gn : List (Int × Int)) (fs : List Nat) (T : Tr) (w w' : World) (q : Nat) (k' v' : Int) (bl br : Option Nat × Int × Int) (h' : Nat) (d : Dt) (op : List (Int × Int)) (fs' : List Nat) : Prop where
  S : Stp w0 gm gd gn fs [] w w' (gn ++ op) fs'
  B : Fb w' q k' v' bl br h'
  D : DIn w0.heap.size w' d
  qn : q ∉ d.fp
  q0 : w0.heap.size ≤ q ∧ w.heap.size ≤ q
  ok : d.Ok F
  olds : T.hds.Perm (d.olds ++ op)
  fp : ∀ k ∈ d.fp, w.heap.size ≤ k
  cnt : d.cnt + 1 = op.length
  len : op.length + 2 ≤ 3 * T.high
  lo : T.high ≤ d.high + 1
  hi : d.high ≤ T.high
theorem TkPost.weak {F : Int → Int → Option Nd} {w0 : World} {gm gd : Nat} {gn : List (Int × Int)} {fs : List Nat} {T : Tr} {w w1 w' : World} {q : Nat} {k' v' : Int} {bl br : Option Nat × Int × Int} {h' : Nat} {d : Dt} {op : List (Int × Int)} {fs' : List Nat} (H : TkPost F w0 gm gd gn fs T w1 w' q k' v' bl br h' d op fs') (hD : Dr w0 w gm gd gn fs) (hb : Below w.heap.size w w1) : TkPost F w0 gm gd gn fs T w w' q k' v' bl br h' d op fs' :=
  ⟨(Stp.of_below hD hb []).trans H.S (by simp), H.B, H.D, H.qn, ⟨H.q0.1, Nat.le_trans hb.size H.q0.2⟩, H.ok, H.olds, fun k hk => Nat.le_trans hb.size (H.fp k hk), H.cnt, H.len, H.lo, H.hi⟩
theorem TkPost.box {F : Int → Int → Option Nd} {w0 : World} {gm gd : Nat} {gn : List (Int × Int)} {fs : List Nat} {T : Tr} {w w' : World} {q : Nat} {k' v' : Int} {bl br : Option Nat × Int × Int} {h' : Nat} {d : Dt} {op : List (Int × Int)} {fs' : List Nat} (H : TkPost F w0 gm gd gn fs T w w' q k' v' bl br h' d op fs') {kx : Nat} {c : Option Nat × Int × Int} (hb : Bxb w' kx c) (hk : w.heap.size ≤ kx) (x y z : Value) : TkPost F w0 gm gd gn fs T w (((w'.setCell ⟨kx, 0, none⟩ x).setCell ⟨kx, 1, none⟩ y).setCell ⟨kx, 2, none⟩ z) q k' v' bl br h' d op fs' :=
  ⟨H.S.box hb hk x y z, H.B.box hb x y z, H.D.box hb x y z, H.qn, H.q0, H.ok, H.olds, H.fp, H.cnt, H.len, H.lo, H.hi⟩
theorem TkPost.below {F : Int → Int → Option Nd} {w0 : World} {gm gd : Nat} {gn : List (Int × Int)} {fs : List Nat} {T : Tr} {w w1 w' : World} {q : Nat} {k' v' : Int} {bl br : Option Nat × Int × Int} {h' : Nat} {d : Dt} {op : List (Int × Int)} {fs' : List Nat} (H : TkPost F w0 gm gd gn fs T w w1 q k' v' bl br h' d op fs') (hb : Below w1.heap.size w1 w') : TkPost F w0 gm gd gn fs T w w' q k' v' bl br h' d op fs' :=
  ⟨H.S.trans (Stp.of_below H.S.dr hb []) (by simp), H.B.below3 hb, H.D.below hb, H.qn, H.q0, H.ok, H.olds, H.fp, H.cnt, H.len, H.lo, H.hi⟩
/-- Behind balance: what was taken below, and the node. -/
theorem tk_bal {F : Int → Int → Option Nd} {w0 : World} {gm gd : Nat} {gn : List (Int × Int)} {fs : List Nat} {T : Tr} {w w7 w8 : World} {q : Nat} {k' v' : Int} {bl br : Option Nat × Int × Int} {h' : Nat} {d f : Dt} {opA op2 : List (Int × Int)} {fsA fs3 : List Nat} {m : Nat}
    (S1 : Stp w0 gm gd gn fs [] w w7 (gn ++ opA) fsA) (Bq : Fb w7 q k' v' bl br h') (qf : q ∉ f.fp) (q0 : w0.heap.size ≤ q ∧ w.heap.size ≤ q) (PB : TnPost F w0 gm gd (gn ++ opA) fsA f w7 w8 m d op2 fs3) (hO : T.hds.Perm (f.olds ++ opA)) (hfp : ∀ x ∈ f.fp, w.heap.size ≤ x) (hc : f.cnt + 1 = opA.length) (hl : opA.length + 4 ≤ 3 * T.high) (lo : T.high ≤ d.high + 1) (hi : d.high ≤ T.high) :
    TkPost F w0 gm gd gn fs T w w8 q k' v' bl br h' d (opA ++ op2) fs3 := by
  have h1 := PB.cnt
  have h2 := PB.len
  refine ⟨?_, PB.S.fb Bq qf, PB.D, fun e => ?_, q0, PB.g.ok, ?_, fun x hx => ?_, by simp; omega, by simp; omega, lo, hi⟩
  · rw [← List.append_assoc]
    exact S1.trans PB.S (fun x hx => .inr (hfp x hx))
  · rcases PB.g.fp q e with h | h
    · exact qf h
    · have := Bq.lt
      omega
  · have e1 := PB.g.olds
    rw [List.perm_iff_count] at hO e1 ⊢
    intro a
    have := hO a
    have := e1 a
    simp only [List.count_append] at *
    omega
  · rcases PB.g.fp x hx with h | h
    · exact hfp x h
    · exact Nat.le_trans S1.mod.size h
theorem results_tmp_cell {fn : Func} {t p : Tmp} {ty : TypeId} (h : fn.results = #[.tmp t, .cell p ty]) (tmps : Array Value) (P : Program) (w : World) :
    (results fn tmps).run P w = ((asAddr (tmps.getD p undef)).run P w).andThen fun a w₁ => ((loadVar ty a).run P w₁).andThen fun v w₂ => .ok (.tuple #[tmps.getD t undef, v]) w₂ := by
  simp only [results, h]
  simp [Sem.run_bind, Result.andThen]
end Go.Proofs.Ytcckamajiebgeaa
namespace Go.Proofs.Ytcckamajiebgeaa
open Go.RowKit
set_option linter.unusedVariables false
set_option linter.unusedSimpArgs false
set_option maxRecDepth 100000
open Dt

def TkRet0 (F : Int → Int → Option Nd) (w0 : World) (gm gd : Nat) (gn : List (Int × Int)) (fs : List Nat) (T : Tr) (w : World) (e : Ending) (w' : World) : Prop :=
  ∃ q k' v' bl br h' d op fs', e = .returned (.tuple #[.pointer (some ⟨q, 0, none⟩), bvv d.bv]) ∧ TkPost F w0 gm gd gn fs T w w' q k' v' bl br h' d op fs' ∧ T.prs = (k', v') :: d.prs
set_option maxHeartbeats 8000000 in
theorem take0_any {w0 : World} {gm gd : Nat} {F : Int → Int → Option Nd} (C : Ctx w0 gm F) : ∀ (T : Tr) (hT : T.Lies F) (hB : T.Bal) (hn : T ≠ .nil) (hh : T.high ≤ 200) {w : World} {gn : List (Int × Int)} {fs : List Nat} (hD : Dr w0 w gm gd gn fs) (hgn : gn.length + 3 * T.high ≤ 880),
    Calls Try.prog 48 #[.pointer (some ⟨gd, 0, none⟩), bvv (old T).bv, .int .i64 0] w (TkRet0 F w0 gm gd gn fs T w) := by
  intro T
  induction T with
  | nil =>
    intro hT hB hn
    exact absurd rfl hn
  | node g kx vx L R ihl ihr =>
    intro hT hB hn hh w gn fs hD hgn
    obtain ⟨D, X1, X2⟩ := two_box w (none, g.1, g.2)
    simp only [pv, Option.map_none] at D X1 X2
    have HX1 := hide X1
    have HX2 := hide X2
    have HW := hide (fun (W w' : World) (q : Nat) (k' v' : Int) (bl br : Option Nat × Int × Int) (h' : Nat) (d : Dt) (op : List (Int × Int)) (fs' : List Nat) (hW : Below w.heap.size w W) (H : TkPost F w0 gm gd gn fs (.node g kx vx L R) W w' q k' v' bl br h' d op fs') => H.weak hD hW)
    have B := hide D
    have HD1 := hide (hD.below D)
    simp only [Tr.high] at hgn hh
    have K1 := hide (open_old C HD1.out (by omega) g kx vx L R hT)
    have HC := hide C
    have HT := hide hT
    have HB := hide hB
    have HH := hide (And.intro hgn hh)
    have IHS := hide (show L ≠ .nil → ∀ (w : World) (gn : List (Int × Int)) (fs : List Nat), Dr w0 w gm gd gn fs → gn.length + 3 * L.high ≤ 880 → Calls Try.prog 48 #[.pointer (some ⟨gd, 0, none⟩), .agg #[.pointer none, .int .i64 L.root.1, .int .i64 L.root.2], .int .i64 0] w (TkRet0 F w0 gm gd gn fs L w) from
      fun hne w gn fs h1 h2 => ihl hT.2.2.2.2.1 hB.2.2.1 hne (by omega) h1 h2)
    clear D hD C X1 X2 hT hB hh hgn ihl ihr hn
    obtain ⟨gs, gt⟩ := g
    simp only at HX1 HX2 B HD1 HW
    change Hid (Calls _ _ #[.pointer (some ⟨gd, 0, none⟩), .agg #[.pointer none, .int .i64 gs, .int .i64 gt]] _ _) at K1
    change Calls _ _ #[.pointer (some ⟨gd, 0, none⟩), .agg #[.pointer none, .int .i64 gs, .int .i64 gt], .int .i64 0] _ _
    go_enter Try.func48, Try.ntmps48
    go_upto_region 1 with (fail)
    obtain ⟨kr, hkr⟩ : ∃ q, w.heap.size + 1 = q := ⟨_, rfl⟩
    obtain ⟨kb, hkb⟩ : ∃ q, w.heap.size = q := ⟨_, rfl⟩
    have HKX := hide (show w.heap.size ≤ kr by omega)
    rw [hkr] at HX2 ⊢
    rw [hkb] at HX1 ⊢
    clear hkr hkb
    generalize World.alloc (World.alloc w _) _ = w1 at *
    obtain ⟨x0, x1, x2⟩ := HX1.out.three
    unfold pv at x0
    simp only [Option.map_none] at x0 x1 x2
    go_wp2_with fail
    refine K1.out.mono ?_
    rintro e w2 ⟨p, k1, v1, h1, a, b, op, fs1, rfl, O, S1, D1⟩
    obtain ⟨rfl, rfl, rfl, rfl, rfl, rfl, hpp⟩ := O.old
    have HS1 := hide S1
    have HF := hide D1.1
    have HPP := hide (And.intro hpp D1.2.2.2.2.2.2)
    have X2 := hide (S1.boxed HX2.out (by simp))
    have KH := hide (show ∀ (V : World), Below w2.heap.size w2 V → Calls Try.prog 47 #[.pointer (some ⟨gd, 0, none⟩), .agg #[.pointer none, .int .i64 L.root.1, .int .i64 L.root.2]] V (IntRet .i64 L.high V) from fun V hV => high_any HC.out (HS1.out.dr.below hV) (old L) trivial (show Dt.Li F (old L) from HT.out.2.2.2.2.1))
    have KC := hide (fun (V : World) (hV : Below w2.heap.size w2 V) => show V.cell? ⟨p, 2, none⟩ = some (.pointer none) ∧ V.cell? ⟨p, 3, none⟩ = some (.int .i64 L.root.1) ∧ V.cell? ⟨p, 4, none⟩ = some (.int .i64 L.root.2) from ⟨cell_b hV HF.out.nine.2.2.1, cell_b hV HF.out.nine.2.2.2.1, cell_b hV HF.out.nine.2.2.2.2.1⟩)
    have KO := hide (fun (V : World) (hV : Below w2.heap.size w2 V) => show V.cell? ⟨p, 5, none⟩ = some (.pointer none) ∧ V.cell? ⟨p, 6, none⟩ = some (.int .i64 R.root.1) ∧ V.cell? ⟨p, 7, none⟩ = some (.int .i64 R.root.2) from ⟨cell_b hV HF.out.nine.2.2.2.2.2.1, cell_b hV HF.out.nine.2.2.2.2.2.2.1, cell_b hV HF.out.nine.2.2.2.2.2.2.2.1⟩)
    clear K1 x0 x1 x2 O S1 D1 hpp
    have z := KC.out w2 (Below.refl _ _)
    have BD := hide ((Below.refl w2.heap.size w2).drew)
    have hcs : (L.high = 0 ∧ ((L.high : Int) == 0) = true) ∨ (¬ L.high = 0 ∧ ((L.high : Int) == 0) = false) := by
      by_cases hc : L.high = 0
      · exact .inl ⟨hc, by rw [hc]; rfl⟩
      · exact .inr ⟨hc, by simp only [beq_eq_false_iff_ne, ne_eq]; omega⟩
    have wz0 : IntKind.i64.wrap 1 = 1 := by decide
    have wz1 : IntKind.i64.wrap 0 = 0 := by decide
    have wz2 : IntKind.i64.wrap (1 - 0) = 1 := by decide
    have wz3 : IntKind.i64.wrap (1 - 1) = 0 := by decide
    obtain ⟨hS, hhS⟩ : ∃ u, L.high = u := ⟨_, rfl⟩
    have HHS := hide hhS
    rw [hhS] at hcs KH
    clear hhS
    rcases hcs with ⟨hc, q0⟩ | ⟨hc, q0⟩
    all_goals
      have HCC := hide hc
      clear hc
      obtain ⟨c0, c1, c2⟩ := z
      go_wp2_with fail
      refine (KH.out _ (Below.refl _ _)).mono ?_
      rintro e w3 ⟨rfl, hb⟩
      have B3 := hide hb
      clear c0 c1 c2 hb BD KH
    case' _ =>
      have hc := HCC.out
      obtain ⟨o0, o1, o2⟩ := KO.out _ B3.out
      have X3 := hide (X2.out.below B3.out)
      obtain ⟨b0, b1, b2⟩ := X3.out.three
      have g0 := X3.out.fz 0
      have g1 := X3.out.fz 1
      have g2 := X3.out.fz 2
      unfold pv at b0
      simp only [Option.map_none] at b0 b1 b2
      have hne : p ≠ kr := box_ne X2.out HF.out (by decide)
      have S3 := hide (HS1.out.trans (Stp.of_below HS1.out.dr B3.out []) (by simp))
      have HNL := hide (show L = .nil from by
        have h1 := HHS.out
        rw [HCC.out] at h1
        cases hL : L with
        | nil => rfl
        | node _ _ _ _ _ => rw [hL] at h1; simp [Tr.high] at h1)
      have HPO := hide (HW.out w1 w3 p k1 v1 (old L).bv (old R).bv 0 (old R) [(gs, gt)] fs1 B.out ⟨S3.out, HF.out.below3 B3.out, trivial, by simp [fp], ⟨HPP.out.2, HPP.out.1⟩, ⟨HT.out.2.2.2.2.2, HB.out.2.2.2⟩, by simp only [Dt.olds, Tr.hds]; rw [HNL.out]; exact (List.perm_append_singleton _ _).symm, by simp [fp], by simp [Dt.cnt], by simp [Tr.high]; omega, by simp only [Dt.high, Tr.high]; rw [HNL.out]; simp [Tr.high]; omega, by simp only [Dt.high, Tr.high]; rw [HNL.out]; simp [Tr.high]⟩)
      have HPR := hide (show (Tr.node (gs, gt) k1 v1 L R).prs = (k1, v1) :: (old R).prs by simp only [Tr.prs, Dt.prs]; rw [HNL.out]; simp [Tr.prs])
      clear IHS KC KO S3
      go_upto_region 3 with (fail)
      go_region
      all_goals
        clear o0 o1 o2 g0 g1 g2 b0 b1 b2
        have X4 := hide (X3.out.set (none, R.root.1, R.root.2))
        have HP4 := hide (HPO.out.box X3.out HKX.out (.pointer none) (.int .i64 R.root.1) (.int .i64 R.root.2))
        unfold pv at X4
        simp only [Option.map_none] at X4
        have X5 := hide (X4.out.below (Below.refl _ _).drew)
        have HP5 := hide (HP4.out.below (Below.refl _ _).drew)
        clear X4 HP4
        generalize (World.setCell (World.setCell (World.setCell w3 _ _) _ _) _ _).drew = w5 at *
        obtain ⟨b0, b1, b2⟩ := X5.out.three
        unfold pv at b0
        simp only [Option.map_none] at b0 b1 b2
        go_wp2_with fail
        refine bodyPost_ret (v := .tuple #[.pointer (some ⟨p, 0, none⟩), .agg #[.pointer none, .int .i64 R.root.1, .int .i64 R.root.2]]) ?_ rfl ⟨p, _, _, _, _, _, old R, _, _, rfl, HP5.out, HPR.out⟩
        rw [results_tmp_cell rfl]
        go_simp
    · have hc := HCC.out
      have S3 := hide (HS1.out.trans (Stp.of_below HS1.out.dr B3.out []) (by simp))
      have X3 := hide (X2.out.below B3.out)
      have HF3 := hide (HF.out.below3 B3.out)
      have hne : L ≠ .nil := fun e => by
        have h1 := HHS.out
        rw [e] at h1
        simp [Tr.high] at h1
        exact HCC.out h1.symm
      have K9 := hide (IHS.out hne w3 (gn ++ [(gs, gt)]) fs1 S3.out.dr (by have := HH.out; simp; omega))
      obtain ⟨c0, c1, c2⟩ := KC.out _ B3.out
      have HBL := hide HB.out
      have HSH := hide (show L.high ≠ 0 from fun e => HCC.out (HHS.out.symm.trans e))
      clear IHS KC KO hne hc
      go_upto_region 4 with (fail)
      go_wp2_with fail
      refine K9.out.mono ?_
      rintro e w5 ⟨q, k2, v2, bl, br, h2, d1, op1, fs2, rfl, PO, hpr⟩
      have HPO := hide PO
      have HPR := hide hpr
      clear PO hpr c0 c1 c2 K9
      obtain ⟨bd, hbd⟩ : ∃ u, d1.bv = u := ⟨_, rfl⟩
      have HBV := hide hbd
      rw [hbd]
      clear hbd
      obtain ⟨xo, xs, xt⟩ := bd
      have D6 := (Below.refl w5.heap.size w5).alloc (Nat.le_refl _) (.cells #[pv xo, .int .i64 xs, .int .i64 xt] 76)
      have XQ := hide (Bxb.new w5 (xo, xs, xt))
      have HP6 := hide (HPO.out.below D6)
      unfold bvv pv
      unfold pv at XQ HP6
      simp only at XQ HP6 ⊢
      generalize hmx : (xo.map fun q => (⟨q, 0, none⟩ : Addr)) = mx at *
      have HMX := hide hmx
      clear hmx D6
      go_upto_region 5 with (fail)
      generalize w5.heap.size = kq at *
      generalize World.alloc w5 _ = w6 at *
      have F6 := hide (HP6.out.S.fb HF3.out (by simp))
      have y2 := F6.out.nine.2.2.1
      have y3 := F6.out.nine.2.2.2.1
      have y4 := F6.out.nine.2.2.2.2.1
      have f2 := F6.out.fz 2
      have f3 := F6.out.fz 3
      have f4 := F6.out.fz 4
      obtain ⟨x0, x1, x2⟩ := XQ.out.three
      have hqp : p ≠ kq := box_ne XQ.out F6.out (by decide)
      unfold pv at x0
      simp only [HMX.out] at x0 x1 x2
      go_region
      all_goals
        have M7 := (mod3 w6 p 2 3 4 (.pointer mx) (.int .i64 xs) (.int .i64 xt)).drew
        have F7 := hide (show Fb (((w6.setCell ⟨p, 2, none⟩ (.pointer mx)).setCell ⟨p, 3, none⟩ (.int .i64 xs)).setCell ⟨p, 4, none⟩ (.int .i64 xt)).drew p k1 v1 d1.bv (old R).bv 0 by
          have e := F6.out.setL d1.bv
          rw [HBV.out] at e ⊢
          unfold pv at e
          simp only [HMX.out] at e
          exact e)
        have HMM := hide (pt_mem (p := p) S3.out HF3.out HPP.out.1 HPP.out.2 HP6.out.S HP6.out.D (fun x hx => .inr (HP6.out.fp x hx)) M7 X3.out)
        have hpq : q ≠ p := fun e => by
          have h1 := HP6.out.q0.2
          have h3 := HF3.out.lt
          omega
        have HQ7 := hide ((Stp.of_mod HP6.out.S.dr F6.out HPP.out.2 M7).fb HP6.out.B (by simpa using hpq))
        clear M7 y2 y3 y4 f2 f3 f4 x0 x1 x2 hqp
        generalize (World.setCell (World.setCell (World.setCell w6 _ _) _ _) _ _).drew = w7 at *
        have K7 := hide (balance_any HC.out HMM.out.1.dr (by have h1 := HH.out; have h2 := HP6.out.len; simp; omega) p k1 v1 0 d1 (old R) ⟨F7.out, HMM.out.2.1, trivial, HMM.out.2.2.1, by simp [fp], by simp [fp], HPP.out.2⟩ HP6.out.ok ⟨HT.out.2.2.2.2.2, HB.out.2.2.2⟩ (by have h1 := HP6.out.lo; have h2 := HP6.out.hi; have h3 := HBL.out.1; have h4 := HBL.out.2.1; simp only [Dt.high] at *; omega) (by have h1 := HP6.out.lo; have h2 := HP6.out.hi; have h3 := HBL.out.1; have h4 := HBL.out.2.1; simp only [Dt.high] at *; omega) (by have h1 := HP6.out.hi; have h2 := HH.out; simp only [Dt.high] at *; omega))
        go_wp2_with fail
        refine K7.out.mono ?_
        rintro e w8 ⟨d, op2, fs3, rfl, PB, hbal⟩
        have S7' := HMM.out.1
        rw [List.append_assoc] at S7' PB
        have hso := S3.out.mod.size
        have e1 := HP6.out.olds
        have c1 := HP6.out.cnt
        have c3 := HP6.out.len
        have c4 := HP6.out.lo
        have c5 := HP6.out.hi
        have b1 := HBL.out.1
        have b2 := HBL.out.2.1
        have b3 := PB.hh
        have b4 := HSH.out
        have HQF := hide (show q ∉ (new p k1 v1 0 d1 (old R)).fp by
          simp only [fp, List.mem_cons, List.mem_append, List.not_mem_nil, or_false, false_or, not_or]
          exact ⟨hpq, HP6.out.qn⟩)
        have PT := tk_bal (T := .node (gs, gt) k1 v1 L R) S7' HQ7.out HQF.out ⟨HP6.out.q0.1, Nat.le_trans hso HP6.out.q0.2⟩ PB (by
          rw [List.perm_iff_count] at e1 ⊢
          intro a
          have := e1 a
          simp only [Dt.olds, Tr.hds, List.count_append, List.count_cons, List.count_nil] at *
          omega) (fun x hx => by
          simp only [fp, List.mem_cons, List.mem_append, List.not_mem_nil, or_false, false_or] at hx
          rcases hx with rfl | hx
          · exact HPP.out.1
          · exact Nat.le_trans hso (HP6.out.fp x hx)) (by simp [Dt.cnt]; omega) (by simp [Tr.high]; omega) (by
          simp only [Dt.high, Tr.high] at *
          by_cases hq : d1.high ≤ R.high + 1 ∧ R.high ≤ d1.high + 1
          · have := hbal hq.1 hq.2
            omega
          · omega) (by
          simp only [Dt.high, Tr.high] at *
          by_cases hq : d1.high ≤ R.high + 1 ∧ R.high ≤ d1.high + 1
          · have := hbal hq.1 hq.2
            omega
          · omega)
        have X8 := hide (PB.S.boxed HMM.out.2.2.2 (fun e => by
          have h1 : kr ∈ (new p k1 v1 0 d1 (old R)).fp := e
          simp only [fp, List.mem_cons, List.mem_append, List.not_mem_nil, or_false, false_or] at h1
          rcases h1 with h1 | h1
          · exact (box_ne HMM.out.2.2.2 F7.out (by decide)) h1.symm
          · exact HMM.out.2.1.nobox HMM.out.2.2.2 h1))
        have HPT := hide (HW.out _ _ _ _ _ _ _ _ _ _ _ B.out PT)
        have HPR2 := hide (show (Tr.node (gs, gt) k1 v1 L R).prs = (k2, v2) :: d.prs by
          have h1 := PB.g.prs
          rw [h1]
          simp only [Tr.prs, Dt.prs]
          rw [HPR.out]
          simp)
        clear PT PB hbal K7 S7' hso e1 c1 c3 c4 c5 b1 b2 b3 b4
        obtain ⟨b0, b1, b2⟩ := X8.out.three
        have g0 := X8.out.fz 0
        have g1 := X8.out.fz 1
        have g2 := X8.out.fz 2
        obtain ⟨bd, hbd⟩ : ∃ u, d.bv = u := ⟨_, rfl⟩
        have HBV2 := hide hbd
        rw [hbd]
        clear hbd
        obtain ⟨ro, rs, rt⟩ := bd
        unfold pv at b0
        unfold bvv pv
        simp only [Option.map_none] at b0 ⊢
        generalize hmx2 : (ro.map fun q => (⟨q, 0, none⟩ : Addr)) = mx2
        have HMX2 := hide hmx2
        clear hmx2
        go_wp2_with fail
        refine bodyPost_ret (v := .tuple #[.pointer (some ⟨q, 0, none⟩), .agg #[.pointer mx2, .int .i64 rs, .int .i64 rt]]) ?_ rfl ⟨q, _, _, _, _, _, d, _, _, by rw [HBV2.out, ← HMX2.out]; rfl, HPT.out.box X8.out HKX.out _ _ _, HPR2.out⟩
        rw [results_tmp_cell rfl]
        go_simp
end Go.Proofs.Ytcckamajiebgeaa
namespace Go.Proofs.Ytcckamajiebgeaa
open Go.RowKit
set_option linter.unusedVariables false
set_option linter.unusedSimpArgs false
set_option maxRecDepth 100000
open Dt

def TkRet1 (F : Int → Int → Option Nd) (w0 : World) (gm gd : Nat) (gn : List (Int × Int)) (fs : List Nat) (T : Tr) (w : World) (e : Ending) (w' : World) : Prop :=
  ∃ q k' v' bl br h' d op fs', e = .returned (.tuple #[.pointer (some ⟨q, 0, none⟩), bvv d.bv]) ∧ TkPost F w0 gm gd gn fs T w w' q k' v' bl br h' d op fs' ∧ T.prs = d.prs ++ [(k', v')]
set_option maxHeartbeats 8000000 in
theorem take1_any {w0 : World} {gm gd : Nat} {F : Int → Int → Option Nd} (C : Ctx w0 gm F) : ∀ (T : Tr) (hT : T.Lies F) (hB : T.Bal) (hn : T ≠ .nil) (hh : T.high ≤ 200) {w : World} {gn : List (Int × Int)} {fs : List Nat} (hD : Dr w0 w gm gd gn fs) (hgn : gn.length + 3 * T.high ≤ 880),
    Calls Try.prog 48 #[.pointer (some ⟨gd, 0, none⟩), bvv (old T).bv, .int .i64 1] w (TkRet1 F w0 gm gd gn fs T w) := by
  intro T
  induction T with
  | nil =>
    intro hT hB hn
    exact absurd rfl hn
  | node g kx vx L R ihl ihr =>
    intro hT hB hn hh w gn fs hD hgn
    obtain ⟨D, X1, X2⟩ := two_box w (none, g.1, g.2)
    simp only [pv, Option.map_none] at D X1 X2
    have HX1 := hide X1
    have HX2 := hide X2
    have HW := hide (fun (W w' : World) (q : Nat) (k' v' : Int) (bl br : Option Nat × Int × Int) (h' : Nat) (d : Dt) (op : List (Int × Int)) (fs' : List Nat) (hW : Below w.heap.size w W) (H : TkPost F w0 gm gd gn fs (.node g kx vx L R) W w' q k' v' bl br h' d op fs') => H.weak hD hW)
    have B := hide D
    have HD1 := hide (hD.below D)
    simp only [Tr.high] at hgn hh
    have K1 := hide (open_old C HD1.out (by omega) g kx vx L R hT)
    have HC := hide C
    have HT := hide hT
    have HB := hide hB
    have HH := hide (And.intro hgn hh)
    have IHS := hide (show R ≠ .nil → ∀ (w : World) (gn : List (Int × Int)) (fs : List Nat), Dr w0 w gm gd gn fs → gn.length + 3 * R.high ≤ 880 → Calls Try.prog 48 #[.pointer (some ⟨gd, 0, none⟩), .agg #[.pointer none, .int .i64 R.root.1, .int .i64 R.root.2], .int .i64 1] w (TkRet1 F w0 gm gd gn fs R w) from
      fun hne w gn fs h1 h2 => ihr hT.2.2.2.2.2 hB.2.2.2 hne (by omega) h1 h2)
    clear D hD C X1 X2 hT hB hh hgn ihl ihr hn
    obtain ⟨gs, gt⟩ := g
    simp only at HX1 HX2 B HD1 HW
    change Hid (Calls _ _ #[.pointer (some ⟨gd, 0, none⟩), .agg #[.pointer none, .int .i64 gs, .int .i64 gt]] _ _) at K1
    change Calls _ _ #[.pointer (some ⟨gd, 0, none⟩), .agg #[.pointer none, .int .i64 gs, .int .i64 gt], .int .i64 1] _ _
    go_enter Try.func48, Try.ntmps48
    go_upto_region 1 with (fail)
    obtain ⟨kr, hkr⟩ : ∃ q, w.heap.size + 1 = q := ⟨_, rfl⟩
    obtain ⟨kb, hkb⟩ : ∃ q, w.heap.size = q := ⟨_, rfl⟩
    have HKX := hide (show w.heap.size ≤ kr by omega)
    rw [hkr] at HX2 ⊢
    rw [hkb] at HX1 ⊢
    clear hkr hkb
    generalize World.alloc (World.alloc w _) _ = w1 at *
    obtain ⟨x0, x1, x2⟩ := HX1.out.three
    unfold pv at x0
    simp only [Option.map_none] at x0 x1 x2
    go_wp2_with fail
    refine K1.out.mono ?_
    rintro e w2 ⟨p, k1, v1, h1, a, b, op, fs1, rfl, O, S1, D1⟩
    obtain ⟨rfl, rfl, rfl, rfl, rfl, rfl, hpp⟩ := O.old
    have HS1 := hide S1
    have HF := hide D1.1
    have HPP := hide (And.intro hpp D1.2.2.2.2.2.2)
    have X2 := hide (S1.boxed HX2.out (by simp))
    have KH := hide (show ∀ (V : World), Below w2.heap.size w2 V → Calls Try.prog 47 #[.pointer (some ⟨gd, 0, none⟩), .agg #[.pointer none, .int .i64 R.root.1, .int .i64 R.root.2]] V (IntRet .i64 R.high V) from fun V hV => high_any HC.out (HS1.out.dr.below hV) (old R) trivial (show Dt.Li F (old R) from HT.out.2.2.2.2.2))
    have KC := hide (fun (V : World) (hV : Below w2.heap.size w2 V) => show V.cell? ⟨p, 5, none⟩ = some (.pointer none) ∧ V.cell? ⟨p, 6, none⟩ = some (.int .i64 R.root.1) ∧ V.cell? ⟨p, 7, none⟩ = some (.int .i64 R.root.2) from ⟨cell_b hV HF.out.nine.2.2.2.2.2.1, cell_b hV HF.out.nine.2.2.2.2.2.2.1, cell_b hV HF.out.nine.2.2.2.2.2.2.2.1⟩)
    have KO := hide (fun (V : World) (hV : Below w2.heap.size w2 V) => show V.cell? ⟨p, 2, none⟩ = some (.pointer none) ∧ V.cell? ⟨p, 3, none⟩ = some (.int .i64 L.root.1) ∧ V.cell? ⟨p, 4, none⟩ = some (.int .i64 L.root.2) from ⟨cell_b hV HF.out.nine.2.2.1, cell_b hV HF.out.nine.2.2.2.1, cell_b hV HF.out.nine.2.2.2.2.1⟩)
    clear K1 x0 x1 x2 O S1 D1 hpp
    have z := KC.out w2 (Below.refl _ _)
    have BD := hide ((Below.refl w2.heap.size w2).drew)
    have hcs : (R.high = 0 ∧ ((R.high : Int) == 0) = true) ∨ (¬ R.high = 0 ∧ ((R.high : Int) == 0) = false) := by
      by_cases hc : R.high = 0
      · exact .inl ⟨hc, by rw [hc]; rfl⟩
      · exact .inr ⟨hc, by simp only [beq_eq_false_iff_ne, ne_eq]; omega⟩
    have wz0 : IntKind.i64.wrap 1 = 1 := by decide
    have wz1 : IntKind.i64.wrap 0 = 0 := by decide
    have wz2 : IntKind.i64.wrap (1 - 0) = 1 := by decide
    have wz3 : IntKind.i64.wrap (1 - 1) = 0 := by decide
    obtain ⟨hS, hhS⟩ : ∃ u, R.high = u := ⟨_, rfl⟩
    have HHS := hide hhS
    rw [hhS] at hcs KH
    clear hhS
    rcases hcs with ⟨hc, q0⟩ | ⟨hc, q0⟩
    all_goals
      have HCC := hide hc
      clear hc
      obtain ⟨c0, c1, c2⟩ := z
      go_wp2_with fail
      refine (KH.out _ (Below.refl _ _)).mono ?_
      rintro e w3 ⟨rfl, hb⟩
      have B3 := hide hb
      clear c0 c1 c2 hb BD KH
    case' _ =>
      have hc := HCC.out
      obtain ⟨o0, o1, o2⟩ := KO.out _ B3.out
      have X3 := hide (X2.out.below B3.out)
      obtain ⟨b0, b1, b2⟩ := X3.out.three
      have g0 := X3.out.fz 0
      have g1 := X3.out.fz 1
      have g2 := X3.out.fz 2
      unfold pv at b0
      simp only [Option.map_none] at b0 b1 b2
      have hne : p ≠ kr := box_ne X2.out HF.out (by decide)
      have S3 := hide (HS1.out.trans (Stp.of_below HS1.out.dr B3.out []) (by simp))
      have HNL := hide (show R = .nil from by
        have h1 := HHS.out
        rw [HCC.out] at h1
        cases hL : R with
        | nil => rfl
        | node _ _ _ _ _ => rw [hL] at h1; simp [Tr.high] at h1)
      have HPO := hide (HW.out w1 w3 p k1 v1 (old L).bv (old R).bv 0 (old L) [(gs, gt)] fs1 B.out ⟨S3.out, HF.out.below3 B3.out, trivial, by simp [fp], ⟨HPP.out.2, HPP.out.1⟩, ⟨HT.out.2.2.2.2.1, HB.out.2.2.1⟩, by simp only [Dt.olds, Tr.hds]; rw [HNL.out]; exact List.Perm.refl _, by simp [fp], by simp [Dt.cnt], by simp [Tr.high]; omega, by simp only [Dt.high, Tr.high]; rw [HNL.out]; simp [Tr.high]; omega, by simp only [Dt.high, Tr.high]; rw [HNL.out]; simp [Tr.high]⟩)
      have HPR := hide (show (Tr.node (gs, gt) k1 v1 L R).prs = (old L).prs ++ [(k1, v1)] by simp only [Tr.prs, Dt.prs]; rw [HNL.out]; simp [Tr.prs])
      clear IHS KC KO S3
      go_upto_region 3 with (fail)
      go_region
      all_goals
        clear o0 o1 o2 g0 g1 g2 b0 b1 b2
        have X4 := hide (X3.out.set (none, L.root.1, L.root.2))
        have HP4 := hide (HPO.out.box X3.out HKX.out (.pointer none) (.int .i64 L.root.1) (.int .i64 L.root.2))
        unfold pv at X4
        simp only [Option.map_none] at X4
        have X5 := hide (X4.out.below (Below.refl _ _).drew)
        have HP5 := hide (HP4.out.below (Below.refl _ _).drew)
        clear X4 HP4
        generalize (World.setCell (World.setCell (World.setCell w3 _ _) _ _) _ _).drew = w5 at *
        obtain ⟨b0, b1, b2⟩ := X5.out.three
        unfold pv at b0
        simp only [Option.map_none] at b0 b1 b2
        go_wp2_with fail
        refine bodyPost_ret (v := .tuple #[.pointer (some ⟨p, 0, none⟩), .agg #[.pointer none, .int .i64 L.root.1, .int .i64 L.root.2]]) ?_ rfl ⟨p, _, _, _, _, _, old L, _, _, rfl, HP5.out, HPR.out⟩
        rw [results_tmp_cell rfl]
        go_simp
    · have hc := HCC.out
      have S3 := hide (HS1.out.trans (Stp.of_below HS1.out.dr B3.out []) (by simp))
      have X3 := hide (X2.out.below B3.out)
      have HF3 := hide (HF.out.below3 B3.out)
      have hne : R ≠ .nil := fun e => by
        have h1 := HHS.out
        rw [e] at h1
        simp [Tr.high] at h1
        exact HCC.out h1.symm
      have K9 := hide (IHS.out hne w3 (gn ++ [(gs, gt)]) fs1 S3.out.dr (by have := HH.out; simp; omega))
      obtain ⟨c0, c1, c2⟩ := KC.out _ B3.out
      have HBL := hide HB.out
      have HSH := hide (show R.high ≠ 0 from fun e => HCC.out (HHS.out.symm.trans e))
      clear IHS KC KO hne hc
      go_upto_region 4 with (fail)
      go_wp2_with fail
      refine K9.out.mono ?_
      rintro e w5 ⟨q, k2, v2, bl, br, h2, d1, op1, fs2, rfl, PO, hpr⟩
      have HPO := hide PO
      have HPR := hide hpr
      clear PO hpr c0 c1 c2 K9
      obtain ⟨bd, hbd⟩ : ∃ u, d1.bv = u := ⟨_, rfl⟩
      have HBV := hide hbd
      rw [hbd]
      clear hbd
      obtain ⟨xo, xs, xt⟩ := bd
      have D6 := (Below.refl w5.heap.size w5).alloc (Nat.le_refl _) (.cells #[pv xo, .int .i64 xs, .int .i64 xt] 76)
      have XQ := hide (Bxb.new w5 (xo, xs, xt))
      have HP6 := hide (HPO.out.below D6)
      unfold bvv pv
      unfold pv at XQ HP6
      simp only at XQ HP6 ⊢
      generalize hmx : (xo.map fun q => (⟨q, 0, none⟩ : Addr)) = mx at *
      have HMX := hide hmx
      clear hmx D6
      go_upto_region 5 with (fail)
      generalize w5.heap.size = kq at *
      generalize World.alloc w5 _ = w6 at *
      have F6 := hide (HP6.out.S.fb HF3.out (by simp))
      have y2 := F6.out.nine.2.2.2.2.2.1
      have y3 := F6.out.nine.2.2.2.2.2.2.1
      have y4 := F6.out.nine.2.2.2.2.2.2.2.1
      have f2 := F6.out.fz 5
      have f3 := F6.out.fz 6
      have f4 := F6.out.fz 7
      obtain ⟨x0, x1, x2⟩ := XQ.out.three
      have hqp : p ≠ kq := box_ne XQ.out F6.out (by decide)
      unfold pv at x0
      simp only [HMX.out] at x0 x1 x2
      go_region
      all_goals
        have M7 := (mod3 w6 p 5 6 7 (.pointer mx) (.int .i64 xs) (.int .i64 xt)).drew
        have F7 := hide (show Fb (((w6.setCell ⟨p, 5, none⟩ (.pointer mx)).setCell ⟨p, 6, none⟩ (.int .i64 xs)).setCell ⟨p, 7, none⟩ (.int .i64 xt)).drew p k1 v1 (old L).bv d1.bv 0 by
          have e := F6.out.setR d1.bv
          rw [HBV.out] at e ⊢
          unfold pv at e
          simp only [HMX.out] at e
          exact e)
        have HMM := hide (pt_mem (p := p) S3.out HF3.out HPP.out.1 HPP.out.2 HP6.out.S HP6.out.D (fun x hx => .inr (HP6.out.fp x hx)) M7 X3.out)
        have hpq : q ≠ p := fun e => by
          have h1 := HP6.out.q0.2
          have h3 := HF3.out.lt
          omega
        have HQ7 := hide ((Stp.of_mod HP6.out.S.dr F6.out HPP.out.2 M7).fb HP6.out.B (by simpa using hpq))
        clear M7 y2 y3 y4 f2 f3 f4 x0 x1 x2 hqp
        generalize (World.setCell (World.setCell (World.setCell w6 _ _) _ _) _ _).drew = w7 at *
        have K7 := hide (balance_any HC.out HMM.out.1.dr (by have h1 := HH.out; have h2 := HP6.out.len; simp; omega) p k1 v1 0 (old L) d1 ⟨F7.out, trivial, HMM.out.2.1, by simp [fp], HMM.out.2.2.1, by simp [fp], HPP.out.2⟩ ⟨HT.out.2.2.2.2.1, HB.out.2.2.1⟩ HP6.out.ok (by have h1 := HP6.out.lo; have h2 := HP6.out.hi; have h3 := HBL.out.1; have h4 := HBL.out.2.1; simp only [Dt.high] at *; omega) (by have h1 := HP6.out.lo; have h2 := HP6.out.hi; have h3 := HBL.out.1; have h4 := HBL.out.2.1; simp only [Dt.high] at *; omega) (by have h1 := HP6.out.hi; have h2 := HH.out; simp only [Dt.high] at *; omega))
        go_wp2_with fail
        refine K7.out.mono ?_
        rintro e w8 ⟨d, op2, fs3, rfl, PB, hbal⟩
        have S7' := HMM.out.1
        rw [List.append_assoc] at S7' PB
        have hso := S3.out.mod.size
        have e1 := HP6.out.olds
        have c1 := HP6.out.cnt
        have c3 := HP6.out.len
        have c4 := HP6.out.lo
        have c5 := HP6.out.hi
        have b1 := HBL.out.1
        have b2 := HBL.out.2.1
        have b3 := PB.hh
        have b4 := HSH.out
        have HQF := hide (show q ∉ (new p k1 v1 0 (old L) d1).fp by
          simp only [fp, List.mem_cons, List.mem_append, List.not_mem_nil, or_false, false_or, not_or]
          exact ⟨hpq, HP6.out.qn⟩)
        have PT := tk_bal (T := .node (gs, gt) k1 v1 L R) S7' HQ7.out HQF.out ⟨HP6.out.q0.1, Nat.le_trans hso HP6.out.q0.2⟩ PB (by
          rw [List.perm_iff_count] at e1 ⊢
          intro a
          have := e1 a
          simp only [Dt.olds, Tr.hds, List.count_append, List.count_cons, List.count_nil] at *
          omega) (fun x hx => by
          simp only [fp, List.mem_cons, List.mem_append, List.not_mem_nil, or_false, false_or] at hx
          rcases hx with rfl | hx
          · exact HPP.out.1
          · exact Nat.le_trans hso (HP6.out.fp x hx)) (by simp [Dt.cnt]; omega) (by simp [Tr.high]; omega) (by
          simp only [Dt.high, Tr.high] at *
          by_cases hq : L.high ≤ d1.high + 1 ∧ d1.high ≤ L.high + 1
          · have := hbal hq.1 hq.2
            omega
          · omega) (by
          simp only [Dt.high, Tr.high] at *
          by_cases hq : L.high ≤ d1.high + 1 ∧ d1.high ≤ L.high + 1
          · have := hbal hq.1 hq.2
            omega
          · omega)
        have X8 := hide (PB.S.boxed HMM.out.2.2.2 (fun e => by
          have h1 : kr ∈ (new p k1 v1 0 (old L) d1).fp := e
          simp only [fp, List.mem_cons, List.mem_append, List.not_mem_nil, or_false, false_or] at h1
          rcases h1 with h1 | h1
          · exact (box_ne HMM.out.2.2.2 F7.out (by decide)) h1.symm
          · exact HMM.out.2.1.nobox HMM.out.2.2.2 h1))
        have HPT := hide (HW.out _ _ _ _ _ _ _ _ _ _ _ B.out PT)
        have HPR2 := hide (show (Tr.node (gs, gt) k1 v1 L R).prs = d.prs ++ [(k2, v2)] by
          have h1 := PB.g.prs
          rw [h1]
          simp only [Tr.prs, Dt.prs]
          rw [HPR.out]
          simp)
        clear PT PB hbal K7 S7' hso e1 c1 c3 c4 c5 b1 b2 b3 b4
        obtain ⟨b0, b1, b2⟩ := X8.out.three
        have g0 := X8.out.fz 0
        have g1 := X8.out.fz 1
        have g2 := X8.out.fz 2
        obtain ⟨bd, hbd⟩ : ∃ u, d.bv = u := ⟨_, rfl⟩
        have HBV2 := hide hbd
        rw [hbd]
        clear hbd
        obtain ⟨ro, rs, rt⟩ := bd
        unfold pv at b0
        unfold bvv pv
        simp only [Option.map_none] at b0 ⊢
        generalize hmx2 : (ro.map fun q => (⟨q, 0, none⟩ : Addr)) = mx2
        have HMX2 := hide hmx2
        clear hmx2
        go_wp2_with fail
        refine bodyPost_ret (v := .tuple #[.pointer (some ⟨q, 0, none⟩), .agg #[.pointer mx2, .int .i64 rs, .int .i64 rt]]) ?_ rfl ⟨q, _, _, _, _, _, d, _, _, by rw [HBV2.out, ← HMX2.out]; rfl, HPT.out.box X8.out HKX.out _ _ _, HPR2.out⟩
        rw [results_tmp_cell rfl]
        go_simp
end Go.Proofs.Ytcckamajiebgeaa
namespace Go.Proofs.Ytcckamajiebgeaa
open Go.RowKit
set_option linter.unusedVariables false
set_option linter.unusedSimpArgs false
set_option maxRecDepth 100000
open Dt

structure JnPost (F : Int → Int → Option Nd) (w0 : World) (gm gd : Nat) (gn : List (Int × Int)) (fs : List Nat) (L R : Tr) (w w' : World) (d : Dt) (op : List (Int × Int)) (fs' : List Nat) : Prop where
  S : Stp w0 gm gd gn fs [] w w' (gn ++ op) fs'
  D : DIn w0.heap.size w' d
  ok : d.Ok F
  prs : d.prs = L.prs ++ R.prs
  olds : (L.hds ++ R.hds).Perm (d.olds ++ op)
  fp : ∀ k ∈ d.fp, w.heap.size ≤ k
  cnt : d.cnt = op.length
  len : op.length ≤ 3 * max L.high R.high
  lo : max L.high R.high ≤ d.high
  hi : d.high ≤ 1 + max L.high R.high
theorem JnPost.weak {F : Int → Int → Option Nd} {w0 : World} {gm gd : Nat} {gn : List (Int × Int)} {fs : List Nat} {L R : Tr} {w w1 w' : World} {d : Dt} {op : List (Int × Int)} {fs' : List Nat} (H : JnPost F w0 gm gd gn fs L R w1 w' d op fs') (hD : Dr w0 w gm gd gn fs) (hb : Below w.heap.size w w1) : JnPost F w0 gm gd gn fs L R w w' d op fs' :=
  ⟨(Stp.of_below hD hb []).trans H.S (by simp), H.D, H.ok, H.prs, H.olds, fun k hk => Nat.le_trans hb.size (H.fp k hk), H.cnt, H.len, H.lo, H.hi⟩
theorem JnPost.box {F : Int → Int → Option Nd} {w0 : World} {gm gd : Nat} {gn : List (Int × Int)} {fs : List Nat} {L R : Tr} {w w' : World} {d : Dt} {op : List (Int × Int)} {fs' : List Nat} (H : JnPost F w0 gm gd gn fs L R w w' d op fs') {kx : Nat} {c : Option Nat × Int × Int} (hb : Bxb w' kx c) (hk : w.heap.size ≤ kx) (x y z : Value) : JnPost F w0 gm gd gn fs L R w (((w'.setCell ⟨kx, 0, none⟩ x).setCell ⟨kx, 1, none⟩ y).setCell ⟨kx, 2, none⟩ z) d op fs' :=
  ⟨H.S.box hb hk x y z, H.D.box hb x y z, H.ok, H.prs, H.olds, H.fp, H.cnt, H.len, H.lo, H.hi⟩
def JnRet (F : Int → Int → Option Nd) (w0 : World) (gm gd : Nat) (gn : List (Int × Int)) (fs : List Nat) (L R : Tr) (w : World) (e : Ending) (w' : World) : Prop :=
  ∃ d op fs', e = .returned (bvv d.bv) ∧ JnPost F w0 gm gd gn fs L R w w' d op fs'
theorem Fb.drew {w : World} {p : Nat} {k v : Int} {a b : Option Nat × Int × Int} {h : Nat} (H : Fb w p k v a b h) : Fb w.drew p k v a b h := H
theorem mod6 (w : World) (p i j k i' j' k' : Nat) (x y z x' y' z' : Value) : Mod [p] w ((((((w.setCell ⟨p, i, none⟩ x).setCell ⟨p, j, none⟩ y).setCell ⟨p, k, none⟩ z).setCell ⟨p, i', none⟩ x').setCell ⟨p, j', none⟩ y').setCell ⟨p, k', none⟩ z') :=
  (mod3 w p i j k x y z).trans (mod3 _ p i' j' k' x' y' z') (fun _ h => .inl h)
set_option maxHeartbeats 8000000 in
theorem join_any {w0 w : World} {gm gd : Nat} {F : Int → Int → Option Nd} {gn : List (Int × Int)} {fs : List Nat} (C : Ctx w0 gm F) (hD : Dr w0 w gm gd gn fs) (p : Nat) (kx vx : Int) (h : Nat) (L R : Tr) (hp : Fb w p kx vx (old L).bv (old R).bv h) (lL : L.Lies F) (lR : R.Lies F) (bL : L.Bal) (bR : R.Bal) (h1 : L.high ≤ R.high + 1) (h2 : R.high ≤ L.high + 1) (hh : L.high ≤ 200 ∧ R.high ≤ 200) (hgn : gn.length + 3 * max L.high R.high ≤ 880) :
    Calls Try.prog 40 #[.pointer (some ⟨gd, 0, none⟩), .pointer (some ⟨p, 0, none⟩)] w (JnRet F w0 gm gd gn fs L R w) := by
  have D := (Below.refl w.heap.size w).alloc (Nat.le_refl _) (.cells #[.pointer none, .int .i64 0, .int .i64 0] 76)
  have X := hide (show Bxb (w.alloc (.cells #[.pointer none, .int .i64 0, .int .i64 0] 76)) w.heap.size (none, 0, 0) from Bxb.new w (none, 0, 0))
  have HW := hide (fun (W w' : World) (d : Dt) (op : List (Int × Int)) (fs' : List Nat) (hW : Below w.heap.size w W) (H : JnPost F w0 gm gd gn fs L R W w' d op fs') => H.weak hD hW)
  have B := hide D
  have HD1 := hide (hD.below D)
  have HF := hide (hp.below3 D)
  have HC := hide C
  have HL := hide (And.intro lL bL)
  have HR := hide (And.intro lR bR)
  have HH := hide (And.intro h1 (And.intro h2 (And.intro hh hgn)))
  clear D hD C hp lL lR bL bR h1 h2 hh hgn
  go_enter Try.func40, Try.ntmps40
  go_upto_region 1 with (fail)
  obtain ⟨kr, hkr⟩ : ∃ q, w.heap.size = q := ⟨_, rfl⟩
  have HKX := hide (Nat.le_of_eq hkr)
  rw [hkr] at X ⊢
  clear hkr
  generalize w.alloc (.cells #[.pointer none, .int .i64 0, .int .i64 0] 76) = w1 at *
  have KHL := hide (show ∀ (V : World), Below w1.heap.size w1 V → Calls Try.prog 47 #[.pointer (some ⟨gd, 0, none⟩), .agg #[.pointer none, .int .i64 L.root.1, .int .i64 L.root.2]] V (IntRet .i64 L.high V) from fun V hV => high_any HC.out (HD1.out.below hV) (old L) trivial (show Dt.Li F (old L) from HL.out.1))
  have KHR := hide (show ∀ (V : World), Below w1.heap.size w1 V → Calls Try.prog 47 #[.pointer (some ⟨gd, 0, none⟩), .agg #[.pointer none, .int .i64 R.root.1, .int .i64 R.root.2]] V (IntRet .i64 R.high V) from fun V hV => high_any HC.out (HD1.out.below hV) (old R) trivial (show Dt.Li F (old R) from HR.out.1))
  have A2 := hide (fun (V : World) (hV : Below w1.heap.size w1 V) => show V.cell? ⟨p, 2, none⟩ = some (.pointer none) ∧ V.cell? ⟨p, 3, none⟩ = some (.int .i64 L.root.1) ∧ V.cell? ⟨p, 4, none⟩ = some (.int .i64 L.root.2) ∧ V.cell? ⟨p, 5, none⟩ = some (.pointer none) ∧ V.cell? ⟨p, 6, none⟩ = some (.int .i64 R.root.1) ∧ V.cell? ⟨p, 7, none⟩ = some (.int .i64 R.root.2) from
    ⟨cell_b hV HF.out.nine.2.2.1, cell_b hV HF.out.nine.2.2.2.1, cell_b hV HF.out.nine.2.2.2.2.1, cell_b hV HF.out.nine.2.2.2.2.2.1, cell_b hV HF.out.nine.2.2.2.2.2.2.1, cell_b hV HF.out.nine.2.2.2.2.2.2.2.1⟩)
  have z0 := A2.out w1 (Below.refl _ _)
  have BD1 := hide ((Below.refl w1.heap.size w1).drew)
  have hcs : (L.high > R.high ∧ decide ((L.high : Int) > (R.high : Int)) = true) ∨ (¬ L.high > R.high ∧ decide ((L.high : Int) > (R.high : Int)) = false) := by
    by_cases hc : L.high > R.high
    · exact .inl ⟨hc, decide_eq_true (by omega)⟩
    · exact .inr ⟨hc, decide_eq_false (by omega)⟩
  obtain ⟨hl, hhl⟩ : ∃ u, L.high = u := ⟨_, rfl⟩
  obtain ⟨hr, hhr⟩ : ∃ u, R.high = u := ⟨_, rfl⟩
  have HHL := hide hhl
  have HHR := hide hhr
  rw [hhl] at hcs KHL
  rw [hhr] at hcs KHR
  clear hhl hhr
  have wz0 : IntKind.i64.wrap 1 = 1 := by decide
  have wz1 : IntKind.i64.wrap 0 = 0 := by decide
  have wz2 : IntKind.i64.wrap (1 - 0) = 1 := by decide
  have wz3 : IntKind.i64.wrap (1 - 1) = 0 := by decide
  rcases hcs with ⟨hc, q0⟩ | ⟨hc, q0⟩
  all_goals
    have HCC := hide hc
    clear hc
    go_upto_region 2 with (fail)
    go_region_held3 (fun w' => w'.cell? ⟨p, 2, none⟩ = some (.pointer none) ∧ w'.cell? ⟨p, 3, none⟩ = some (.int .i64 L.root.1) ∧ w'.cell? ⟨p, 4, none⟩ = some (.int .i64 L.root.2) ∧ w'.cell? ⟨p, 5, none⟩ = some (.pointer none) ∧ w'.cell? ⟨p, 6, none⟩ = some (.int .i64 R.root.1) ∧ w'.cell? ⟨p, 7, none⟩ = some (.int .i64 R.root.2))
      (first | with_reducible exact hS2 | with_reducible exact hS1 | with_reducible exact z0 | go_keep)
      (first
        | (with_reducible refine (KHL.out _ BD1.out).mono ?_
           rintro e w3 ⟨rfl, hb⟩
           have B3 := hide (BD1.out.trans (hb.mono BD1.out.size))
           have hS1 := A2.out _ B3.out
           clear hb)
        | (with_reducible refine (KHR.out _ B3.out).mono ?_
           rintro e w4 ⟨rfl, hb⟩
           have B4 := hide (B3.out.trans (hb.mono B3.out.size))
           have hS2 := A2.out _ B4.out
           clear hb))
    clear z0 hS1 hS2 B3 BD1
  case' _ =>
    have hc := HCC.out
    obtain ⟨c2, c3, c4, c5, c6, c7⟩ := A2.out _ B4.out
    have X4 := hide (X.out.below B4.out)
    have S4 := hide (Stp.of_below HD1.out B4.out [])
    have D5 := (Below.refl w4.heap.size w4).alloc (Nat.le_refl _) (.cells #[.pointer none, .int .i64 R.root.1, .int .i64 R.root.2] 76)
    have XO := hide (show Bxb (w4.alloc (.cells #[.pointer none, .int .i64 R.root.1, .int .i64 R.root.2] 76)) w4.heap.size (none, R.root.1, R.root.2) from Bxb.new w4 (none, R.root.1, R.root.2))
    have S5 := hide (S4.out.trans (Stp.of_below S4.out.dr D5 []) (by simp))
    have B5 := hide (B4.out.trans (D5.mono B4.out.size))
    have HKO := hide (show w1.heap.size ≤ w4.heap.size from B4.out.size)
    clear D5 S4 X4
    have d1 : decide (hr < hl) = true := by simp; omega
    go_upto_region 5 with (fail)
    clear c2 c3 c4 c5 c6 c7
    generalize w4.heap.size = ko at *
    generalize World.alloc w4 _ = w5 at *
    obtain ⟨x0, x1, x2⟩ := XO.out.three
    unfold pv at x0
    simp only [Option.map_none] at x0 x1 x2
    go_wp2_with fail
    refine (KHR.out _ B5.out).mono ?_
    rintro e w6 ⟨rfl, hb⟩
    have B6 := hide (B5.out.trans (hb.mono B5.out.size))
    have XO6 := hide (XO.out.below hb)
    have X6 := hide (X.out.below B6.out)
    have F6 := hide (HF.out.below3 B6.out)
    have S6 := hide (Stp.of_below HD1.out B6.out [])
    obtain ⟨c2, c3, c4, c5, c6, c7⟩ := A2.out _ B6.out
    clear hb XO S5 B5 x0 x1 x2 KHL KHR A2
    have hcs : (hr = 0 ∧ ((hr : Int) == 0) = true) ∨ (¬ hr = 0 ∧ ((hr : Int) == 0) = false) := by
      by_cases hc : hr = 0
      · exact .inl ⟨hc, by rw [hc]; rfl⟩
      · exact .inr ⟨hc, by simp only [beq_eq_false_iff_ne, ne_eq]; omega⟩
    rcases hcs with ⟨ho, q1⟩ | ⟨ho, q1⟩
    · obtain ⟨b0, b1, b2⟩ := X6.out.three
      have g0 := X6.out.fz 0
      have g1 := X6.out.fz 1
      have g2 := X6.out.fz 2
      unfold pv at b0
      simp only [Option.map_none] at b0 b1 b2
      have hne : p ≠ kr := box_ne X6.out F6.out (by decide)
      have HNL := hide (show R = .nil from by
        have h1 := HHR.out
        rw [ho] at h1
        cases hL : R with
        | nil => rfl
        | node _ _ _ _ _ => rw [hL] at h1; simp [Tr.high] at h1)
      have HPO := hide (HW.out w1 w6 (old L) [] fs B.out ⟨by rw [List.append_nil]; exact S6.out, trivial, HL.out, by simp only [Dt.prs]; rw [HNL.out]; simp [Tr.prs], by simp only [Dt.olds]; rw [HNL.out]; simp [Tr.hds], by simp [fp], rfl, by simp, by simp only [Dt.high]; rw [HNL.out]; simp [Tr.high], by simp only [Dt.high]; rw [HNL.out]; simp [Tr.high]⟩)
      go_wp2_with fail
      refine bodyPost_ret (v := .agg #[.pointer none, .int .i64 L.root.1, .int .i64 L.root.2]) ?_ rfl ⟨old L, _, _, rfl, HPO.out.box X6.out HKX.out _ _ _⟩
      rw [results_one rfl]
      go_simp
    · have HON := hide ho
      have hsn : L ≠ .nil := fun e => by
        have h1 := HHL.out
        rw [e] at h1
        simp [Tr.high] at h1
        omega
      have K9 := hide (show Calls Try.prog 48 #[.pointer (some ⟨gd, 0, none⟩), .agg #[.pointer none, .int .i64 L.root.1, .int .i64 L.root.2], .int .i64 1] w6 (TkRet1 F w0 gm gd gn fs L w6) from take1_any HC.out L HL.out.1 HL.out.2 hsn (by have := HH.out; omega) S6.out.dr (by have := HH.out; omega))
      clear hsn ho
      go_wp2_with fail
      refine K9.out.mono ?_
      rintro e w7 ⟨q, k2, v2, bl, br, h2, d1, op1, fs2, rfl, PO, hpr⟩
      have HPR := hide hpr
      obtain ⟨bd, hbd⟩ : ∃ u, d1.bv = u := ⟨_, rfl⟩
      have HBV := hide hbd
      rw [hbd]
      clear hbd
      obtain ⟨xo, xs, xt⟩ := bd
      have D8 := (Below.refl w7.heap.size w7).alloc (Nat.le_refl _) (.cells #[pv xo, .int .i64 xs, .int .i64 xt] 76)
      have XQ := hide (Bxb.new w7 (xo, xs, xt))
      have HP8 := hide (PO.below D8)
      unfold bvv pv
      unfold pv at XQ HP8
      simp only at XQ HP8 ⊢
      generalize hmx : (xo.map fun q => (⟨q, 0, none⟩ : Addr)) = mx at *
      have HMX := hide hmx
      clear hmx D8 PO hpr c2 c3 c4 c5 c6 c7 K9
      go_upto_region 8 with (fail)
      generalize w7.heap.size = kq at *
      generalize World.alloc w7 _ = w8 at *
      have XO8 := hide (HP8.out.S.boxed XO6.out (by simp))
      have X8 := hide (HP8.out.S.boxed X6.out (by simp))
      obtain ⟨x0, x1, x2⟩ := XQ.out.three
      obtain ⟨u0, u1, u2⟩ := XO8.out.three
      have hq1 : q ≠ kq := box_ne XQ.out HP8.out.B (by decide)
      have hq2 : q ≠ ko := box_ne XO8.out HP8.out.B (by decide)
      have HB8 := hide HP8.out.B
      obtain ⟨-, -, y2, y3, y4, y5, y6, y7, -⟩ := HP8.out.B.nine
      have f2 := HP8.out.B.fz 2
      have f3 := HP8.out.B.fz 3
      have f4 := HP8.out.B.fz 4
      have f5 := HP8.out.B.fz 5
      have f6 := HP8.out.B.fz 6
      have f7 := HP8.out.B.fz 7
      unfold pv at x0 u0
      simp only [HMX.out, Option.map_none] at x0 x1 x2 u0 u1 u2
      go_region
      all_goals
        have M9 := (mod6 w8 q 2 3 4 5 6 7 (.pointer mx) (.int .i64 xs) (.int .i64 xt) (.pointer none) (.int .i64 R.root.1) (.int .i64 R.root.2)).drew
        have F9 := hide (show Fb ((((((w8.setCell ⟨q, 2, none⟩ (.pointer mx)).setCell ⟨q, 3, none⟩ (.int .i64 xs)).setCell ⟨q, 4, none⟩ (.int .i64 xt)).setCell ⟨q, 5, none⟩ (.pointer none)).setCell ⟨q, 6, none⟩ (.int .i64 R.root.1)).setCell ⟨q, 7, none⟩ (.int .i64 R.root.2)).drew q k2 v2 d1.bv (old R).bv h2 by
          have e := (HP8.out.B.setL d1.bv).setR (none, R.root.1, R.root.2)
          rw [HBV.out] at e ⊢
          unfold pv at e
          simp only [HMX.out, Option.map_none] at e
          exact Fb.drew e)
        have S9 := hide (HP8.out.S.trans (Stp.of_mod HP8.out.S.dr HP8.out.B HP8.out.q0.1 M9) (fun x hx => .inr (by rw [List.mem_singleton.1 hx]; exact HP8.out.q0.2)))
        have D9 := hide ((Stp.of_mod HP8.out.S.dr HP8.out.B HP8.out.q0.1 M9).din1 HP8.out.D HP8.out.qn)
        have X9 := hide ((Stp.of_mod HP8.out.S.dr HP8.out.B HP8.out.q0.1 M9).boxed X8.out (fun e => (box_ne X8.out HB8.out (by decide)) (List.mem_singleton.1 e).symm))
        clear M9 y2 y3 y4 y5 y6 y7 f2 f3 f4 f5 f6 f7 x0 x1 x2 u0 u1 u2 hq1 hq2
        generalize (World.setCell (World.setCell (World.setCell (World.setCell (World.setCell (World.setCell w8 _ _) _ _) _ _) _ _) _ _) _ _).drew = w9 at *
        have K10 := hide (close_any HC.out S9.out.dr q k2 v2 h2 d1 (old R) F9.out D9.out trivial HP8.out.ok.li HR.out.1 (by have h1 := HP8.out.hi; have h2 := HH.out; simp only [Dt.high] at *; omega) HP8.out.q0.1)
        go_wp2_with fail
        refine K10.out.mono ?_
        rintro e w10 ⟨rfl, S10, F10⟩
        have c1 := HP8.out.cnt
        have c3 := HP8.out.len
        have c4 := HP8.out.lo
        have c5 := HP8.out.hi
        have e1 := HP8.out.olds
        have hHH := HH.out
        have hHS := HHL.out
        have hHO := HHR.out
        have hHC := HCC.out
        have hON := HON.out
        have D10 := S10.din1 D9.out HP8.out.qn
        have hsz := S6.out.mod.size
        have hsz9 := HP8.out.S.mod.size
        have hS := (S6.out.trans S9.out (by simp)).trans S10 (fun x hx => .inr (by rw [List.mem_singleton.1 hx]; exact Nat.le_trans hsz HP8.out.q0.2))
        have PT := HW.out w1 w10 (new q k2 v2 (1 + max (d1).high ((old R)).high) d1 (old R)) op1 fs2 B.out ⟨hS, ⟨F10, D10, trivial, HP8.out.qn, by simp [fp], by simp [fp], HP8.out.q0.1⟩, ⟨rfl, by simp only [Dt.high] at *; omega, by simp only [Dt.high] at *; omega, HP8.out.ok, HR.out⟩, by simp only [Dt.prs]; rw [HPR.out]; try simp, by
            rw [List.perm_iff_count] at e1 ⊢
            intro a
            have := e1 a
            simp only [Dt.olds, List.count_append] at *
            omega, fun x hx => by
            simp only [fp, List.mem_cons, List.mem_append, List.not_mem_nil, or_false, false_or] at hx
            rcases hx with rfl | hx
            · exact Nat.le_trans hsz HP8.out.q0.2
            · exact Nat.le_trans hsz (HP8.out.fp x hx), by simp [Dt.cnt]; omega, by omega, by simp only [Dt.high] at *; omega, by simp only [Dt.high] at *; omega⟩
        have X10 := hide (S10.boxed X9.out (fun e => (box_ne X9.out F9.out (by decide)) (List.mem_singleton.1 e).symm))
        have HPT := hide PT
        clear PT hS D10 c1 c3 c4 c5 e1 hHH hHS hHO hHC hON hsz hsz9 S10 F10 K10
        obtain ⟨b0, b1, b2⟩ := X10.out.three
        have g0 := X10.out.fz 0
        have g1 := X10.out.fz 1
        have g2 := X10.out.fz 2
        unfold pv at b0
        simp only [Option.map_none, Option.map_some] at b0 b1 b2 ⊢
        unfold bvv pv
        simp only [Option.map_none, Option.map_some]
        go_wp2_with fail
        refine bodyPost_ret (v := .agg #[.pointer (some ⟨q, 0, none⟩), .int .i64 0, .int .i64 0]) ?_ rfl ⟨_, _, _, rfl, HPT.out.box X10.out HKX.out _ _ _⟩
        rw [results_one rfl]
        go_simp
  case' _ =>
    have hc := HCC.out
    obtain ⟨c2, c3, c4, c5, c6, c7⟩ := A2.out _ B4.out
    have X4 := hide (X.out.below B4.out)
    have S4 := hide (Stp.of_below HD1.out B4.out [])
    have D5 := (Below.refl w4.heap.size w4).alloc (Nat.le_refl _) (.cells #[.pointer none, .int .i64 L.root.1, .int .i64 L.root.2] 76)
    have XO := hide (show Bxb (w4.alloc (.cells #[.pointer none, .int .i64 L.root.1, .int .i64 L.root.2] 76)) w4.heap.size (none, L.root.1, L.root.2) from Bxb.new w4 (none, L.root.1, L.root.2))
    have S5 := hide (S4.out.trans (Stp.of_below S4.out.dr D5 []) (by simp))
    have B5 := hide (B4.out.trans (D5.mono B4.out.size))
    have HKO := hide (show w1.heap.size ≤ w4.heap.size from B4.out.size)
    clear D5 S4 X4
    have d1 : decide (hr < hl) = false := by simp; omega
    go_upto_region 5 with (fail)
    clear c2 c3 c4 c5 c6 c7
    generalize w4.heap.size = ko at *
    generalize World.alloc w4 _ = w5 at *
    obtain ⟨x0, x1, x2⟩ := XO.out.three
    unfold pv at x0
    simp only [Option.map_none] at x0 x1 x2
    go_wp2_with fail
    refine (KHL.out _ B5.out).mono ?_
    rintro e w6 ⟨rfl, hb⟩
    have B6 := hide (B5.out.trans (hb.mono B5.out.size))
    have XO6 := hide (XO.out.below hb)
    have X6 := hide (X.out.below B6.out)
    have F6 := hide (HF.out.below3 B6.out)
    have S6 := hide (Stp.of_below HD1.out B6.out [])
    obtain ⟨c2, c3, c4, c5, c6, c7⟩ := A2.out _ B6.out
    clear hb XO S5 B5 x0 x1 x2 KHL KHR A2
    have hcs : (hl = 0 ∧ ((hl : Int) == 0) = true) ∨ (¬ hl = 0 ∧ ((hl : Int) == 0) = false) := by
      by_cases hc : hl = 0
      · exact .inl ⟨hc, by rw [hc]; rfl⟩
      · exact .inr ⟨hc, by simp only [beq_eq_false_iff_ne, ne_eq]; omega⟩
    rcases hcs with ⟨ho, q1⟩ | ⟨ho, q1⟩
    · obtain ⟨b0, b1, b2⟩ := X6.out.three
      have g0 := X6.out.fz 0
      have g1 := X6.out.fz 1
      have g2 := X6.out.fz 2
      unfold pv at b0
      simp only [Option.map_none] at b0 b1 b2
      have hne : p ≠ kr := box_ne X6.out F6.out (by decide)
      have HNL := hide (show L = .nil from by
        have h1 := HHL.out
        rw [ho] at h1
        cases hL : L with
        | nil => rfl
        | node _ _ _ _ _ => rw [hL] at h1; simp [Tr.high] at h1)
      have HPO := hide (HW.out w1 w6 (old R) [] fs B.out ⟨by rw [List.append_nil]; exact S6.out, trivial, HR.out, by simp only [Dt.prs]; rw [HNL.out]; simp [Tr.prs], by simp only [Dt.olds]; rw [HNL.out]; simp [Tr.hds], by simp [fp], rfl, by simp, by simp only [Dt.high]; rw [HNL.out]; simp [Tr.high], by simp only [Dt.high]; rw [HNL.out]; simp [Tr.high]⟩)
      go_wp2_with fail
      refine bodyPost_ret (v := .agg #[.pointer none, .int .i64 R.root.1, .int .i64 R.root.2]) ?_ rfl ⟨old R, _, _, rfl, HPO.out.box X6.out HKX.out _ _ _⟩
      rw [results_one rfl]
      go_simp
    · have HON := hide ho
      have hsn : R ≠ .nil := fun e => by
        have h1 := HHR.out
        rw [e] at h1
        simp [Tr.high] at h1
        omega
      have K9 := hide (show Calls Try.prog 48 #[.pointer (some ⟨gd, 0, none⟩), .agg #[.pointer none, .int .i64 R.root.1, .int .i64 R.root.2], .int .i64 0] w6 (TkRet0 F w0 gm gd gn fs R w6) from take0_any HC.out R HR.out.1 HR.out.2 hsn (by have := HH.out; omega) S6.out.dr (by have := HH.out; omega))
      clear hsn ho
      go_wp2_with fail
      refine K9.out.mono ?_
      rintro e w7 ⟨q, k2, v2, bl, br, h2, d1, op1, fs2, rfl, PO, hpr⟩
      have HPR := hide hpr
      obtain ⟨bd, hbd⟩ : ∃ u, d1.bv = u := ⟨_, rfl⟩
      have HBV := hide hbd
      rw [hbd]
      clear hbd
      obtain ⟨xo, xs, xt⟩ := bd
      have D8 := (Below.refl w7.heap.size w7).alloc (Nat.le_refl _) (.cells #[pv xo, .int .i64 xs, .int .i64 xt] 76)
      have XQ := hide (Bxb.new w7 (xo, xs, xt))
      have HP8 := hide (PO.below D8)
      unfold bvv pv
      unfold pv at XQ HP8
      simp only at XQ HP8 ⊢
      generalize hmx : (xo.map fun q => (⟨q, 0, none⟩ : Addr)) = mx at *
      have HMX := hide hmx
      clear hmx D8 PO hpr c2 c3 c4 c5 c6 c7 K9
      go_upto_region 8 with (fail)
      generalize w7.heap.size = kq at *
      generalize World.alloc w7 _ = w8 at *
      have XO8 := hide (HP8.out.S.boxed XO6.out (by simp))
      have X8 := hide (HP8.out.S.boxed X6.out (by simp))
      obtain ⟨x0, x1, x2⟩ := XQ.out.three
      obtain ⟨u0, u1, u2⟩ := XO8.out.three
      have hq1 : q ≠ kq := box_ne XQ.out HP8.out.B (by decide)
      have hq2 : q ≠ ko := box_ne XO8.out HP8.out.B (by decide)
      have HB8 := hide HP8.out.B
      obtain ⟨-, -, y2, y3, y4, y5, y6, y7, -⟩ := HP8.out.B.nine
      have f2 := HP8.out.B.fz 2
      have f3 := HP8.out.B.fz 3
      have f4 := HP8.out.B.fz 4
      have f5 := HP8.out.B.fz 5
      have f6 := HP8.out.B.fz 6
      have f7 := HP8.out.B.fz 7
      unfold pv at x0 u0
      simp only [HMX.out, Option.map_none] at x0 x1 x2 u0 u1 u2
      go_region
      all_goals
        have M9 := (mod6 w8 q 5 6 7 2 3 4 (.pointer mx) (.int .i64 xs) (.int .i64 xt) (.pointer none) (.int .i64 L.root.1) (.int .i64 L.root.2)).drew
        have F9 := hide (show Fb ((((((w8.setCell ⟨q, 5, none⟩ (.pointer mx)).setCell ⟨q, 6, none⟩ (.int .i64 xs)).setCell ⟨q, 7, none⟩ (.int .i64 xt)).setCell ⟨q, 2, none⟩ (.pointer none)).setCell ⟨q, 3, none⟩ (.int .i64 L.root.1)).setCell ⟨q, 4, none⟩ (.int .i64 L.root.2)).drew q k2 v2 (old L).bv d1.bv h2 by
          have e := (HP8.out.B.setR d1.bv).setL (none, L.root.1, L.root.2)
          rw [HBV.out] at e ⊢
          unfold pv at e
          simp only [HMX.out, Option.map_none] at e
          exact Fb.drew e)
        have S9 := hide (HP8.out.S.trans (Stp.of_mod HP8.out.S.dr HP8.out.B HP8.out.q0.1 M9) (fun x hx => .inr (by rw [List.mem_singleton.1 hx]; exact HP8.out.q0.2)))
        have D9 := hide ((Stp.of_mod HP8.out.S.dr HP8.out.B HP8.out.q0.1 M9).din1 HP8.out.D HP8.out.qn)
        have X9 := hide ((Stp.of_mod HP8.out.S.dr HP8.out.B HP8.out.q0.1 M9).boxed X8.out (fun e => (box_ne X8.out HB8.out (by decide)) (List.mem_singleton.1 e).symm))
        clear M9 y2 y3 y4 y5 y6 y7 f2 f3 f4 f5 f6 f7 x0 x1 x2 u0 u1 u2 hq1 hq2
        generalize (World.setCell (World.setCell (World.setCell (World.setCell (World.setCell (World.setCell w8 _ _) _ _) _ _) _ _) _ _) _ _).drew = w9 at *
        have K10 := hide (close_any HC.out S9.out.dr q k2 v2 h2 (old L) d1 F9.out trivial D9.out HL.out.1 HP8.out.ok.li (by have h1 := HP8.out.hi; have h2 := HH.out; simp only [Dt.high] at *; omega) HP8.out.q0.1)
        go_wp2_with fail
        refine K10.out.mono ?_
        rintro e w10 ⟨rfl, S10, F10⟩
        have c1 := HP8.out.cnt
        have c3 := HP8.out.len
        have c4 := HP8.out.lo
        have c5 := HP8.out.hi
        have e1 := HP8.out.olds
        have hHH := HH.out
        have hHS := HHR.out
        have hHO := HHL.out
        have hHC := HCC.out
        have hON := HON.out
        have D10 := S10.din1 D9.out HP8.out.qn
        have hsz := S6.out.mod.size
        have hsz9 := HP8.out.S.mod.size
        have hS := (S6.out.trans S9.out (by simp)).trans S10 (fun x hx => .inr (by rw [List.mem_singleton.1 hx]; exact Nat.le_trans hsz HP8.out.q0.2))
        have PT := HW.out w1 w10 (new q k2 v2 (1 + max ((old L)).high (d1).high) (old L) d1) op1 fs2 B.out ⟨hS, ⟨F10, trivial, D10, by simp [fp], HP8.out.qn, by simp [fp], HP8.out.q0.1⟩, ⟨rfl, by simp only [Dt.high] at *; omega, by simp only [Dt.high] at *; omega, HL.out, HP8.out.ok⟩, by simp only [Dt.prs]; rw [HPR.out]; try simp, by
            rw [List.perm_iff_count] at e1 ⊢
            intro a
            have := e1 a
            simp only [Dt.olds, List.count_append] at *
            omega, fun x hx => by
            simp only [fp, List.mem_cons, List.mem_append, List.not_mem_nil, or_false, false_or] at hx
            rcases hx with rfl | hx
            · exact Nat.le_trans hsz HP8.out.q0.2
            · exact Nat.le_trans hsz (HP8.out.fp x hx), by simp [Dt.cnt]; omega, by omega, by simp only [Dt.high] at *; omega, by simp only [Dt.high] at *; omega⟩
        have X10 := hide (S10.boxed X9.out (fun e => (box_ne X9.out F9.out (by decide)) (List.mem_singleton.1 e).symm))
        have HPT := hide PT
        clear PT hS D10 c1 c3 c4 c5 e1 hHH hHS hHO hHC hON hsz hsz9 S10 F10 K10
        obtain ⟨b0, b1, b2⟩ := X10.out.three
        have g0 := X10.out.fz 0
        have g1 := X10.out.fz 1
        have g2 := X10.out.fz 2
        unfold pv at b0
        simp only [Option.map_none, Option.map_some] at b0 b1 b2 ⊢
        unfold bvv pv
        simp only [Option.map_none, Option.map_some]
        go_wp2_with fail
        refine bodyPost_ret (v := .agg #[.pointer (some ⟨q, 0, none⟩), .int .i64 0, .int .i64 0]) ?_ rfl ⟨_, _, _, rfl, HPT.out.box X10.out HKX.out _ _ _⟩
        rw [results_one rfl]
        go_simp
end Go.Proofs.Ytcckamajiebgeaa
