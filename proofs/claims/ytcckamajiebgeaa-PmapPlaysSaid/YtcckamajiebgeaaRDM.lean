/-
  A draft's branch without a key. Conditions: the branch is an old tree as it must be, not too high; the draft is in memory.
  A draft's branch without a key that it hasn't: nothing is told. Conditions: the branch is an old tree as it must be, not too high; the draft is in memory.
-/
import Derived.Test.YtcckamajiebgeaaRJM
namespace Go.Proofs.Ytcckamajiebgeaa
open Go.RowKit
set_option linter.unusedVariables false
set_option linter.unusedSimpArgs false
set_option maxRecDepth 100000
open Dt

structure DlPost (F : Int → Int → Option Nd) (w0 : World) (gm gd : Nat) (gn : List (Int × Int)) (fs : List Nat) (T : Tr) (P : List Pp) (w w' : World) (d : Dt) (op : List (Int × Int)) (fs' : List Nat) : Prop where
  S : Stp w0 gm gd gn fs [] w w' (gn ++ op) fs'
  D : DIn w0.heap.size w' d
  ok : d.Ok F
  prs : d.prs = P
  olds : T.hds.Perm (d.olds ++ op)
  fp : ∀ k ∈ d.fp, w.heap.size ≤ k
  cnt : d.cnt + 1 = op.length
  len : op.length ≤ 3 * T.high
  lo : T.high ≤ d.high + 1
  hi : d.high ≤ T.high
theorem DlPost.weak {F : Int → Int → Option Nd} {w0 : World} {gm gd : Nat} {gn : List (Int × Int)} {fs : List Nat} {T : Tr} {P : List Pp} {w w1 w' : World} {d : Dt} {op : List (Int × Int)} {fs' : List Nat} (H : DlPost F w0 gm gd gn fs T P w1 w' d op fs') (hD : Dr w0 w gm gd gn fs) (hb : Below w.heap.size w w1) : DlPost F w0 gm gd gn fs T P w w' d op fs' :=
  ⟨(Stp.of_below hD hb []).trans H.S (by simp), H.D, H.ok, H.prs, H.olds, fun k hk => Nat.le_trans hb.size (H.fp k hk), H.cnt, H.len, H.lo, H.hi⟩
theorem DlPost.box {F : Int → Int → Option Nd} {w0 : World} {gm gd : Nat} {gn : List (Int × Int)} {fs : List Nat} {T : Tr} {P : List Pp} {w w' : World} {d : Dt} {op : List (Int × Int)} {fs' : List Nat} (H : DlPost F w0 gm gd gn fs T P w w' d op fs') {kx : Nat} {c : Option Nat × Int × Int} (hb : Bxb w' kx c) (hk : w.heap.size ≤ kx) (x y z : Value) : DlPost F w0 gm gd gn fs T P w (((w'.setCell ⟨kx, 0, none⟩ x).setCell ⟨kx, 1, none⟩ y).setCell ⟨kx, 2, none⟩ z) d op fs' :=
  ⟨H.S.box hb hk x y z, H.D.box hb x y z, H.ok, H.prs, H.olds, H.fp, H.cnt, H.len, H.lo, H.hi⟩
theorem DlPost.below {F : Int → Int → Option Nd} {w0 : World} {gm gd : Nat} {gn : List (Int × Int)} {fs : List Nat} {T : Tr} {P : List Pp} {w w1 w' : World} {d : Dt} {op : List (Int × Int)} {fs' : List Nat} (H : DlPost F w0 gm gd gn fs T P w w1 d op fs') (hb : Below w1.heap.size w1 w') : DlPost F w0 gm gd gn fs T P w w' d op fs' :=
  ⟨H.S.trans (Stp.of_below H.S.dr hb []) (by simp), H.D.below hb, H.ok, H.prs, H.olds, H.fp, H.cnt, H.len, H.lo, H.hi⟩
theorem dl_bal {F : Int → Int → Option Nd} {w0 : World} {gm gd : Nat} {gn : List (Int × Int)} {fs : List Nat} {T : Tr} {P : List Pp} {w w7 w8 : World} {d f : Dt} {opA op2 : List (Int × Int)} {fsA fs3 : List Nat} {m : Nat}
    (S1 : Stp w0 gm gd gn fs [] w w7 (gn ++ opA) fsA) (PB : TnPost F w0 gm gd (gn ++ opA) fsA f w7 w8 m d op2 fs3) (hP : f.prs = P) (hO : T.hds.Perm (f.olds ++ opA)) (hfp : ∀ x ∈ f.fp, w.heap.size ≤ x) (hc : f.cnt + 1 = opA.length) (hl : opA.length + 2 ≤ 3 * T.high) (lo : T.high ≤ d.high + 1) (hi : d.high ≤ T.high) :
    DlPost F w0 gm gd gn fs T P w w8 d (opA ++ op2) fs3 := by
  have h1 := PB.cnt
  have h2 := PB.len
  refine ⟨?_, PB.D, PB.g.ok, PB.g.prs.trans hP, ?_, fun x hx => ?_, by simp; omega, by simp; omega, lo, hi⟩
  · rw [← List.append_assoc]
    exact S1.trans PB.S (fun x hx => .inr (hfp x hx))
  · have e1 := PB.g.olds
    rw [List.perm_iff_count] at hO e1 ⊢
    intro a
    have := hO a
    have := e1 a
    simp only [List.count_append] at *
    omega
  · rcases PB.g.fp x hx with h | h
    · exact hfp x h
    · exact Nat.le_trans S1.mod.size h
def DlYes (F : Int → Int → Option Nd) (w0 : World) (gm gd : Nat) (gn : List (Int × Int)) (fs : List Nat) (T : Tr) (P : List Pp) (w : World) (e : Ending) (w' : World) : Prop :=
  ∃ d op fs', e = .returned (.tuple #[bvv d.bv, .bool true]) ∧ DlPost F w0 gm gd gn fs T P w w' d op fs'
set_option maxHeartbeats 8000000 in
theorem del_yes {w0 : World} {gm gd : Nat} {F : Int → Int → Option Nd} (C : Ctx w0 gm F) (k : Int) : ∀ (T : Tr) (hT : T.Lies F) (hB : T.Bal) (hO : T.Ord) (hh : T.high ≤ 200) (hk : (fiP k T.prs).isSome = true) {w : World} {gn : List (Int × Int)} {fs : List Nat} (hD : Dr w0 w gm gd gn fs) (hgn : gn.length + 3 * T.high ≤ 880),
    Calls Try.prog 31 #[.pointer (some ⟨gd, 0, none⟩), bvv (old T).bv, .int .i64 k] w (DlYes F w0 gm gd gn fs T (woP k T.prs) w) := by
  intro T
  induction T with
  | nil =>
    intro hT hB hO hh hk
    simp [Tr.prs, fiP] at hk
  | node g kx vx L R ihl ihr =>
    intro hT hB hO hh hk w gn fs hD hgn
    obtain ⟨D, X1, X2⟩ := two_box w (none, g.1, g.2)
    simp only [pv, Option.map_none] at D X1 X2
    have HX1 := hide X1
    have HX2 := hide X2
    have HW := hide (fun (W w' : World) (P : List Pp) (d : Dt) (op : List (Int × Int)) (fs' : List Nat) (hW : Below w.heap.size w W) (H : DlPost F w0 gm gd gn fs (.node g kx vx L R) P W w' d op fs') => H.weak hD hW)
    have B := hide D
    have HD1 := hide (hD.below D)
    simp only [Tr.high] at hgn hh
    have K1 := hide (open_old C HD1.out (by omega) g kx vx L R hT)
    have HC := hide C
    have HT := hide hT
    have HB := hide hB
    have HO := hide hO
    have HK := hide hk
    have HH := hide (And.intro hgn hh)
    have IHL := hide (show (fiP k L.prs).isSome = true → ∀ (w : World) (gn : List (Int × Int)) (fs : List Nat), Dr w0 w gm gd gn fs → gn.length + 3 * L.high ≤ 880 → Calls Try.prog 31 #[.pointer (some ⟨gd, 0, none⟩), .agg #[.pointer none, .int .i64 L.root.1, .int .i64 L.root.2], .int .i64 k] w (DlYes F w0 gm gd gn fs L (woP k L.prs) w) from
      fun hf w gn fs h1 h2 => ihl hT.2.2.2.2.1 hB.2.2.1 hO.left (by omega) hf h1 h2)
    have IHR := hide (show (fiP k R.prs).isSome = true → ∀ (w : World) (gn : List (Int × Int)) (fs : List Nat), Dr w0 w gm gd gn fs → gn.length + 3 * R.high ≤ 880 → Calls Try.prog 31 #[.pointer (some ⟨gd, 0, none⟩), .agg #[.pointer none, .int .i64 R.root.1, .int .i64 R.root.2], .int .i64 k] w (DlYes F w0 gm gd gn fs R (woP k R.prs) w) from
      fun hf w gn fs h1 h2 => ihr hT.2.2.2.2.2 hB.2.2.2 hO.right (by omega) hf h1 h2)
    clear D hD C X1 X2 hT hB hO hh hgn ihl ihr hk
    obtain ⟨gs, gt⟩ := g
    simp only at HX1 HX2 B HD1 HW
    change Hid (Calls _ _ #[.pointer (some ⟨gd, 0, none⟩), .agg #[.pointer none, .int .i64 gs, .int .i64 gt]] _ _) at K1
    change Calls _ _ #[.pointer (some ⟨gd, 0, none⟩), .agg #[.pointer none, .int .i64 gs, .int .i64 gt], .int .i64 k] _ _
    go_enter Try.func31, Try.ntmps31
    go_upto_region 1 with (fail)
    obtain ⟨kr, hkr⟩ : ∃ q, w.heap.size + 1 = q := ⟨_, rfl⟩
    obtain ⟨kb, hkb⟩ : ∃ q, w.heap.size = q := ⟨_, rfl⟩
    have HKX := hide (show w.heap.size ≤ kr by omega)
    rw [hkr] at HX2 ⊢
    rw [hkb] at HX1 ⊢
    clear hkr hkb
    generalize World.alloc (World.alloc w _) _ = w1 at *
    obtain ⟨x0, x1, x2⟩ := HX1.out.three
    unfold pv at x0
    simp only [Option.map_none] at x0 x1 x2
    go_wp2_with fail
    refine K1.out.mono ?_
    rintro e w2 ⟨p, k1, v1, h1, a, b, op, fs1, rfl, O, S1, D1⟩
    obtain ⟨rfl, rfl, rfl, rfl, rfl, rfl, hpp⟩ := O.old
    have HS1 := hide S1
    have HF := hide D1.1
    have HPP := hide (And.intro hpp D1.2.2.2.2.2.2)
    have X2 := hide (S1.boxed HX2.out (by simp))
    obtain ⟨um, hum⟩ := HC.out.map
    have HM := hide hum
    have KM := hide (fun (V : World) (hV : Below w2.heap.size w2 V) => show V.cell? ⟨gd, 0, none⟩ = some (.pointer (some ⟨gm, 0, none⟩)) ∧ V.cell? ⟨gm, 1, none⟩ = some (.func (.func 11) #[] #[]) ∧ V.cell? ⟨p, 0, none⟩ = some (.int .i64 k1) from
      ⟨cell_b hV HS1.out.dr.cell0, cell_b ((HS1.out.dr.bel).trans (hV.mono HS1.out.dr.bel.size)) (cell_of_row w0 gm 1 _ _ (0, 0) HM.out), cell_b hV HF.out.nine.1⟩)
    clear K1 x0 x1 x2 O S1 D1 hpp hum
    have z := KM.out w2 (Below.refl _ _)
    have BD := hide ((Below.refl w2.heap.size w2).drew)
    have zd := KM.out _ BD.out
    have hcs : (k < k1 ∧ cmZ k k1 = -1) ∨ (k1 = k ∧ cmZ k k1 = 0) ∨ (k1 < k ∧ cmZ k k1 = 1) := by
      unfold cmZ
      by_cases h1 : k < k1
      · exact .inl ⟨h1, by rw [if_pos h1]⟩
      · by_cases h2 : k1 < k
        · exact .inr (.inr ⟨h2, by rw [if_neg h1, if_pos h2]⟩)
        · exact .inr (.inl ⟨by omega, by rw [if_neg h1, if_neg h2]⟩)
    have KCM := hide (fun (V : World) => compare_any k k1 V)
    generalize cmZ k k1 = c at *
    go_upto_region 4 with (fail)
    go_region_held3 (fun w' => w'.cell? ⟨gd, 0, none⟩ = some (.pointer (some ⟨gm, 0, none⟩)) ∧ w'.cell? ⟨gm, 1, none⟩ = some (.func (.func 11) #[] #[]) ∧ w'.cell? ⟨p, 0, none⟩ = some (.int .i64 k1))
      (first | with_reducible exact z | with_reducible exact zd | go_keep)
      (first
        | (with_reducible refine (KCM.out _).mono ?_
           rintro e w3 ⟨rfl, rfl⟩))
    have B3 := hide (BD.out)
    generalize w2.drew = w3 at *
    have HF3 := hide (HF.out.below3 B3.out)
    clear KCM z zd KM HF BD
    have S3 := hide (HS1.out.trans (Stp.of_below HS1.out.dr B3.out []) (by simp))
    have X3 := hide (X2.out.below B3.out)
    have HSUB := hide (srt_split HO.out)
    have HBL := hide HB.out
    rcases hcs with ⟨hc, rfl⟩ | ⟨hc, rfl⟩ | ⟨hc, rfl⟩
    case inr.inl =>
      subst hc
      have KJ := hide (join_any HC.out S3.out.dr p k1 v1 0 L R HF3.out HT.out.2.2.2.2.1 HT.out.2.2.2.2.2 HB.out.2.2.1 HB.out.2.2.2 HB.out.1 HB.out.2.1 (by have := HH.out; omega) (by have := HH.out; simp; omega))
      clear IHL IHR
      go_wp2_with fail
      refine KJ.out.mono ?_
      rintro e w5 ⟨d, op1, fs2, rfl, PO⟩
      have hso := S3.out.mod.size
      have e1 := PO.olds
      have c1 := PO.cnt
      have c2 := PO.len
      have c3 := PO.lo
      have c4 := PO.hi
      have HPO := hide (HW.out w1 w5 (woP k1 (Tr.node (gs, gt) k1 v1 L R).prs) d ([(gs, gt)] ++ op1) fs2 B.out ⟨by rw [← List.append_assoc]; exact S3.out.trans PO.S (by simp), PO.D, PO.ok, by rw [PO.prs]; exact (woP_eq (x := (k1, v1)) rfl HSUB.out.2.2.1 HSUB.out.2.2.2).symm, by
        rw [List.perm_iff_count] at e1 ⊢
        intro a
        have := e1 a
        simp only [Tr.hds, List.count_append, List.count_cons, List.count_nil] at *
        omega, fun x hx => Nat.le_trans hso (PO.fp x hx), by simp; omega, by simp [Tr.high]; omega, by simp [Tr.high]; omega, by simp [Tr.high]; omega⟩)
      have X5 := hide (PO.S.boxed X3.out (by simp))
      clear KJ PO hso e1 c1 c2 c3 c4
      obtain ⟨b0, b1, b2⟩ := X5.out.three
      have g0 := X5.out.fz 0
      have g1 := X5.out.fz 1
      have g2 := X5.out.fz 2
      obtain ⟨bd, hbd⟩ : ∃ u, d.bv = u := ⟨_, rfl⟩
      have HBV2 := hide hbd
      rw [hbd]
      clear hbd
      obtain ⟨ro, rs, rt⟩ := bd
      unfold pv at b0
      unfold bvv pv
      simp only [Option.map_none] at b0 ⊢
      generalize hmx2 : (ro.map fun q => (⟨q, 0, none⟩ : Addr)) = mx2
      have HMX2 := hide hmx2
      clear hmx2
      go_wp2_with fail
      refine bodyPost_ret (v := .tuple #[.agg #[.pointer mx2, .int .i64 rs, .int .i64 rt], .bool true]) ?_ rfl ⟨d, _, _, by rw [HBV2.out, ← HMX2.out]; rfl, HPO.out.box X5.out HKX.out _ _ _⟩
      rw [results_cell_tmp rfl]
      go_simp
    case inl =>
      have KS := hide (fun (V : World) => side_any (-1) V)
      rw [if_pos (by decide)] at KS
      have HFI := hide (show (fiP k L.prs).isSome = true from by rw [← fiP_lo (x := (k1, v1)) (l := L.prs) hc HSUB.out.2.2.2]; exact HK.out)
      have K9 := hide (IHL.out HFI.out w3 (gn ++ [(gs, gt)]) fs1 S3.out.dr (by have := HH.out; simp; omega))
      have c0 : w3.cell? ⟨p, 2, none⟩ = some (.pointer none) := HF3.out.nine.2.2.1
      have c1 : w3.cell? ⟨p, 3, none⟩ = some (.int .i64 L.root.1) := HF3.out.nine.2.2.2.1
      have c2 : w3.cell? ⟨p, 4, none⟩ = some (.int .i64 L.root.2) := HF3.out.nine.2.2.2.2.1
      clear IHL IHR
      go_wp2_with fail
      refine (KS.out _).mono ?_
      rintro e w4 ⟨rfl, rfl⟩
      go_upto_region 8 with (fail)
      go_wp2_with fail
      refine K9.out.mono ?_
      rintro e w5 ⟨d1, op1, fs2, rfl, PO⟩
      have HPO := hide PO
      clear PO c0 c1 c2 K9
      obtain ⟨bd, hbd⟩ : ∃ u, d1.bv = u := ⟨_, rfl⟩
      have HBV := hide hbd
      rw [hbd]
      clear hbd
      obtain ⟨xo, xs, xt⟩ := bd
      have D6 := (Below.refl w5.heap.size w5).alloc (Nat.le_refl _) (.cells #[pv xo, .int .i64 xs, .int .i64 xt] 76)
      have XQ := hide (Bxb.new w5 (xo, xs, xt))
      have HP6 := hide (HPO.out.below D6)
      unfold bvv pv
      unfold pv at XQ HP6
      simp only at XQ HP6 ⊢
      generalize hmx : (xo.map fun q => (⟨q, 0, none⟩ : Addr)) = mx at *
      have HMX := hide hmx
      clear hmx D6
      go_upto_region 11 with (fail)
      generalize w5.heap.size = kq at *
      generalize World.alloc w5 _ = w6 at *
      have F6 := hide (HP6.out.S.fb HF3.out (by simp))
      have y2 := F6.out.nine.2.2.1
      have y3 := F6.out.nine.2.2.2.1
      have y4 := F6.out.nine.2.2.2.2.1
      have f2 := F6.out.fz 2
      have f3 := F6.out.fz 3
      have f4 := F6.out.fz 4
      obtain ⟨x0, x1, x2⟩ := XQ.out.three
      have hqp : p ≠ kq := box_ne XQ.out F6.out (by decide)
      unfold pv at x0
      simp only [HMX.out] at x0 x1 x2
      go_region
      all_goals
        have M7 := (mod3 w6 p 2 3 4 (.pointer mx) (.int .i64 xs) (.int .i64 xt)).drew
        have F7 := hide (show Fb (((w6.setCell ⟨p, 2, none⟩ (.pointer mx)).setCell ⟨p, 3, none⟩ (.int .i64 xs)).setCell ⟨p, 4, none⟩ (.int .i64 xt)).drew p k1 v1 d1.bv (old R).bv 0 by
          have e := F6.out.setL d1.bv
          rw [HBV.out] at e ⊢
          unfold pv at e
          simp only [HMX.out] at e
          exact Fb.drew e)
        have HMM := hide (pt_mem (p := p) S3.out HF3.out HPP.out.1 HPP.out.2 HP6.out.S HP6.out.D (fun x hx => .inr (HP6.out.fp x hx)) M7 X3.out)
        clear M7 y2 y3 y4 f2 f3 f4 x0 x1 x2 hqp
        generalize (World.setCell (World.setCell (World.setCell w6 _ _) _ _) _ _).drew = w7 at *
        have K7 := hide (balance_any HC.out HMM.out.1.dr (by have h1 := HH.out; have h2 := HP6.out.len; simp; omega) p k1 v1 0 d1 (old R) ⟨F7.out, HMM.out.2.1, trivial, HMM.out.2.2.1, by simp [fp], by simp [fp], HPP.out.2⟩ HP6.out.ok ⟨HT.out.2.2.2.2.2, HB.out.2.2.2⟩ (by have h1 := HP6.out.lo; have h2 := HP6.out.hi; have h3 := HBL.out.1; have h4 := HBL.out.2.1; simp only [Dt.high] at *; omega) (by have h1 := HP6.out.lo; have h2 := HP6.out.hi; have h3 := HBL.out.1; have h4 := HBL.out.2.1; simp only [Dt.high] at *; omega) (by have h1 := HP6.out.hi; have h2 := HH.out; simp only [Dt.high] at *; omega))
        go_wp2_with fail
        refine K7.out.mono ?_
        rintro e w8 ⟨d, op2, fs3, rfl, PB, hbal⟩
        have S7' := HMM.out.1
        rw [List.append_assoc] at S7' PB
        have hso := S3.out.mod.size
        have e1 := HP6.out.olds
        have c1 := HP6.out.cnt
        have c3 := HP6.out.len
        have c4 := HP6.out.lo
        have c5 := HP6.out.hi
        have b1 := HBL.out.1
        have b2 := HBL.out.2.1
        have b3 := PB.hh
        have b4 : 1 ≤ L.high := by
          have h1 := HFI.out
          cases hS : L with
          | nil => rw [hS] at h1; simp [Tr.prs, fiP] at h1
          | node _ _ _ _ _ => simp [Tr.high]
        have PT := dl_bal (T := .node (gs, gt) k1 v1 L R) (P := woP k (L.prs ++ (k1, v1) :: R.prs)) S7' PB (by show d1.prs ++ (k1, v1) :: R.prs = woP k (L.prs ++ (k1, v1) :: R.prs); rw [HP6.out.prs, woP_lo (x := (k1, v1)) hc HSUB.out.2.2.2]) (by
          rw [List.perm_iff_count] at e1 ⊢
          intro a
          have := e1 a
          simp only [Dt.olds, Tr.hds, List.count_append, List.count_cons, List.count_nil] at *
          omega) (fun x hx => by
          simp only [fp, List.mem_cons, List.mem_append, List.not_mem_nil, or_false, false_or] at hx
          rcases hx with rfl | hx
          · exact HPP.out.1
          · exact Nat.le_trans hso (HP6.out.fp x hx)) (by simp [Dt.cnt]; omega) (by simp [Tr.high]; omega) (by
          simp only [Dt.high, Tr.high] at *
          by_cases hq : d1.high ≤ R.high + 1 ∧ R.high ≤ d1.high + 1
          · have := hbal hq.1 hq.2
            omega
          · omega) (by
          simp only [Dt.high, Tr.high] at *
          by_cases hq : d1.high ≤ R.high + 1 ∧ R.high ≤ d1.high + 1
          · have := hbal hq.1 hq.2
            omega
          · omega)
        have X8 := hide (PB.S.boxed HMM.out.2.2.2 (fun e => by
          have h1 : kr ∈ (new p k1 v1 0 d1 (old R)).fp := e
          simp only [fp, List.mem_cons, List.mem_append, List.not_mem_nil, or_false, false_or] at h1
          rcases h1 with h1 | h1
          · exact (box_ne HMM.out.2.2.2 F7.out (by decide)) h1.symm
          · exact HMM.out.2.1.nobox HMM.out.2.2.2 h1))
        have HPT := hide (HW.out _ _ _ _ _ _ B.out PT)
        clear PT PB hbal K7 S7' hso e1 c1 c3 c4 c5 b1 b2 b3 b4
        obtain ⟨b0, b1, b2⟩ := X8.out.three
        have g0 := X8.out.fz 0
        have g1 := X8.out.fz 1
        have g2 := X8.out.fz 2
        obtain ⟨bd, hbd⟩ : ∃ u, d.bv = u := ⟨_, rfl⟩
        have HBV2 := hide hbd
        rw [hbd]
        clear hbd
        obtain ⟨ro, rs, rt⟩ := bd
        unfold pv at b0
        unfold bvv pv
        simp only [Option.map_none] at b0 ⊢
        generalize hmx2 : (ro.map fun q => (⟨q, 0, none⟩ : Addr)) = mx2
        have HMX2 := hide hmx2
        clear hmx2
        go_wp2_with fail
        refine bodyPost_ret (v := .tuple #[.agg #[.pointer mx2, .int .i64 rs, .int .i64 rt], .bool true]) ?_ rfl ⟨d, _, _, by rw [HBV2.out, ← HMX2.out]; rfl, HPT.out.box X8.out HKX.out _ _ _⟩
        rw [results_cell_tmp rfl]
        go_simp
    case inr.inr =>
      have KS := hide (fun (V : World) => side_any (1) V)
      rw [if_neg (by decide)] at KS
      have HFI := hide (show (fiP k R.prs).isSome = true from by rw [← fiP_hi (x := (k1, v1)) (r := R.prs) hc HSUB.out.2.2.1]; exact HK.out)
      have K9 := hide (IHR.out HFI.out w3 (gn ++ [(gs, gt)]) fs1 S3.out.dr (by have := HH.out; simp; omega))
      have c0 : w3.cell? ⟨p, 5, none⟩ = some (.pointer none) := HF3.out.nine.2.2.2.2.2.1
      have c1 : w3.cell? ⟨p, 6, none⟩ = some (.int .i64 R.root.1) := HF3.out.nine.2.2.2.2.2.2.1
      have c2 : w3.cell? ⟨p, 7, none⟩ = some (.int .i64 R.root.2) := HF3.out.nine.2.2.2.2.2.2.2.1
      clear IHL IHR
      go_wp2_with fail
      refine (KS.out _).mono ?_
      rintro e w4 ⟨rfl, rfl⟩
      go_upto_region 8 with (fail)
      go_wp2_with fail
      refine K9.out.mono ?_
      rintro e w5 ⟨d1, op1, fs2, rfl, PO⟩
      have HPO := hide PO
      clear PO c0 c1 c2 K9
      obtain ⟨bd, hbd⟩ : ∃ u, d1.bv = u := ⟨_, rfl⟩
      have HBV := hide hbd
      rw [hbd]
      clear hbd
      obtain ⟨xo, xs, xt⟩ := bd
      have D6 := (Below.refl w5.heap.size w5).alloc (Nat.le_refl _) (.cells #[pv xo, .int .i64 xs, .int .i64 xt] 76)
      have XQ := hide (Bxb.new w5 (xo, xs, xt))
      have HP6 := hide (HPO.out.below D6)
      unfold bvv pv
      unfold pv at XQ HP6
      simp only at XQ HP6 ⊢
      generalize hmx : (xo.map fun q => (⟨q, 0, none⟩ : Addr)) = mx at *
      have HMX := hide hmx
      clear hmx D6
      go_upto_region 11 with (fail)
      generalize w5.heap.size = kq at *
      generalize World.alloc w5 _ = w6 at *
      have F6 := hide (HP6.out.S.fb HF3.out (by simp))
      have y2 := F6.out.nine.2.2.2.2.2.1
      have y3 := F6.out.nine.2.2.2.2.2.2.1
      have y4 := F6.out.nine.2.2.2.2.2.2.2.1
      have f2 := F6.out.fz 5
      have f3 := F6.out.fz 6
      have f4 := F6.out.fz 7
      obtain ⟨x0, x1, x2⟩ := XQ.out.three
      have hqp : p ≠ kq := box_ne XQ.out F6.out (by decide)
      unfold pv at x0
      simp only [HMX.out] at x0 x1 x2
      go_region
      all_goals
        have M7 := (mod3 w6 p 5 6 7 (.pointer mx) (.int .i64 xs) (.int .i64 xt)).drew
        have F7 := hide (show Fb (((w6.setCell ⟨p, 5, none⟩ (.pointer mx)).setCell ⟨p, 6, none⟩ (.int .i64 xs)).setCell ⟨p, 7, none⟩ (.int .i64 xt)).drew p k1 v1 (old L).bv d1.bv 0 by
          have e := F6.out.setR d1.bv
          rw [HBV.out] at e ⊢
          unfold pv at e
          simp only [HMX.out] at e
          exact Fb.drew e)
        have HMM := hide (pt_mem (p := p) S3.out HF3.out HPP.out.1 HPP.out.2 HP6.out.S HP6.out.D (fun x hx => .inr (HP6.out.fp x hx)) M7 X3.out)
        clear M7 y2 y3 y4 f2 f3 f4 x0 x1 x2 hqp
        generalize (World.setCell (World.setCell (World.setCell w6 _ _) _ _) _ _).drew = w7 at *
        have K7 := hide (balance_any HC.out HMM.out.1.dr (by have h1 := HH.out; have h2 := HP6.out.len; simp; omega) p k1 v1 0 (old L) d1 ⟨F7.out, trivial, HMM.out.2.1, by simp [fp], HMM.out.2.2.1, by simp [fp], HPP.out.2⟩ ⟨HT.out.2.2.2.2.1, HB.out.2.2.1⟩ HP6.out.ok (by have h1 := HP6.out.lo; have h2 := HP6.out.hi; have h3 := HBL.out.1; have h4 := HBL.out.2.1; simp only [Dt.high] at *; omega) (by have h1 := HP6.out.lo; have h2 := HP6.out.hi; have h3 := HBL.out.1; have h4 := HBL.out.2.1; simp only [Dt.high] at *; omega) (by have h1 := HP6.out.hi; have h2 := HH.out; simp only [Dt.high] at *; omega))
        go_wp2_with fail
        refine K7.out.mono ?_
        rintro e w8 ⟨d, op2, fs3, rfl, PB, hbal⟩
        have S7' := HMM.out.1
        rw [List.append_assoc] at S7' PB
        have hso := S3.out.mod.size
        have e1 := HP6.out.olds
        have c1 := HP6.out.cnt
        have c3 := HP6.out.len
        have c4 := HP6.out.lo
        have c5 := HP6.out.hi
        have b1 := HBL.out.1
        have b2 := HBL.out.2.1
        have b3 := PB.hh
        have b4 : 1 ≤ R.high := by
          have h1 := HFI.out
          cases hS : R with
          | nil => rw [hS] at h1; simp [Tr.prs, fiP] at h1
          | node _ _ _ _ _ => simp [Tr.high]
        have PT := dl_bal (T := .node (gs, gt) k1 v1 L R) (P := woP k (L.prs ++ (k1, v1) :: R.prs)) S7' PB (by show L.prs ++ (k1, v1) :: d1.prs = woP k (L.prs ++ (k1, v1) :: R.prs); rw [HP6.out.prs, woP_hi (x := (k1, v1)) hc HSUB.out.2.2.1]) (by
          rw [List.perm_iff_count] at e1 ⊢
          intro a
          have := e1 a
          simp only [Dt.olds, Tr.hds, List.count_append, List.count_cons, List.count_nil] at *
          omega) (fun x hx => by
          simp only [fp, List.mem_cons, List.mem_append, List.not_mem_nil, or_false, false_or] at hx
          rcases hx with rfl | hx
          · exact HPP.out.1
          · exact Nat.le_trans hso (HP6.out.fp x hx)) (by simp [Dt.cnt]; omega) (by simp [Tr.high]; omega) (by
          simp only [Dt.high, Tr.high] at *
          by_cases hq : L.high ≤ d1.high + 1 ∧ d1.high ≤ L.high + 1
          · have := hbal hq.1 hq.2
            omega
          · omega) (by
          simp only [Dt.high, Tr.high] at *
          by_cases hq : L.high ≤ d1.high + 1 ∧ d1.high ≤ L.high + 1
          · have := hbal hq.1 hq.2
            omega
          · omega)
        have X8 := hide (PB.S.boxed HMM.out.2.2.2 (fun e => by
          have h1 : kr ∈ (new p k1 v1 0 (old L) d1).fp := e
          simp only [fp, List.mem_cons, List.mem_append, List.not_mem_nil, or_false, false_or] at h1
          rcases h1 with h1 | h1
          · exact (box_ne HMM.out.2.2.2 F7.out (by decide)) h1.symm
          · exact HMM.out.2.1.nobox HMM.out.2.2.2 h1))
        have HPT := hide (HW.out _ _ _ _ _ _ B.out PT)
        clear PT PB hbal K7 S7' hso e1 c1 c3 c4 c5 b1 b2 b3 b4
        obtain ⟨b0, b1, b2⟩ := X8.out.three
        have g0 := X8.out.fz 0
        have g1 := X8.out.fz 1
        have g2 := X8.out.fz 2
        obtain ⟨bd, hbd⟩ : ∃ u, d.bv = u := ⟨_, rfl⟩
        have HBV2 := hide hbd
        rw [hbd]
        clear hbd
        obtain ⟨ro, rs, rt⟩ := bd
        unfold pv at b0
        unfold bvv pv
        simp only [Option.map_none] at b0 ⊢
        generalize hmx2 : (ro.map fun q => (⟨q, 0, none⟩ : Addr)) = mx2
        have HMX2 := hide hmx2
        clear hmx2
        go_wp2_with fail
        refine bodyPost_ret (v := .tuple #[.agg #[.pointer mx2, .int .i64 rs, .int .i64 rt], .bool true]) ?_ rfl ⟨d, _, _, by rw [HBV2.out, ← HMX2.out]; rfl, HPT.out.box X8.out HKX.out _ _ _⟩
        rw [results_cell_tmp rfl]
        go_simp
end Go.Proofs.Ytcckamajiebgeaa
namespace Go.Proofs.Ytcckamajiebgeaa
open Go.RowKit
set_option linter.unusedVariables false
set_option linter.unusedSimpArgs false
set_option maxRecDepth 100000
open Dt

def DlNo (w0 : World) (gm gd : Nat) (gn : List (Int × Int)) (fs : List Nat) (T : Tr) (w : World) (e : Ending) (w' : World) : Prop :=
  e = .returned (.tuple #[bvv (old T).bv, .bool false]) ∧ ∃ gn' fs', Stp w0 gm gd gn fs [] w w' gn' fs'
set_option maxHeartbeats 2000000 in
theorem del_nil {w0 w : World} {gm gd : Nat} {F : Int → Int → Option Nd} {gn : List (Int × Int)} {fs : List Nat} (C : Ctx w0 gm F) (hD : Dr w0 w gm gd gn fs) (k : Int) :
    Calls Try.prog 31 #[.pointer (some ⟨gd, 0, none⟩), bvv (old .nil).bv, .int .i64 k] w (DlNo w0 gm gd gn fs .nil w) := by
  obtain ⟨D, X1, X2⟩ := two_box w (none, 0, 0)
  simp only [pv, Option.map_none] at D X1 X2
  have HX1 := hide X1
  have HX2 := hide X2
  have HW := hide (fun (W w' : World) (gn' : List (Int × Int)) (fs' : List Nat) (hW : Below w.heap.size w W) (H : Stp w0 gm gd gn fs [] W w' gn' fs') => (Stp.of_below hD hW []).trans H (by simp))
  have B := hide D
  have HD1 := hide (hD.below D)
  have K1 := hide (open_nil C HD1.out)
  have HC := hide C
  clear D hD C X1 X2
  unfold DlNo
  unfold bvv bv pv at *
  simp only [Option.map_none, Tr.root] at *
  go_enter Try.func31, Try.ntmps31
  go_upto_region 1 with (fail)
  obtain ⟨kx, hkx⟩ : ∃ q, w.heap.size + 1 = q := ⟨_, rfl⟩
  obtain ⟨kb, hkb⟩ : ∃ q, w.heap.size = q := ⟨_, rfl⟩
  have HKX := hide (show w.heap.size ≤ kx by omega)
  have hkk : kb ≠ kx := by omega
  rw [hkx] at HX2 ⊢
  rw [hkb] at HX1 ⊢
  clear hkx hkb
  generalize World.alloc (World.alloc w _) _ = w1 at *
  obtain ⟨x0, x1, x2⟩ := HX1.out.three
  unfold pv at x0
  simp only [Option.map_none] at x0 x1 x2
  go_wp2_with fail
  refine K1.out.mono ?_
  rintro e w2 ⟨rfl, hb⟩
  have B2 := hide hb
  have X1 := hide (HX1.out.below hb)
  have X2 := hide (HX2.out.below hb)
  clear x0 x1 x2 hb
  obtain ⟨x0, x1, x2⟩ := X1.out.three
  obtain ⟨b0, b1, b2⟩ := X2.out.three
  have g0 := X2.out.fz 0
  have g1 := X2.out.fz 1
  have g2 := X2.out.fz 2
  unfold pv at b0 x0
  simp only [Option.map_none] at b0 b1 b2 x0 x1 x2
  go_wp2_with fail
  have S2 := HW.out w1 w2 gn fs B.out (Stp.of_below HD1.out B2.out [])
  refine bodyPost_ret (v := .tuple #[.agg #[.pointer none, .int .i64 0, .int .i64 0], .bool false]) ?_ rfl ⟨rfl, _, _, S2.box X2.out HKX.out _ _ _⟩
  rw [results_cell_tmp rfl]
  go_simp
set_option maxHeartbeats 4000000 in
theorem del_no {w0 : World} {gm gd : Nat} {F : Int → Int → Option Nd} (C : Ctx w0 gm F) (k : Int) : ∀ (T : Tr) (hT : T.Lies F) (hB : T.Bal) (hO : T.Ord) (hh : T.high ≤ 200) (hk : fiP k T.prs = none) {w : World} {gn : List (Int × Int)} {fs : List Nat} (hD : Dr w0 w gm gd gn fs) (hgn : gn.length + 3 * T.high ≤ 880),
    Calls Try.prog 31 #[.pointer (some ⟨gd, 0, none⟩), bvv (old T).bv, .int .i64 k] w (DlNo w0 gm gd gn fs T w) := by
  intro T
  induction T with
  | nil =>
    intro hT hB hO hh hk w gn fs hD hgn
    exact del_nil C hD k
  | node g kx vx L R ihl ihr =>
    intro hT hB hO hh hk w gn fs hD hgn
    obtain ⟨D, X1, X2⟩ := two_box w (none, g.1, g.2)
    simp only [pv, Option.map_none] at D X1 X2
    have HX1 := hide X1
    have HX2 := hide X2
    have HW := hide (fun (W w' : World) (gn' : List (Int × Int)) (fs' : List Nat) (hW : Below w.heap.size w W) (H : Stp w0 gm gd gn fs [] W w' gn' fs') => (Stp.of_below hD hW []).trans H (by simp))
    have B := hide D
    have HD1 := hide (hD.below D)
    simp only [Tr.high] at hgn hh
    have K1 := hide (open_old C HD1.out (by omega) g kx vx L R hT)
    have HC := hide C
    have HT := hide hT
    have HB := hide hB
    have HO := hide hO
    have HK := hide hk
    have HH := hide (And.intro hgn hh)
    have IHL := hide (show fiP k L.prs = none → ∀ (w : World) (gn : List (Int × Int)) (fs : List Nat), Dr w0 w gm gd gn fs → gn.length + 3 * L.high ≤ 880 → Calls Try.prog 31 #[.pointer (some ⟨gd, 0, none⟩), .agg #[.pointer none, .int .i64 L.root.1, .int .i64 L.root.2], .int .i64 k] w (DlNo w0 gm gd gn fs L w) from
      fun hf w gn fs h1 h2 => ihl hT.2.2.2.2.1 hB.2.2.1 hO.left (by omega) hf h1 h2)
    have IHR := hide (show fiP k R.prs = none → ∀ (w : World) (gn : List (Int × Int)) (fs : List Nat), Dr w0 w gm gd gn fs → gn.length + 3 * R.high ≤ 880 → Calls Try.prog 31 #[.pointer (some ⟨gd, 0, none⟩), .agg #[.pointer none, .int .i64 R.root.1, .int .i64 R.root.2], .int .i64 k] w (DlNo w0 gm gd gn fs R w) from
      fun hf w gn fs h1 h2 => ihr hT.2.2.2.2.2 hB.2.2.2 hO.right (by omega) hf h1 h2)
    clear D hD C X1 X2 hT hB hO hh hgn ihl ihr hk
    obtain ⟨gs, gt⟩ := g
    simp only at HX1 HX2 B HD1 HW
    change Hid (Calls _ _ #[.pointer (some ⟨gd, 0, none⟩), .agg #[.pointer none, .int .i64 gs, .int .i64 gt]] _ _) at K1
    change Calls _ _ #[.pointer (some ⟨gd, 0, none⟩), .agg #[.pointer none, .int .i64 gs, .int .i64 gt], .int .i64 k] _ _
    go_enter Try.func31, Try.ntmps31
    go_upto_region 1 with (fail)
    obtain ⟨kr, hkr⟩ : ∃ q, w.heap.size + 1 = q := ⟨_, rfl⟩
    obtain ⟨kb, hkb⟩ : ∃ q, w.heap.size = q := ⟨_, rfl⟩
    have HKX := hide (show w.heap.size ≤ kr by omega)
    have hkk : kb ≠ kr := by omega
    rw [hkr] at HX2 ⊢
    rw [hkb] at HX1 ⊢
    clear hkr hkb
    generalize World.alloc (World.alloc w _) _ = w1 at *
    obtain ⟨x0, x1, x2⟩ := HX1.out.three
    unfold pv at x0
    simp only [Option.map_none] at x0 x1 x2
    go_wp2_with fail
    refine K1.out.mono ?_
    rintro e w2 ⟨p, k1, v1, h1, a, b, op, fs1, rfl, O, S1, D1⟩
    obtain ⟨rfl, rfl, rfl, rfl, rfl, rfl, hpp⟩ := O.old
    have HS1 := hide S1
    have HF := hide D1.1
    have HPP := hide (And.intro hpp D1.2.2.2.2.2.2)
    have X2 := hide (S1.boxed HX2.out (by simp))
    have X1 := hide (S1.boxed HX1.out (by simp))
    obtain ⟨um, hum⟩ := HC.out.map
    have HM := hide hum
    have KM := hide (fun (V : World) (hV : Below w2.heap.size w2 V) => show V.cell? ⟨gd, 0, none⟩ = some (.pointer (some ⟨gm, 0, none⟩)) ∧ V.cell? ⟨gm, 1, none⟩ = some (.func (.func 11) #[] #[]) ∧ V.cell? ⟨p, 0, none⟩ = some (.int .i64 k1) from
      ⟨cell_b hV HS1.out.dr.cell0, cell_b ((HS1.out.dr.bel).trans (hV.mono HS1.out.dr.bel.size)) (cell_of_row w0 gm 1 _ _ (0, 0) HM.out), cell_b hV HF.out.nine.1⟩)
    clear K1 x0 x1 x2 O S1 D1 hpp hum
    have z := KM.out w2 (Below.refl _ _)
    have BD := hide ((Below.refl w2.heap.size w2).drew)
    have zd := KM.out _ BD.out
    have hcs : (k < k1 ∧ cmZ k k1 = -1) ∨ (k1 = k ∧ cmZ k k1 = 0) ∨ (k1 < k ∧ cmZ k k1 = 1) := by
      unfold cmZ
      by_cases h1 : k < k1
      · exact .inl ⟨h1, by rw [if_pos h1]⟩
      · by_cases h2 : k1 < k
        · exact .inr (.inr ⟨h2, by rw [if_neg h1, if_pos h2]⟩)
        · exact .inr (.inl ⟨by omega, by rw [if_neg h1, if_neg h2]⟩)
    have KCM := hide (fun (V : World) => compare_any k k1 V)
    generalize cmZ k k1 = c at *
    go_upto_region 4 with (fail)
    go_region_held3 (fun w' => w'.cell? ⟨gd, 0, none⟩ = some (.pointer (some ⟨gm, 0, none⟩)) ∧ w'.cell? ⟨gm, 1, none⟩ = some (.func (.func 11) #[] #[]) ∧ w'.cell? ⟨p, 0, none⟩ = some (.int .i64 k1))
      (first | with_reducible exact z | with_reducible exact zd | go_keep)
      (first
        | (with_reducible refine (KCM.out _).mono ?_
           rintro e w3 ⟨rfl, rfl⟩))
    have B3 := hide (BD.out)
    generalize w2.drew = w3 at *
    have HF3 := hide (HF.out.below3 B3.out)
    clear KCM z zd KM HF BD
    have S3 := hide (HS1.out.trans (Stp.of_below HS1.out.dr B3.out []) (by simp))
    have X3 := hide (X2.out.below B3.out)
    have X3b := hide (X1.out.below B3.out)
    have HSUB := hide (srt_split HO.out)
    rcases hcs with ⟨hc, rfl⟩ | ⟨hc, rfl⟩ | ⟨hc, rfl⟩
    case inr.inl =>
      have h1 := HK.out
      simp only [Tr.prs] at h1
      rw [fiP_eq (x := (k1, v1)) hc HSUB.out.2.2.1] at h1
      cases h1
    case inl =>
      have KS := hide (fun (V : World) => side_any (-1) V)
      rw [if_pos (by decide)] at KS
      have HFI := hide (show fiP k L.prs = none from by rw [← fiP_lo (x := (k1, v1)) (l := L.prs) hc HSUB.out.2.2.2]; exact HK.out)
      have K9 := hide (IHL.out HFI.out w3 (gn ++ [(gs, gt)]) fs1 S3.out.dr (by have := HH.out; simp; omega))
      have c0 : w3.cell? ⟨p, 2, none⟩ = some (.pointer none) := HF3.out.nine.2.2.1
      have c1 : w3.cell? ⟨p, 3, none⟩ = some (.int .i64 L.root.1) := HF3.out.nine.2.2.2.1
      have c2 : w3.cell? ⟨p, 4, none⟩ = some (.int .i64 L.root.2) := HF3.out.nine.2.2.2.2.1
      clear IHL IHR
      go_wp2_with fail
      refine (KS.out _).mono ?_
      rintro e w4 ⟨rfl, rfl⟩
      go_upto_region 8 with (fail)
      go_wp2_with fail
      refine K9.out.mono ?_
      rintro e w5 ⟨rfl, gn5, fs5, S5⟩
      have D6 := (Below.refl w5.heap.size w5).alloc (Nat.le_refl _) (.cells #[.pointer none, .int .i64 L.root.1, .int .i64 L.root.2] 76)
      have S6 := hide ((S3.out.trans S5 (by simp)).trans (Stp.of_below S5.dr D6 []) (by simp))
      have X6 := hide ((S5.boxed X3.out (by simp)).below D6)
      have X6b := hide ((S5.boxed X3b.out (by simp)).below D6)
      clear c0 c1 c2 K9 S5 D6
      change Hid (Stp _ _ _ _ _ _ _ (w5.alloc (.cells #[.pointer none, .int .i64 L.root.1, .int .i64 L.root.2] 76)) _ _) at S6
      change Hid (Bxb (w5.alloc (.cells #[.pointer none, .int .i64 L.root.1, .int .i64 L.root.2] 76)) _ _) at X6
      change Hid (Bxb (w5.alloc (.cells #[.pointer none, .int .i64 L.root.1, .int .i64 L.root.2] 76)) _ _) at X6b
      unfold bvv bv pv
      simp only [Option.map_none]
      go_upto_region 10 with (fail)
      generalize World.alloc w5 _ = w6 at *
      obtain ⟨x0, x1, x2⟩ := X6b.out.three
      obtain ⟨b0, b1, b2⟩ := X6.out.three
      have g0 := X6.out.fz 0
      have g1 := X6.out.fz 1
      have g2 := X6.out.fz 2
      unfold pv at b0 x0
      simp only [Option.map_none] at b0 b1 b2 x0 x1 x2
      have S7 := hide (HW.out w1 w6 gn5 fs5 B.out S6.out)
      go_wp2_with fail
      refine bodyPost_ret (v := .tuple #[.agg #[.pointer none, .int .i64 gs, .int .i64 gt], .bool false]) ?_ rfl ⟨rfl, _, _, S7.out.box X6.out HKX.out _ _ _⟩
      rw [results_cell_tmp rfl]
      go_simp
    case inr.inr =>
      have KS := hide (fun (V : World) => side_any (1) V)
      rw [if_neg (by decide)] at KS
      have HFI := hide (show fiP k R.prs = none from by rw [← fiP_hi (x := (k1, v1)) (r := R.prs) hc HSUB.out.2.2.1]; exact HK.out)
      have K9 := hide (IHR.out HFI.out w3 (gn ++ [(gs, gt)]) fs1 S3.out.dr (by have := HH.out; simp; omega))
      have c0 : w3.cell? ⟨p, 5, none⟩ = some (.pointer none) := HF3.out.nine.2.2.2.2.2.1
      have c1 : w3.cell? ⟨p, 6, none⟩ = some (.int .i64 R.root.1) := HF3.out.nine.2.2.2.2.2.2.1
      have c2 : w3.cell? ⟨p, 7, none⟩ = some (.int .i64 R.root.2) := HF3.out.nine.2.2.2.2.2.2.2.1
      clear IHL IHR
      go_wp2_with fail
      refine (KS.out _).mono ?_
      rintro e w4 ⟨rfl, rfl⟩
      go_upto_region 8 with (fail)
      go_wp2_with fail
      refine K9.out.mono ?_
      rintro e w5 ⟨rfl, gn5, fs5, S5⟩
      have D6 := (Below.refl w5.heap.size w5).alloc (Nat.le_refl _) (.cells #[.pointer none, .int .i64 R.root.1, .int .i64 R.root.2] 76)
      have S6 := hide ((S3.out.trans S5 (by simp)).trans (Stp.of_below S5.dr D6 []) (by simp))
      have X6 := hide ((S5.boxed X3.out (by simp)).below D6)
      have X6b := hide ((S5.boxed X3b.out (by simp)).below D6)
      clear c0 c1 c2 K9 S5 D6
      change Hid (Stp _ _ _ _ _ _ _ (w5.alloc (.cells #[.pointer none, .int .i64 R.root.1, .int .i64 R.root.2] 76)) _ _) at S6
      change Hid (Bxb (w5.alloc (.cells #[.pointer none, .int .i64 R.root.1, .int .i64 R.root.2] 76)) _ _) at X6
      change Hid (Bxb (w5.alloc (.cells #[.pointer none, .int .i64 R.root.1, .int .i64 R.root.2] 76)) _ _) at X6b
      unfold bvv bv pv
      simp only [Option.map_none]
      go_upto_region 10 with (fail)
      generalize World.alloc w5 _ = w6 at *
      obtain ⟨x0, x1, x2⟩ := X6b.out.three
      obtain ⟨b0, b1, b2⟩ := X6.out.three
      have g0 := X6.out.fz 0
      have g1 := X6.out.fz 1
      have g2 := X6.out.fz 2
      unfold pv at b0 x0
      simp only [Option.map_none] at b0 b1 b2 x0 x1 x2
      have S7 := hide (HW.out w1 w6 gn5 fs5 B.out S6.out)
      go_wp2_with fail
      refine bodyPost_ret (v := .tuple #[.agg #[.pointer none, .int .i64 gs, .int .i64 gt], .bool false]) ?_ rfl ⟨rfl, _, _, S7.out.box X6.out HKX.out _ _ _⟩
      rw [results_cell_tmp rfl]
      go_simp
end Go.Proofs.Ytcckamajiebgeaa
