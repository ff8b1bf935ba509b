/-
  A draft's node that is too high on the right is turned. Conditions: the draft is in memory, both sides are trees as they must be, one two higher.
-/
import Derived.Test.YtcckamajiebgeaaRLift0
import Derived.Test.YtcckamajiebgeaaRLift1
import Derived.Test.YtcckamajiebgeaaRTurn
namespace Go.Proofs.Ytcckamajiebgeaa
open Go.RowKit
set_option linter.unusedVariables false
set_option linter.unusedSimpArgs false
set_option maxRecDepth 100000
open Dt

/-- The node below is opened, and lifted if it must be. -/
structure Tm1 (F : Int → Int → Option Nd) (w0 : World) (gm gd : Nat) (gn : List (Int × Int)) (fs : List Nat) (p : Nat) (k v : Int) (h : Nat) (l r : Dt) (w w1 : World) (Q : Nat) (K V : Int) (H : Nat) (A B : Dt) (op : List (Int × Int)) (fs' : List Nat) : Prop where
  S : Stp w0 gm gd gn fs r.fp w w1 (gn ++ op) fs'
  D : DIn w0.heap.size w1 (new Q K V H A B)
  sub : ∀ x ∈ Q :: (A.fp ++ B.fp), x ∈ r.fp ∨ w.heap.size ≤ x
  okA : A.Ok F
  okB : B.Ok F
  prs : A.prs ++ (K, V) :: B.prs = r.prs
  olds : r.olds.Perm (A.olds ++ B.olds ++ op)
  cnt : 1 + A.cnt + B.cnt = r.cnt + op.length
  len : op.length ≤ 2
  hh : A.high ≤ l.high + 1 ∧ l.high ≤ A.high + 1 ∧ B.high ≤ 2 + max l.high A.high ∧ max l.high A.high ≤ B.high ∧ r.high ≤ 1 + max (1 + max l.high A.high) B.high ∧ max (1 + max l.high A.high) B.high ≤ r.high
theorem tm_one1 {F : Int → Int → Option Nd} {w0 : World} {gm gd : Nat} {gn : List (Int × Int)} {fs : List Nat} {p : Nat} {k v : Int} {h : Nat} {l r : Dt} {w w1 : World} {q : Nat} {k' v' : Int} {h' : Nat} {a b : Dt} {op : List (Int × Int)} {fs' : List Nat}
    (ok : r.Ok F) (hh : r.high = l.high + 2) (O : Opn w.heap.size r q k' v' h' a b op) (S1 : Stp w0 gm gd gn fs [] w w1 (gn ++ op) fs') (D1 : DIn w0.heap.size w1 (new q k' v' h' a b)) (hc : ¬ b.high < a.high) :
    Tm1 F w0 gm gd gn fs p k v h l r w w1 q k' v' h' a b op fs' := by
  obtain ⟨o1, o2, o3, o4, o5⟩ := O.lens
  obtain ⟨p1, p2, p3, p4, p5⟩ := O.okk ok
  exact ⟨S1.wider (by simp), D1, o5, p1, p2, o1.symm, o2, o3, by omega, by omega⟩
theorem tm_two1 {F : Int → Int → Option Nd} {w0 : World} {gm gd : Nat} {gn : List (Int × Int)} {fs : List Nat} {p : Nat} {k v : Int} {h : Nat} {l r : Dt} {w w1 w2 : World} {q : Nat} {k' v' : Int} {h' : Nat} {a b : Dt} {op op2 : List (Int × Int)} {fs' fs2 : List Nat} {q2 : Nat} {k2 v2 : Int} {h2 : Nat} {c e : Dt}
    (ok : r.Ok F) (hh : r.high = l.high + 2) (O : Opn w.heap.size r q k' v' h' a b op) (S1 : Stp w0 gm gd gn fs [] w w1 (gn ++ op) fs') (hc : b.high < a.high)
    (O2 : Opn w1.heap.size a q2 k2 v2 h2 c e op2) (S2 : Stp w0 gm gd (gn ++ op) fs' (new q k' v' h' a b).fp w1 w2 (gn ++ op ++ op2) fs2) (D2 : DIn w0.heap.size w2 (new q2 k2 v2 h2 c (new q k' v' (1 + max e.high b.high) e b))) :
    Tm1 F w0 gm gd gn fs p k v h l r w w2 q2 k2 v2 h2 c (new q k' v' (1 + max e.high b.high) e b) (op ++ op2) fs2 := by
  obtain ⟨o1, o2, o3, o4, o5⟩ := O.lens
  obtain ⟨p1, p2, p3, p4, p5⟩ := O.okk ok
  obtain ⟨u1, u2, u3, u4, u5⟩ := O2.lens
  obtain ⟨v1, v2, v3, v4, v5⟩ := O2.okk p1
  have hsz := S1.mod.size
  have sub2 : ∀ x, x ∈ a.fp → x ∈ r.fp ∨ w.heap.size ≤ x := fun x hx => o5 x (by simp [hx])
  have sub3 : ∀ x, x ∈ q2 :: (c.fp ++ e.fp) → x ∈ r.fp ∨ w.heap.size ≤ x := fun x hx => by
    rcases u5 x hx with h1 | h1
    · exact sub2 x h1
    · exact .inr (Nat.le_trans hsz h1)
  refine ⟨?_, D2, fun x hx => ?_, v1, ⟨rfl, by omega, by omega, v2, p2⟩, ?_, ?_, ?_, by simp; omega, by simp only [Dt.hnew]; omega⟩
  · rw [← List.append_assoc]
    exact (S1.wider (ks' := r.fp) (by simp)).trans S2 (fun x hx => o5 x (by simpa [fp] using hx))
  · simp only [fp, List.mem_cons, List.mem_append] at hx
    rcases hx with rfl | hx | rfl | hx | hx
    · exact sub3 _ (by simp)
    · exact sub3 x (by simp [hx])
    · exact o5 _ (by simp)
    · exact sub3 x (by simp [hx])
    · exact o5 x (by simp [hx])
  · rw [o1, u1]
    simp [Dt.prs]
  · refine o2.trans ?_
    simp only [Dt.olds]
    have e1 := (u2.append_right b.olds).append_right op
    refine e1.trans ?_
    simp only [List.append_assoc]
    refine List.Perm.append_left _ (List.Perm.append_left _ ?_)
    refine List.perm_append_comm.trans ?_
    simp only [List.append_assoc]
    exact List.Perm.refl _
  · simp only [Dt.cnt, List.length_append]
    omega
theorem Tm1.below {F : Int → Int → Option Nd} {w0 : World} {gm gd : Nat} {gn : List (Int × Int)} {fs : List Nat} {p : Nat} {k v : Int} {h : Nat} {l r : Dt} {w w1 w2 : World} {Q : Nat} {K V : Int} {H : Nat} {A B : Dt} {op : List (Int × Int)} {fs' : List Nat}
    (T : Tm1 F w0 gm gd gn fs p k v h l r w w1 Q K V H A B op fs') (hb : Below w1.heap.size w1 w2) : Tm1 F w0 gm gd gn fs p k v h l r w w2 Q K V H A B op fs' :=
  ⟨T.S.trans (Stp.of_below T.S.dr hb []) (by simp), T.D.below hb, T.sub, T.okA, T.okB, T.prs, T.olds, T.cnt, T.len, T.hh⟩
/-- What turn leaves. -/
theorem tm_fin1 {F : Int → Int → Option Nd} {w0 : World} {gm gd : Nat} {gn : List (Int × Int)} {fs : List Nat} {p : Nat} {k v : Int} {h : Nat} {l r : Dt} {w w1 w2 w3 : World} {Q : Nat} {K V : Int} {H : Nat} {A B : Dt} {op : List (Int × Int)} {fs' : List Nat}
    (hd : DIn w0.heap.size w (new p k v h l r)) (ok : l.Ok F) (T : Tm1 F w0 gm gd gn fs p k v h l r w w1 Q K V H A B op fs') (S2 : Stp w0 gm gd (gn ++ op) fs' [Q] w1 w2 (gn ++ op) fs') (F2 : Fb w2 Q K V A.bv B.bv (1 + max A.high B.high)) :
    Fb w2 p k v l.bv r.bv h ∧ (Mod [p] w2 w3 → Fb w3 p k v l.bv (some Q, 0, 0) h → Stp w0 gm gd gn fs (new p k v h l r).fp w w3 (gn ++ op) fs' ∧ DIn w0.heap.size w3 (new p k v h l (new Q K V (1 + max A.high B.high) A B)) ∧
      ∀ w5 fs'', Stp w0 gm gd (gn ++ op) fs' (new p k v h l (new Q K V (1 + max A.high B.high) A B)).fp w3 w5 (gn ++ op) fs'' → DIn w0.heap.size w5 (new Q K V (1 + max (1 + max l.high A.high) B.high) (new p k v (1 + max l.high A.high) l A) B) →
        TnPost F w0 gm gd gn fs (new p k v h l r) w w5 r.high (new Q K V (1 + max (1 + max l.high A.high) B.high) (new p k v (1 + max l.high A.high) l A) B) op fs'') := by
  obtain ⟨f1, f2, f3, f4, f5, f6, f7⟩ := hd
  obtain ⟨d1, d2, d3, d4, d5, d6, d7⟩ := T.D
  have pl := f1.lt
  have g1 := T.S.fb f1 f5
  have gr := T.S.din f2 (fun x hx hx2 => f6 x hx hx2)
  have hpQ : p ≠ Q := fun e => by
    rcases T.sub Q (by simp) with h1 | h1
    · exact f5 (e ▸ h1)
    · omega
  have apA : p ∉ A.fp := fun e => by
    rcases T.sub p (by simp [e]) with h1 | h1
    · exact f5 h1
    · omega
  have apB : p ∉ B.fp := fun e => by
    rcases T.sub p (by simp [e]) with h1 | h1
    · exact f5 h1
    · omega
  have st : ∀ x ∈ l.fp, x ∉ Q :: (A.fp ++ B.fp) := fun x hx hx2 => by
    rcases T.sub x hx2 with h1 | h1
    · exact f6 x hx h1
    · have := f2.lt hx
      omega
  have stQ : Q ∉ l.fp := fun e => st Q e (by simp)
  have stA : ∀ x ∈ l.fp, x ∉ A.fp := fun x hx e => st x hx (by simp [e])
  have stB : ∀ x ∈ l.fp, x ∉ B.fp := fun x hx e => st x hx (by simp [e])
  have gp2 := S2.fb g1 (by simpa using hpQ)
  have gr2 := S2.din1 gr stQ
  have gA2 := S2.din1 d2 d4
  have gB2 := S2.din1 d3 d5
  refine ⟨gp2, fun M3 F3 => ?_⟩
  have S3 := Stp.of_mod S2.dr gp2 f7 M3
  have gr3 := S3.din1 gr2 f4
  have gA3 := S3.din1 gA2 apA
  have gB3 := S3.din1 gB2 apB
  have gQ3 := S3.fb F2 (by simpa using hpQ.symm)
  have hsub : ∀ x ∈ Q :: (A.fp ++ B.fp), x ∈ (new p k v h l r).fp ∨ w.heap.size ≤ x := fun x hx => (T.sub x hx).imp_left fun h1 => by simp [fp, h1]
  have hp1 : p ∈ (new p k v h l r).fp := by simp [fp]
  have S03 := ((T.S.wider (ks' := (new p k v h l r).fp) (fun x hx => .inl (by simp [fp, hx]))).trans S2 (by simpa using hsub Q (by simp))).trans S3 (by simp [hp1])
  have hQx : DIn w0.heap.size w3 (new Q K V (1 + max A.high B.high) A B) := ⟨gQ3, gA3, gB3, d4, d5, d6, d7⟩
  refine ⟨S03, ⟨F3, gr3, hQx, f4, by simp only [fp, List.mem_cons, List.mem_append, not_or]; exact ⟨hpQ, apA, apB⟩, fun x hx hx2 => st x hx (by simpa [fp] using hx2), f7⟩, fun w5 fs'' S5 D5 => ⟨S03.trans S5 fun x hx => ?_, D5, ⟨?_, ?_, ?_, fun x hx => ?_⟩, ?_, T.len, ?_, by intro T' e; cases e⟩⟩
  · simp only [fp, List.mem_cons, List.mem_append] at hx
    rcases hx with rfl | hx | rfl | hx | hx
    · exact .inl hp1
    · exact .inl (by simp [fp, hx])
    · exact hsub _ (by simp)
    · exact hsub x (by simp [hx])
    · exact hsub x (by simp [hx])
  · have := T.hh
    simp only [Dt.Ok, Dt.hnew]
    exact ⟨trivial, by omega, by omega, ⟨trivial, by omega, by omega, ok, T.okA⟩, T.okB⟩
  · have := T.prs
    simp only [Dt.prs]
    rw [← this]
    simp
  · simp only [Dt.olds]
    refine (T.olds.append_left l.olds).trans ?_
    simp only [List.append_assoc]
    exact List.Perm.refl _
  · simp only [fp, List.mem_cons, List.mem_append] at hx
    rcases hx with rfl | (rfl | hx | hx) | hx
    · exact hsub _ (by simp)
    · exact .inl hp1
    · exact .inl (by simp [fp, hx])
    · exact hsub x (by simp [hx])
    · exact hsub x (by simp [hx])
  · have := T.cnt
    simp only [Dt.cnt]
    omega
  · have := T.hh
    simp only [Dt.hnew]
    omega
set_option maxHeartbeats 4000000 in
theorem turn1_any {w0 w : World} {gm gd : Nat} {F : Int → Int → Option Nd} {gn : List (Int × Int)} {fs : List Nat} (C : Ctx w0 gm F) (hD : Dr w0 w gm gd gn fs) (hgn : gn.length ≤ 890) (p : Nat) (k v : Int) (h : Nat) (l r : Dt) (hd : DIn w0.heap.size w (new p k v h l r)) (il : l.Ok F) (ir : r.Ok F) (hh : r.high = l.high + 2) (hb : r.high ≤ 900) :
    Calls Try.prog 49 #[.pointer (some ⟨gd, 0, none⟩), .pointer (some ⟨p, 0, none⟩), .int .i64 1] w (TnRet F w0 gm gd gn fs (new p k v h l r) r.high w) := by
  have D := (Below.refl w.heap.size w).alloc (Nat.le_refl _) (.cells #[.pointer none, .int .i64 0, .int .i64 0] 76)
  have X := hide (show Bxb (w.alloc (.cells #[.pointer none, .int .i64 0, .int .i64 0] 76)) w.heap.size (none, 0, 0) from Bxb.new w (none, 0, 0))
  have HW := hide (fun (w' : World) (m : Nat) (d : Dt) (op : List (Int × Int)) (fs' : List Nat) (H : TnPost F w0 gm gd gn fs (new p k v h l r) (w.alloc (.cells #[.pointer none, .int .i64 0, .int .i64 0] 76)) w' m d op fs') => H.weak hD D)
  have HD1 := hide (hD.below D)
  have HDI := hide (hd.below D)
  have HNE := hide (show r ≠ old .nil from fun e => by rw [e] at hh; simp [Dt.high, Tr.high] at hh)
  have K1 := hide (open_any C HD1.out (by omega) r HDI.out.2.2.1 ir.li HNE.out)
  have HIL := hide il
  have HIR := hide ir
  have HC := hide C
  have HHH := hide (And.intro hh hb)
  clear D hD hd C il ir hh hb
  go_enter Try.func49, Try.ntmps49
  go_upto_region 1 with (fail)
  obtain ⟨kx, hkx⟩ : ∃ q, w.heap.size = q := ⟨_, rfl⟩
  have HKX := hide (Nat.le_of_eq hkx)
  rw [hkx] at X ⊢
  clear hkx
  generalize w.alloc (.cells #[.pointer none, .int .i64 0, .int .i64 0] 76) = w1 at *
  have FBP := hide HDI.out.1
  obtain ⟨-, -, z2, z3, z4, z5, z6, z7, -⟩ := FBP.out.nine
  unfold bvv at K1
  obtain ⟨bo, hbo⟩ : ∃ u, r.bv = u := ⟨_, rfl⟩
  rw [hbo] at K1 z5 z6 z7
  clear hbo
  obtain ⟨xo, xs, xt⟩ := bo
  unfold pv at K1 z5
  simp only at K1 z5
  generalize (xo.map fun q => (⟨q, 0, none⟩ : Addr)) = mo at *
  go_wp2_with fail
  refine K1.out.mono ?_
  rintro e w2 ⟨q, k', v', h', a, b, op, fs', rfl, O, S1, D1⟩
  have HO := hide O
  have HS1 := hide S1
  have HD2 := hide D1
  have okk := O.okk HIR.out
  have HOK := hide okk
  have hol := O.lens.2.2.2.1
  have X2 := hide (S1.boxed X.out (by simp))
  have KA := hide (fun (V : World) (hV : Below w2.heap.size w2 V) => high_any HC.out (HS1.out.dr.below hV) a (HD2.out.2.1.below hV) HOK.out.1.li)
  have KB := hide (fun (V : World) (hV : Below w2.heap.size w2 V) => high_any HC.out (HS1.out.dr.below hV) b (HD2.out.2.2.1.below hV) HOK.out.2.1.li)
  have KC := hide (fun (V : World) (hV : Below w2.heap.size w2 V) => (HD2.out.below hV).1.nine)
  clear K1 z2 z3 z4 z5 z6 z7 O S1 D1
  have hcs : (b.high < a.high ∧ decide ((a.high : Int) > (b.high : Int)) = true) ∨ (¬ b.high < a.high ∧ decide ((a.high : Int) > (b.high : Int)) = false) := by
    by_cases hc : b.high < a.high
    · exact .inl ⟨hc, decide_eq_true (by omega)⟩
    · exact .inr ⟨hc, decide_eq_false (by omega)⟩
  have HHa := hide (show a.high ≤ 900 ∧ b.high ≤ 900 by have := HHH.out; omega)
  have HOL := hide hol
  clear okk hol
  obtain ⟨ba, hba⟩ : ∃ u, a.bv = u := ⟨_, rfl⟩
  obtain ⟨bb, hbb⟩ : ∃ u, b.bv = u := ⟨_, rfl⟩
  unfold bvv at KA KB
  rw [hba] at KA KC
  rw [hbb] at KB KC
  clear hba hbb
  obtain ⟨ao, sa, ta⟩ := ba
  obtain ⟨bo, sb, tb⟩ := bb
  unfold pv at KA KB KC
  simp only at KA KB KC
  generalize (ao.map fun q => (⟨q, 0, none⟩ : Addr)) = ma at *
  generalize (bo.map fun q => (⟨q, 0, none⟩ : Addr)) = mb at *
  obtain ⟨ha, hha⟩ : ∃ u, a.high = u := ⟨_, rfl⟩
  obtain ⟨hb, hhb⟩ : ∃ u, b.high = u := ⟨_, rfl⟩
  have HHA := hide hha
  have HHB := hide hhb
  rw [hha] at KA hcs
  rw [hhb] at KB hcs
  clear hha hhb
  have A2 := hide (fun (V : World) (hV : Below w2.heap.size w2 V) => show V.cell? ⟨q, 2, none⟩ = some (.pointer ma) ∧ V.cell? ⟨q, 3, none⟩ = some (.int .i64 sa) ∧ V.cell? ⟨q, 4, none⟩ = some (.int .i64 ta) ∧ V.cell? ⟨q, 5, none⟩ = some (.pointer mb) ∧ V.cell? ⟨q, 6, none⟩ = some (.int .i64 sb) ∧ V.cell? ⟨q, 7, none⟩ = some (.int .i64 tb) from by
    obtain ⟨-, -, y2, y3, y4, y5, y6, y7, -⟩ := KC.out _ hV
    exact ⟨y2, y3, y4, y5, y6, y7⟩)
  have BD2 := hide ((Below.refl w2.heap.size w2).drew)
  have z0 := A2.out w2 (Below.refl _ _)
  have wz0 : IntKind.i64.wrap 1 = 1 := by decide
  have wz1 : IntKind.i64.wrap 0 = 0 := by decide
  have wz2 : IntKind.i64.wrap (1 - 0) = 1 := by decide
  have wz3 : IntKind.i64.wrap (1 - 1) = 0 := by decide
  rcases hcs with ⟨hc, q0⟩ | ⟨hc, q0⟩
  all_goals
    have HCC := hide hc
    clear hc
    go_upto_region 2 with (fail)
    go_region_held3 (fun w' => w'.cell? ⟨q, 2, none⟩ = some (.pointer ma) ∧ w'.cell? ⟨q, 3, none⟩ = some (.int .i64 sa) ∧ w'.cell? ⟨q, 4, none⟩ = some (.int .i64 ta) ∧ w'.cell? ⟨q, 5, none⟩ = some (.pointer mb) ∧ w'.cell? ⟨q, 6, none⟩ = some (.int .i64 sb) ∧ w'.cell? ⟨q, 7, none⟩ = some (.int .i64 tb))
      (first | with_reducible exact hS2 | with_reducible exact hS1 | with_reducible exact z0 | go_keep)
      (first
        | (with_reducible refine (KA.out _ BD2.out).mono ?_
           rintro e w3 ⟨rfl, hb⟩
           have B3 := hide (BD2.out.trans (hb.mono BD2.out.size))
           have hS1 := A2.out _ B3.out
           clear hb)
        | (with_reducible refine (KB.out _ B3.out).mono ?_
           rintro e w4 ⟨rfl, hb⟩
           have B4 := hide (B3.out.trans (hb.mono B3.out.size))
           have hS2 := A2.out _ B4.out
           clear hb))
    clear z0 hS1 hS2 B3 KA KB KC A2 BD2
  case' _ =>
    have S14 := HS1.out.trans (Stp.of_below HS1.out.dr B4.out []) (by simp)
    have D4 := HD2.out.below B4.out
    have hc' : b.high < a.high := by rw [HHA.out, HHB.out]; exact HCC.out
    have KL := hide (lift0_any HC.out S14.dr (by have := HOL.out; simp; omega) q k' v' h' a b D4 HOK.out.1.li HOK.out.2.1.li (fun e => by rw [e] at hc'; simp [Dt.high, Tr.high] at hc') (HOK.out.1.sm (by have := HHa.out; omega)) (by have := HHa.out; omega))
    have HS14 := hide S14
    have HC' := hide hc'
    have hc := HCC.out
    have d1 : decide (hb < ha) = true := decide_eq_true (by omega)
    clear S14 D4 hc'
    go_wp2_with fail
    refine KL.out.mono ?_
    rintro e w5 ⟨q2, k2, v2, h2, c, e2, op2, fs2, rfl, O2, S2, D2⟩
    obtain ⟨K, V, H, A, B, opT, fsT, HT⟩ : ∃ K V H A B opT fsT, Hid (Tm1 F w0 gm gd gn fs p k v h l r w1 w5 q2 K V H A B opT fsT) := ⟨_, _, _, _, _, _, _, hide (tm_two1 (p := p) (k := k) (v := v) (h := h) HIR.out HHH.out.1 HO.out HS14.out HC'.out O2 S2 D2)⟩
    clear O2 S2 D2 KL hc d1 HS14 HC'
    go_upto_region 4 with (fail)
    generalize q2 = Q at *
    generalize w5 = wt at *
  rotate_left
  case' _ =>
    have S14 := HS1.out.trans (Stp.of_below HS1.out.dr B4.out []) (by simp)
    have D4 := HD2.out.below B4.out
    have hc' : ¬ b.high < a.high := by rw [HHA.out, HHB.out]; exact HCC.out
    have hc := HCC.out
    have d1 : decide (hb < ha) = false := decide_eq_false (by omega)
    obtain ⟨K, V, H, A, B, opT, fsT, HT⟩ : ∃ K V H A B opT fsT, Hid (Tm1 F w0 gm gd gn fs p k v h l r w1 w4 q K V H A B opT fsT) := ⟨_, _, _, _, _, _, _, hide (tm_one1 (p := p) (k := k) (v := v) (h := h) HIR.out HHH.out.1 HO.out S14 D4 hc')⟩
    clear S14 D4 hc'
    go_upto_region 4 with (fail)
    generalize q = Q at *
    generalize w4 = wt at *
  all_goals
    have HXN := hide (HDI.out.nobox X.out)
    have XT := hide (HT.out.S.boxed X.out (fun e => HXN.out (by simp [fp, e])))
    have BDT := (Below.refl wt.heap.size wt).drew
    have HT2 := hide (HT.out.below BDT)
    have XT2 := hide (XT.out.below BDT)
    have FN := hide (fun (w2 w3 : World) => tm_fin1 (w2 := w2) (w3 := w3) HDI.out HIL.out HT2.out)
    have hhT := HT.out.hh
    have HHT := hide hhT
    have K4 := hide (close_any HC.out HT2.out.S.dr Q K V H A B HT2.out.D.1 HT2.out.D.2.1 HT2.out.D.2.2.1 HT.out.okA.li HT.out.okB.li (by have := HHH.out; omega) HT.out.D.2.2.2.2.2.2)
    clear hhT BDT
    have tr : True := trivial
    go_region_held3 (fun w' => w'.heap.size = w'.heap.size)
      (first | rfl | with_reducible exact rfl | go_keep)
      (first
        | (with_reducible refine K4.out.mono ?_
           rintro e w6 ⟨rfl, S6, F6⟩
           obtain ⟨gp, KF⟩ := FN.out w6 (((w6.setCell ⟨p, 5, none⟩ (.pointer (some ⟨Q, 0, none⟩))).setCell ⟨p, 6, none⟩ (.int .i64 0)).setCell ⟨p, 7, none⟩ (.int .i64 0)) S6 F6
           obtain ⟨-, -, x2, x3, x4, x5, x6, x7, -⟩ := gp.nine
           have fq2 := gp.fz 5
           have fq3 := gp.fz 6
           have fq4 := gp.fz 7
           have KE := hide (KF (mod3 w6 p 5 6 7 _ _ _) (gp.setR (some Q, 0, 0)))
           clear KF S6 F6 gp
           unfold bvv pv
           unfold pv at x2 x5
           simp only [Option.map_some] at x2 x5 ⊢))
    clear tr
    go_upto_region 5 with (fail)
    generalize (World.setCell (World.setCell (World.setCell w6 _ _) _ _) _ _) = w7 at *
    have K5 := hide (lift1_any HC.out KE.out.1.dr (by have := HT.out.len; simp; omega) p k v h l (new Q K V (1 + max A.high B.high) A B) KE.out.2.1 HIL.out.li ⟨HT.out.okA.li, HT.out.okB.li⟩ (fun e => by cases e) (show _ ∧ _ by have := HHT.out; have := HHH.out; omega) (by have := HHH.out; omega))
    clear XT XT2 HT2 FN K4 x2 x3 x4 x5 x6 x7 fq2 fq3 fq4
    go_wp2_with fail
    refine K5.out.mono ?_
    rintro e w8 ⟨q9, k9, v9, h9, a9, b9, op9, fs9, rfl, O9, S9, D9⟩
    obtain ⟨rfl, rfl, rfl, rfl, rfl, rfl, rfl⟩ := O9.fresh
    rw [List.append_nil] at S9
    have HS9 := hide S9
    have HD9 := hide D9
    have K6 := hide (close_any HC.out HS9.out.dr q9 k9 v9 (1 + max a9.high b9.high) (new p k v (1 + max l.high a9.high) l a9) b9 HD9.out.1 HD9.out.2.1 HD9.out.2.2.1 ⟨HIL.out.li, HT.out.okA.li⟩ HT.out.okB.li (by have := HHT.out; have := HHH.out; simp only [Dt.hnew]; omega) HD9.out.2.2.2.2.2.2)
    clear S9 D9 K5 O9
    go_wp2_with fail
    refine K6.out.mono ?_
    rintro e w10 ⟨rfl, S10, F10⟩
    have D10 := show DIn w0.heap.size w10 (new q9 k9 v9 (1 + max ((new p k v (1 + max l.high a9.high) l a9)).high (b9).high) (new p k v (1 + max l.high a9.high) l a9) b9) from ⟨F10, S10.din1 HD9.out.2.1 HD9.out.2.2.2.1, S10.din1 HD9.out.2.2.1 HD9.out.2.2.2.2.1, HD9.out.2.2.2.1, HD9.out.2.2.2.2.1, HD9.out.2.2.2.2.2.1, HD9.out.2.2.2.2.2.2⟩
    have PO := KE.out.2.2 w10 fs9 (HS9.out.trans S10 (by simp [fp])) D10
    have X10 := hide (PO.S.boxed X.out HXN.out)
    have HPO := hide (HW.out _ _ _ _ _ PO)
    clear PO D10 S10 F10 K6
    obtain ⟨b0, b1, b2⟩ := X10.out.three
    have g0 := X10.out.fz 0
    have g1 := X10.out.fz 1
    have g2 := X10.out.fz 2
    unfold pv at b0
    unfold bvv pv
    simp only [Option.map_none, Option.map_some] at b0 ⊢
    go_wp2_with fail
    refine bodyPost_ret (v := .agg #[.pointer (some ⟨q9, 0, none⟩), .int .i64 0, .int .i64 0]) ?_ rfl ⟨_, _, _, rfl, HPO.out.box X10.out HKX.out _ _ _⟩
    rw [results_one rfl]
    go_simp
end Go.Proofs.Ytcckamajiebgeaa
