/-
  Keys put into lists in order, taken out, and looked for, by where they stand, plain. No conditions but the order.
  A draft's branch with a key. Conditions: the branch is an old tree as it must be, not too high; the draft is in memory.
-/
import Derived.Test.YtcckamajiebgeaaRBal
namespace Go.Proofs.Ytcckamajiebgeaa
open Go.RowKit
set_option linter.unusedVariables false
set_option linter.unusedSimpArgs false
open Dt

theorem srt_split {l r : List Pp} {x : Pp} (h : Srt (l ++ x :: r)) : Srt l ∧ Srt r ∧ (∀ y ∈ l, y.1 < x.1) ∧ (∀ y ∈ r, x.1 < y.1) := by
  obtain ⟨h1, h2, h3⟩ := List.pairwise_append.1 h
  obtain ⟨h4, h5⟩ := List.pairwise_cons.1 h2
  exact ⟨h1, h5, fun y hy => h3 y hy x (List.mem_cons_self ..), h4⟩
theorem woP_all {k : Int} {l : List Pp} (h : ∀ x ∈ l, x.1 ≠ k) : woP k l = l := by
  unfold woP
  rw [List.filter_eq_self]
  intro x hx
  simpa using h x hx
theorem woP_app (k : Int) (l r : List Pp) : woP k (l ++ r) = woP k l ++ woP k r := List.filter_append ..
theorem wiP_lo {k v : Int} {x : Pp} {r : List Pp} (hk : k < x.1) (hr : ∀ y ∈ r, x.1 < y.1) : ∀ {l : List Pp}, wiP k v (l ++ x :: r) = wiP k v l ++ x :: r
  | [] => by
    have : woP k (x :: r) = x :: r := woP_all fun y hy => by
      rcases List.mem_cons.1 hy with rfl | hy
      · omega
      · have := hr y hy
        omega
    simp only [List.nil_append, wiP, if_pos (Int.le_of_lt hk), this]
    rfl
  | y :: l => by
    have ih := wiP_lo (k := k) (v := v) hk hr (l := l)
    simp only [List.cons_append, wiP]
    by_cases h : k ≤ y.1
    · rw [if_pos h, if_pos h]
      have e : woP k (y :: (l ++ x :: r)) = woP k (y :: l) ++ x :: r := by
        rw [← List.cons_append, woP_app]
        congr 1
        exact woP_all fun z hz => by
          rcases List.mem_cons.1 hz with rfl | hz
          · omega
          · have := hr z hz
            omega
      rw [e]
      rfl
    · rw [if_neg h, if_neg h, ih]
      rfl
theorem wiP_hi {k v : Int} {x : Pp} {r : List Pp} (hk : x.1 < k) : ∀ {l : List Pp}, (∀ y ∈ l, y.1 < x.1) → wiP k v (l ++ x :: r) = l ++ x :: wiP k v r
  | [], _ => by simp only [List.nil_append, wiP]; rw [if_neg (by omega)]
  | y :: l, hl => by
    have ih := wiP_hi (k := k) (v := v) (r := r) hk (l := l) (fun z hz => hl z (List.mem_cons_of_mem _ hz))
    have := hl y (List.mem_cons_self ..)
    simp only [List.cons_append, wiP]
    rw [if_neg (by omega), ih]
theorem wiP_eq {k v : Int} {x : Pp} {r : List Pp} (hk : x.1 = k) (hr : ∀ y ∈ r, x.1 < y.1) : ∀ {l : List Pp}, (∀ y ∈ l, y.1 < x.1) → wiP k v (l ++ x :: r) = l ++ (k, v) :: r
  | [], _ => by
    have : woP k (x :: r) = r := by
      have e : woP k r = r := woP_all fun y hy => by have := hr y hy; omega
      unfold woP at e ⊢
      rw [List.filter_cons_of_neg (by simp [hk]), e]
    simp only [List.nil_append, wiP]
    rw [if_pos (by omega), this]
  | y :: l, hl => by
    have ih := wiP_eq (k := k) (v := v) (r := r) hk hr (l := l) (fun z hz => hl z (List.mem_cons_of_mem _ hz))
    have := hl y (List.mem_cons_self ..)
    simp only [List.cons_append, wiP]
    rw [if_neg (by omega), ih]
theorem woP_lo {k : Int} {x : Pp} {l r : List Pp} (hk : k < x.1) (hr : ∀ y ∈ r, x.1 < y.1) : woP k (l ++ x :: r) = woP k l ++ x :: r := by
  rw [woP_app]
  congr 1
  exact woP_all fun z hz => by
    rcases List.mem_cons.1 hz with rfl | hz
    · omega
    · have := hr z hz
      omega
theorem woP_hi {k : Int} {x : Pp} {l r : List Pp} (hk : x.1 < k) (hl : ∀ y ∈ l, y.1 < x.1) : woP k (l ++ x :: r) = l ++ x :: woP k r := by
  rw [woP_app, woP_all (fun z hz => by have := hl z hz; omega)]
  congr 1
  unfold woP
  rw [List.filter_cons_of_pos (by simp; omega)]
theorem woP_eq {k : Int} {x : Pp} {l r : List Pp} (hk : x.1 = k) (hl : ∀ y ∈ l, y.1 < x.1) (hr : ∀ y ∈ r, x.1 < y.1) : woP k (l ++ x :: r) = l ++ r := by
  rw [woP_app, woP_all (fun z hz => by have := hl z hz; omega)]
  congr 1
  have e : woP k r = r := woP_all fun y hy => by have := hr y hy; omega
  unfold woP at e ⊢
  rw [List.filter_cons_of_neg (by simp [hk]), e]
theorem fiP_none {k : Int} {l : List Pp} (h : ∀ x ∈ l, x.1 ≠ k) : fiP k l = none := by
  unfold fiP
  rw [List.find?_eq_none.2 (fun x hx => by simpa using h x hx)]
  rfl
theorem fiP_app (k : Int) (l r : List Pp) : fiP k (l ++ r) = (fiP k l).or (fiP k r) := by
  unfold fiP
  rw [List.find?_append]
  cases l.find? (fun x => x.1 == k) <;> rfl
theorem fiP_lo {k : Int} {x : Pp} {l r : List Pp} (hk : k < x.1) (hr : ∀ y ∈ r, x.1 < y.1) : fiP k (l ++ x :: r) = fiP k l := by
  rw [fiP_app, fiP_none (l := x :: r) fun z hz => by
    rcases List.mem_cons.1 hz with rfl | hz
    · omega
    · have := hr z hz
      omega]
  cases fiP k l <;> rfl
theorem fiP_hi {k : Int} {x : Pp} {l r : List Pp} (hk : x.1 < k) (hl : ∀ y ∈ l, y.1 < x.1) : fiP k (l ++ x :: r) = fiP k r := by
  rw [fiP_app, fiP_none (l := l) fun z hz => by have := hl z hz; omega]
  unfold fiP
  rw [List.find?_cons_of_neg (by simp; omega)]
  rfl
theorem fiP_eq {k : Int} {x : Pp} {l r : List Pp} (hk : x.1 = k) (hl : ∀ y ∈ l, y.1 < x.1) : fiP k (l ++ x :: r) = some x.2 := by
  rw [fiP_app, fiP_none (l := l) fun z hz => by have := hl z hz; omega]
  unfold fiP
  rw [List.find?_cons_of_pos (by simp [hk])]
  rfl
/-! ### boxes that a call makes first -/
theorem two_box (w : World) (b : Option Nat × Int × Int) : Below w.heap.size w ((w.alloc (.cells #[pv b.1, .int .i64 b.2.1, .int .i64 b.2.2] 76)).alloc (.cells #[.pointer none, .int .i64 0, .int .i64 0] 76)) ∧
    Bxb ((w.alloc (.cells #[pv b.1, .int .i64 b.2.1, .int .i64 b.2.2] 76)).alloc (.cells #[.pointer none, .int .i64 0, .int .i64 0] 76)) w.heap.size b ∧
    Bxb ((w.alloc (.cells #[pv b.1, .int .i64 b.2.1, .int .i64 b.2.2] 76)).alloc (.cells #[.pointer none, .int .i64 0, .int .i64 0] 76)) (w.heap.size + 1) (none, 0, 0) := by
  have D1 := (Below.refl w.heap.size w).alloc (Nat.le_refl _) (.cells #[pv b.1, .int .i64 b.2.1, .int .i64 b.2.2] 76)
  have X1 := Bxb.new w b
  generalize h1 : w.alloc (.cells #[pv b.1, .int .i64 b.2.1, .int .i64 b.2.2] 76) = w1 at *
  have hs : w1.heap.size = w.heap.size + 1 := by rw [← h1]; simp
  have D2 := (Below.refl w1.heap.size w1).alloc (Nat.le_refl _) (.cells #[.pointer none, .int .i64 0, .int .i64 0] 76)
  have X2 := Bxb.new w1 (none, 0, 0)
  rw [hs] at X2
  exact ⟨D1.trans (D2.mono D1.size), X1.below D2, X2⟩
end Go.Proofs.Ytcckamajiebgeaa
namespace Go.Proofs.Ytcckamajiebgeaa
open Go.RowKit
set_option linter.unusedVariables false
set_option linter.unusedSimpArgs false
set_option maxRecDepth 100000
open Dt

/-- What put leaves of an old tree. -/
structure PtPost (F : Int → Int → Option Nd) (w0 : World) (gm gd : Nat) (gn : List (Int × Int)) (fs : List Nat) (T : Tr) (P : List Pp) (w w' : World) (d : Dt) (op : List (Int × Int)) (fs' : List Nat) : Prop where
  S : Stp w0 gm gd gn fs [] w w' (gn ++ op) fs'
  D : DIn w0.heap.size w' d
  g : Gd F w.heap.size [] P T.hds op d
  c1 : op.length ≤ d.cnt
  c2 : d.cnt ≤ op.length + 1
  len : op.length ≤ 3 * T.high
  lo : T.high ≤ d.high
  hi : d.high ≤ T.high + 1
theorem PtPost.weak {F : Int → Int → Option Nd} {w0 : World} {gm gd : Nat} {gn : List (Int × Int)} {fs : List Nat} {T : Tr} {P : List Pp} {w w1 w' : World} {d : Dt} {op : List (Int × Int)} {fs' : List Nat} (H : PtPost F w0 gm gd gn fs T P w1 w' d op fs') (hD : Dr w0 w gm gd gn fs) (hb : Below w.heap.size w w1) : PtPost F w0 gm gd gn fs T P w w' d op fs' :=
  ⟨(Stp.of_below hD hb []).trans H.S (by simp), H.D, ⟨H.g.ok, H.g.prs, H.g.olds, fun k hk => (H.g.fp k hk).imp_right fun h => Nat.le_trans hb.size h⟩, H.c1, H.c2, H.len, H.lo, H.hi⟩
theorem PtPost.box {F : Int → Int → Option Nd} {w0 : World} {gm gd : Nat} {gn : List (Int × Int)} {fs : List Nat} {T : Tr} {P : List Pp} {w w' : World} {d : Dt} {op : List (Int × Int)} {fs' : List Nat} (H : PtPost F w0 gm gd gn fs T P w w' d op fs') {kx : Nat} {c : Option Nat × Int × Int} (hb : Bxb w' kx c) (hk : w.heap.size ≤ kx) (x y z : Value) : PtPost F w0 gm gd gn fs T P w (((w'.setCell ⟨kx, 0, none⟩ x).setCell ⟨kx, 1, none⟩ y).setCell ⟨kx, 2, none⟩ z) d op fs' :=
  ⟨H.S.box hb hk x y z, H.D.box hb x y z, H.g, H.c1, H.c2, H.len, H.lo, H.hi⟩
def PtRet (F : Int → Int → Option Nd) (w0 : World) (gm gd : Nat) (gn : List (Int × Int)) (fs : List Nat) (T : Tr) (P : List Pp) (w : World) (e : Ending) (w' : World) : Prop :=
  ∃ d op fs', e = .returned (bvv d.bv) ∧ PtPost F w0 gm gd gn fs T P w w' d op fs'
/-- Behind balance: what was done to one side, and to the node. -/
theorem pt_bal {F : Int → Int → Option Nd} {w0 : World} {gm gd : Nat} {gn : List (Int × Int)} {fs : List Nat} {T : Tr} {P : List Pp} {w w1 w2 : World} {d : Dt} {op1 op2 : List (Int × Int)} {fs1 fs2 : List Nat} {f : Dt} {m : Nat}
    (S1 : Stp w0 gm gd gn fs [] w w1 (gn ++ op1) fs1) (PO : TnPost F w0 gm gd (gn ++ op1) fs1 f w1 w2 m d op2 fs2) (hP : f.prs = P) (hO : T.hds.Perm (f.olds ++ op1)) (hfp : ∀ x ∈ f.fp, w.heap.size ≤ x) (hc1 : op1.length ≤ f.cnt) (hc2 : f.cnt ≤ op1.length + 1) (hl : op1.length + 2 ≤ 3 * T.high) (hlo : T.high ≤ d.high) (hhi : d.high ≤ T.high + 1) :
    PtPost F w0 gm gd gn fs T P w w2 d (op1 ++ op2) fs2 := by
  have h1 := PO.cnt
  have h2 := PO.len
  refine ⟨?_, PO.D, ⟨PO.g.ok, PO.g.prs.trans hP, ?_, fun x hx => ?_⟩, by simp; omega, by simp; omega, by simp; omega, hlo, hhi⟩
  · rw [← List.append_assoc]
    exact S1.trans PO.S (fun x hx => .inr (hfp x hx))
  · have e1 := PO.g.olds
    rw [List.perm_iff_count] at hO e1 ⊢
    intro a
    have := hO a
    have := e1 a
    simp only [List.count_append] at *
    omega
  · rcases PO.g.fp x hx with h | h
    · exact .inr (hfp x h)
    · exact .inr (Nat.le_trans S1.mod.size h)
set_option maxHeartbeats 4000000 in
theorem put_nil {w0 w : World} {gm gd : Nat} {F : Int → Int → Option Nd} {gn : List (Int × Int)} {fs : List Nat} (C : Ctx w0 gm F) (hD : Dr w0 w gm gd gn fs) (k v : Int) :
    Calls Try.prog 33 #[.pointer (some ⟨gd, 0, none⟩), bvv (old .nil).bv, .int .i64 k, .int .i64 v] w (PtRet F w0 gm gd gn fs .nil (wiP k v []) w) := by
  obtain ⟨D, X1, X2⟩ := two_box w (none, 0, 0)
  simp only [pv, Option.map_none] at D X1 X2
  have HX1 := hide X1
  have HX2 := hide X2
  have HW := hide (fun (W w' : World) (P : List Pp) (d : Dt) (op : List (Int × Int)) (fs' : List Nat) (hW : Below w.heap.size w W) (H : PtPost F w0 gm gd gn fs .nil P W w' d op fs') => H.weak hD hW)
  have B := hide D
  have HD1 := hide (hD.below D)
  have K1 := hide (open_nil C HD1.out)
  have HC := hide C
  clear D hD C X1 X2
  unfold bvv bv pv at *
  simp only [Option.map_none, Tr.root] at *
  go_enter Try.func33, Try.ntmps33
  go_upto_region 1 with (fail)
  obtain ⟨kx, hkx⟩ : ∃ q, w.heap.size + 1 = q := ⟨_, rfl⟩
  obtain ⟨kb, hkb⟩ : ∃ q, w.heap.size = q := ⟨_, rfl⟩
  have HKX := hide (show w.heap.size ≤ kx by omega)
  rw [hkx] at HX2 ⊢
  rw [hkb] at HX1 ⊢
  clear hkx hkb
  generalize World.alloc (World.alloc w _) _ = w1 at *
  obtain ⟨x0, x1, x2⟩ := HX1.out.three
  unfold pv at x0
  simp only [Option.map_none] at x0 x1 x2
  go_wp2_with fail
  refine K1.out.mono ?_
  rintro e w2 ⟨rfl, hb⟩
  have B2 := hide hb
  have X2 := hide (HX2.out.below hb)
  have D2 := (Below.refl w2.heap.size w2).alloc (Nat.le_refl _) (.cells #[.int .i64 k, .int .i64 v, .pointer none, .int .i64 0, .int .i64 0, .pointer none, .int .i64 0, .int .i64 0, .int .i64 0] 90)
  have FB := hide (show Fb (w2.alloc (.cells #[.int .i64 k, .int .i64 v, .pointer none, .int .i64 0, .int .i64 0, .pointer none, .int .i64 0, .int .i64 0, .int .i64 0] 90)) w2.heap.size k v (none, 0, 0) (none, 0, 0) 0 from heap_alloc_new w2 _)
  have X3 := hide (X2.out.below D2)
  have B3 := hide (B2.out.trans (D2.mono B2.out.size))
  have HPW := hide (show w1.heap.size ≤ w2.heap.size from B2.out.size)
  clear hb K1 D2 x0 x1 x2 X2 B2
  go_upto_region 3 with (fail)
  go_wp2_with fail
  generalize hw3 : World.alloc w2 _ = w3 at *
  clear hw3
  obtain ⟨p, hp⟩ : ∃ q, w2.heap.size = q := ⟨_, rfl⟩
  rw [hp] at FB HPW ⊢
  clear hp
  have hpw : w0.heap.size ≤ p := Nat.le_trans HD1.out.bel.size HPW.out
  have KCL := hide (close_any HC.out (HD1.out.below B3.out) p k v 0 (old .nil) (old .nil) FB.out trivial trivial trivial trivial ⟨by simp [Dt.high, Tr.high], by simp [Dt.high, Tr.high]⟩ hpw)
  refine KCL.out.mono ?_
  rintro e w4 ⟨rfl, S4, F4⟩
  have HPO := hide (HW.out w1 w4 (wiP k v []) (new p k v 1 (old .nil) (old .nil)) [] fs B.out ⟨by rw [List.append_nil]; exact (Stp.of_below HD1.out B3.out []).trans S4 (fun x hx => .inr (by rw [List.mem_singleton.1 hx]; exact HPW.out)), ⟨F4, trivial, trivial, by simp [fp], by simp [fp], by simp [fp], hpw⟩,
    ⟨⟨rfl, by simp, by simp, Dt.Ok.nil, Dt.Ok.nil⟩, rfl, by simp [Dt.olds, Tr.hds], fun x hx => .inr (by simp [fp] at hx; rw [hx]; exact HPW.out)⟩, by simp, by simp [Dt.cnt], by simp, by simp [Tr.high], by simp [Tr.high, Dt.hnew]⟩)
  have X4 := hide (S4.boxed X3.out (fun e => (box_ne X3.out FB.out (by decide)) (List.mem_singleton.1 e).symm))
  clear S4 F4 KCL hpw
  obtain ⟨b0, b1, b2⟩ := X4.out.three
  have g0 := X4.out.fz 0
  have g1 := X4.out.fz 1
  have g2 := X4.out.fz 2
  unfold pv at b0
  unfold bvv pv
  simp only [Option.map_none, Option.map_some] at b0 ⊢
  go_wp2_with fail
  refine bodyPost_ret (v := .agg #[.pointer (some ⟨p, 0, none⟩), .int .i64 0, .int .i64 0]) ?_ rfl ⟨_, _, _, rfl, HPO.out.box X4.out HKX.out _ _ _⟩
  rw [results_one rfl]
  go_simp
/-- A branch that a call told was written into a node that was opened ahead of it. -/
theorem pt_mem {w0 w1 w3 w5 w6 : World} {gm gd : Nat} {gn gnA gnB : List (Int × Int)} {fs fsA fsB : List Nat} {p : Nat} {k v : Int} {a b c : Option Nat × Int × Int} {h n kx : Nat} {d : Dt} (S3 : Stp w0 gm gd gn fs [] w1 w3 gnA fsA) (F3 : Fb w3 p k v a b h) (hp : w1.heap.size ≤ p) (hp0 : w0.heap.size ≤ p) (S5 : Stp w0 gm gd gnA fsA [] w3 w5 gnB fsB) (D5 : DIn n w5 d) (hfp : ∀ x ∈ d.fp, x ∈ ([] : List Nat) ∨ w3.heap.size ≤ x) (M : Mod [p] w5 w6) (X : Bxb w3 kx c) :
    Stp w0 gm gd gn fs [] w1 w6 gnB fsB ∧ DIn n w6 d ∧ p ∉ d.fp ∧ Bxb w6 kx c := by
  have hpd : p ∉ d.fp := fun e => by
    rcases hfp p e with h1 | h1
    · simp at h1
    · have := F3.lt
      omega
  have F5 := S5.fb F3 (by simp)
  have S6 := Stp.of_mod S5.dr F5 hp0 M
  exact ⟨(S3.trans S5 (by simp)).trans S6 (fun x hx => .inr (by rw [List.mem_singleton.1 hx]; exact hp)), S6.din1 D5 hpd, hpd, S6.boxed (S5.boxed X (by simp)) (fun e => (box_ne X F3 (by decide)) (List.mem_singleton.1 e).symm)⟩
theorem Fb.setKV {w : World} {p : Nat} {k v : Int} {a b : Option Nat × Int × Int} {h : Nat} (H : Fb w p k v a b h) (k' v' : Int) : Fb ((w.setCell ⟨p, 0, none⟩ (.int .i64 k')).setCell ⟨p, 1, none⟩ (.int .i64 v')) p k' v' a b h := by
  have e := Joins.block_setCell (i := 1) (Joins.block_setCell (i := 0) H (.int .i64 k')) (.int .i64 v')
  unfold Fb
  simpa [frv] using e
theorem Fb.below3 {w w' : World} {p : Nat} {k v : Int} {a b : Option Nat × Int × Int} {h : Nat} (H : Fb w p k v a b h) (hb : Below w.heap.size w w') : Fb w' p k v a b h := (hb.block p H.lt).trans H
set_option maxHeartbeats 8000000 in
theorem put_any {w0 : World} {gm gd : Nat} {F : Int → Int → Option Nd} (C : Ctx w0 gm F) (k v : Int) : ∀ (T : Tr) (hT : T.Lies F) (hB : T.Bal) (hO : T.Ord) (hh : T.high ≤ 200) {w : World} {gn : List (Int × Int)} {fs : List Nat} (hD : Dr w0 w gm gd gn fs) (hgn : gn.length + 3 * T.high ≤ 880),
    Calls Try.prog 33 #[.pointer (some ⟨gd, 0, none⟩), bvv (old T).bv, .int .i64 k, .int .i64 v] w (PtRet F w0 gm gd gn fs T (wiP k v T.prs) w) := by
  intro T
  induction T with
  | nil =>
    intro hT hB hO hh w gn fs hD hgn
    exact put_nil C hD k v
  | node g kx vx L R ihl ihr =>
    intro hT hB hO hh w gn fs hD hgn
    obtain ⟨D, X1, X2⟩ := two_box w (none, g.1, g.2)
    simp only [pv, Option.map_none] at D X1 X2
    have HX1 := hide X1
    have HX2 := hide X2
    have HW := hide (fun (W w' : World) (P : List Pp) (d : Dt) (op : List (Int × Int)) (fs' : List Nat) (hW : Below w.heap.size w W) (H : PtPost F w0 gm gd gn fs (.node g kx vx L R) P W w' d op fs') => H.weak hD hW)
    have B := hide D
    have HD1 := hide (hD.below D)
    simp only [Tr.high] at hgn hh
    have K1 := hide (open_old C HD1.out (by omega) g kx vx L R hT)
    have HC := hide C
    have HT := hide hT
    have HB := hide hB
    have HO := hide hO
    have HH := hide (And.intro hgn hh)
    have IHL := hide (show ∀ (w : World) (gn : List (Int × Int)) (fs : List Nat), Dr w0 w gm gd gn fs → gn.length + 3 * L.high ≤ 880 → Calls Try.prog 33 #[.pointer (some ⟨gd, 0, none⟩), .agg #[.pointer none, .int .i64 L.root.1, .int .i64 L.root.2], .int .i64 k, .int .i64 v] w (PtRet F w0 gm gd gn fs L (wiP k v L.prs) w) from
      fun w gn fs h1 h2 => ihl hT.2.2.2.2.1 hB.2.2.1 hO.left (by omega) h1 h2)
    have IHR := hide (show ∀ (w : World) (gn : List (Int × Int)) (fs : List Nat), Dr w0 w gm gd gn fs → gn.length + 3 * R.high ≤ 880 → Calls Try.prog 33 #[.pointer (some ⟨gd, 0, none⟩), .agg #[.pointer none, .int .i64 R.root.1, .int .i64 R.root.2], .int .i64 k, .int .i64 v] w (PtRet F w0 gm gd gn fs R (wiP k v R.prs) w) from
      fun w gn fs h1 h2 => ihr hT.2.2.2.2.2 hB.2.2.2 hO.right (by omega) h1 h2)
    clear D hD C X1 X2 hT hB hO hh hgn ihl ihr
    obtain ⟨gs, gt⟩ := g
    simp only at HX1 HX2 B HD1 HW
    change Hid (Calls _ _ #[.pointer (some ⟨gd, 0, none⟩), .agg #[.pointer none, .int .i64 gs, .int .i64 gt]] _ _) at K1
    change Calls _ _ #[.pointer (some ⟨gd, 0, none⟩), .agg #[.pointer none, .int .i64 gs, .int .i64 gt], .int .i64 k, .int .i64 v] _ _
    go_enter Try.func33, Try.ntmps33
    go_upto_region 1 with (fail)
    obtain ⟨kr, hkr⟩ : ∃ q, w.heap.size + 1 = q := ⟨_, rfl⟩
    obtain ⟨kb, hkb⟩ : ∃ q, w.heap.size = q := ⟨_, rfl⟩
    have HKX := hide (show w.heap.size ≤ kr by omega)
    rw [hkr] at HX2 ⊢
    rw [hkb] at HX1 ⊢
    clear hkr hkb
    generalize World.alloc (World.alloc w _) _ = w1 at *
    obtain ⟨x0, x1, x2⟩ := HX1.out.three
    unfold pv at x0
    simp only [Option.map_none] at x0 x1 x2
    go_wp2_with fail
    refine K1.out.mono ?_
    rintro e w2 ⟨p, k1, v1, h1, a, b, op, fs1, rfl, O, S1, D1⟩
    obtain ⟨rfl, rfl, rfl, rfl, rfl, rfl, hpp⟩ := O.old
    have HS1 := hide S1
    have HF := hide D1.1
    have HPP := hide (And.intro hpp D1.2.2.2.2.2.2)
    have X2 := hide (S1.boxed HX2.out (by simp))
    obtain ⟨um, hum⟩ := HC.out.map
    have HM := hide hum
    have KM := hide (fun (V : World) (hV : Below w2.heap.size w2 V) => show V.cell? ⟨gd, 0, none⟩ = some (.pointer (some ⟨gm, 0, none⟩)) ∧ V.cell? ⟨gm, 1, none⟩ = some (.func (.func 11) #[] #[]) ∧ V.cell? ⟨p, 0, none⟩ = some (.int .i64 k1) from
      ⟨cell_b hV HS1.out.dr.cell0, cell_b ((HS1.out.dr.bel).trans (hV.mono HS1.out.dr.bel.size)) (cell_of_row w0 gm 1 _ _ (0, 0) HM.out), cell_b hV HF.out.nine.1⟩)
    clear K1 x0 x1 x2 O S1 D1 hpp hum
    have z := KM.out w2 (Below.refl _ _)
    have BD := hide ((Below.refl w2.heap.size w2).drew)
    have zd := KM.out _ BD.out
    have hcs : (k < k1 ∧ cmZ k k1 = -1) ∨ (k1 = k ∧ cmZ k k1 = 0) ∨ (k1 < k ∧ cmZ k k1 = 1) := by
      unfold cmZ
      by_cases h1 : k < k1
      · exact .inl ⟨h1, by rw [if_pos h1]⟩
      · by_cases h2 : k1 < k
        · exact .inr (.inr ⟨h2, by rw [if_neg h1, if_pos h2]⟩)
        · exact .inr (.inl ⟨by omega, by rw [if_neg h1, if_neg h2]⟩)
    have KCM := hide (fun (V : World) => compare_any k k1 V)
    generalize cmZ k k1 = c at *
    go_upto_region 4 with (fail)
    go_region_held3 (fun w' => w'.cell? ⟨gd, 0, none⟩ = some (.pointer (some ⟨gm, 0, none⟩)) ∧ w'.cell? ⟨gm, 1, none⟩ = some (.func (.func 11) #[] #[]) ∧ w'.cell? ⟨p, 0, none⟩ = some (.int .i64 k1))
      (first | with_reducible exact z | with_reducible exact zd | go_keep)
      (first
        | (with_reducible refine (KCM.out _).mono ?_
           rintro e w3 ⟨rfl, rfl⟩))
    have B3 := hide (BD.out)
    generalize w2.drew = w3 at *
    have HF3 := hide (HF.out.below3 B3.out)
    clear KCM z zd KM HF BD
    rcases hcs with ⟨hc, rfl⟩ | ⟨hc, rfl⟩ | ⟨hc, rfl⟩
    case inr.inl =>
      subst hc
      obtain ⟨z0, z1, -⟩ := HF3.out.nine
      have f0 := HF3.out.fz 0
      have f1 := HF3.out.fz 1
      have S3 := hide (HS1.out.trans (Stp.of_below HS1.out.dr B3.out []) (by simp))
      have X3 := hide (X2.out.below B3.out)
      have F4 := hide (HF3.out.setKV k1 v)
      have S4 := hide (S3.out.trans (Stp.of_mod S3.out.dr HF3.out HPP.out.2 (((Mod.refl [p] w3).setCell (p := ⟨p, 0, none⟩) (.inl (by simp)) (.int .i64 k1)).setCell (p := ⟨p, 1, none⟩) (.inl (by simp)) (.int .i64 v))) (fun x hx => .inr (by rw [List.mem_singleton.1 hx]; exact HPP.out.1)))
      have X4 := hide ((X3.out.other HF3.out (by decide) 0 (.int .i64 k1)).other ((Joins.block_setCell (i := 0) HF3.out (.int .i64 k1))) (by decide) 1 (.int .i64 v))
      clear IHL IHR
      go_upto_region 7 with (fail)
      generalize (World.setCell (World.setCell w3 _ _) _ _) = w4 at *
      clear z0 z1 f0 f1 HF3 B3 S3 X3
      have KCL := hide (close_any HC.out S4.out.dr p k1 v 0 (old L) (old R) F4.out trivial trivial HT.out.2.2.2.2.1 HT.out.2.2.2.2.2 (show L.high ≤ 1000 ∧ R.high ≤ 1000 by have := HH.out; omega) HPP.out.2)
      go_wp2_with fail
      refine KCL.out.mono ?_
      rintro e w5 ⟨rfl, S5, F5⟩
      have hsp := srt_split HO.out
      have HPO := hide (HW.out w1 w5 (wiP k1 v (Tr.node (gs, gt) k1 v1 L R).prs) (new p k1 v (1 + max L.high R.high) (old L) (old R)) [(gs, gt)] fs1 B.out ⟨S4.out.trans S5 (fun x hx => .inr (by rw [List.mem_singleton.1 hx]; exact HPP.out.1)), ⟨F5, trivial, trivial, by simp [fp], by simp [fp], by simp [fp], HPP.out.2⟩,
        ⟨⟨rfl, HB.out.1, HB.out.2.1, ⟨HT.out.2.2.2.2.1, HB.out.2.2.1⟩, ⟨HT.out.2.2.2.2.2, HB.out.2.2.2⟩⟩, (wiP_eq (x := (k1, v1)) rfl hsp.2.2.2 hsp.2.2.1).symm, by simp only [Dt.olds, Tr.hds]; exact (List.perm_middle).trans ((List.perm_append_singleton _ _).symm), fun x hx => .inr (by simp [fp] at hx; rw [hx]; exact HPP.out.1)⟩, by simp [Dt.cnt], by simp [Dt.cnt], by simp [Tr.high]; omega, by simp [Tr.high, Dt.hnew], by simp [Tr.high, Dt.hnew]⟩)
      have X5 := hide (S5.boxed X4.out (fun e => (box_ne X4.out F4.out (by decide)) (List.mem_singleton.1 e).symm))
      clear S5 F5 KCL hsp S4 X4 F4
      obtain ⟨b0, b1, b2⟩ := X5.out.three
      have g0 := X5.out.fz 0
      have g1 := X5.out.fz 1
      have g2 := X5.out.fz 2
      unfold pv at b0
      unfold bvv pv
      simp only [Option.map_none, Option.map_some] at b0 ⊢
      go_wp2_with fail
      refine bodyPost_ret (v := .agg #[.pointer (some ⟨p, 0, none⟩), .int .i64 0, .int .i64 0]) ?_ rfl ⟨_, _, _, rfl, HPO.out.box X5.out HKX.out _ _ _⟩
      rw [results_one rfl]
      go_simp
    case inl =>
      have KS := hide (fun (V : World) => side_any (-1) V)
      rw [if_pos (by decide)] at KS
      have S3 := hide (HS1.out.trans (Stp.of_below HS1.out.dr B3.out []) (by simp))
      have X3 := hide (X2.out.below B3.out)
      obtain ⟨-, -, z2, z3, z4, z5, z6, z7, -⟩ := HF3.out.nine
      change w3.cell? ⟨p, 2, none⟩ = some (.pointer none) at z2
      change w3.cell? ⟨p, 3, none⟩ = some (.int .i64 L.root.1) at z3
      change w3.cell? ⟨p, 4, none⟩ = some (.int .i64 L.root.2) at z4
      change w3.cell? ⟨p, 5, none⟩ = some (.pointer none) at z5
      change w3.cell? ⟨p, 6, none⟩ = some (.int .i64 R.root.1) at z6
      change w3.cell? ⟨p, 7, none⟩ = some (.int .i64 R.root.2) at z7
      have K9 := hide (IHL.out w3.drew (gn ++ [(gs, gt)]) fs1 (S3.out.dr.below (Below.refl w3.heap.size w3).drew) (by have := HH.out; simp; omega))
      have S3D := hide (S3.out.trans (Stp.of_below S3.out.dr (Below.refl w3.heap.size w3).drew []) (by simp))
      have HSUB := hide (srt_split HO.out)
      have HBL := hide HB.out
      clear IHL IHR
      go_wp2_with fail
      refine (KS.out _).mono ?_
      rintro e w4 ⟨rfl, rfl⟩
      go_upto_region 9 with (fail)
      go_region_law (go_simp; go_at_call 33
                     (with_reducible refine K9.out.mono ?_)
                     rintro e w5 ⟨d1, op1, fs2, rfl, PO⟩
                     have F5 := PO.S.fb (HF3.out.below3 (Below.refl _ _).drew) (by simp)
                     have y2 := F5.nine.2.2.1
                     have y3 := F5.nine.2.2.2.1
                     have y4 := F5.nine.2.2.2.2.1
                     have f2 := F5.fz 2
                     have f3 := F5.fz 3
                     have f4 := F5.fz 4
                     have HPO := hide PO
                     have HF5 := hide F5
                     clear PO F5
                     obtain ⟨bd, hbd⟩ : ∃ u, d1.bv = u := ⟨_, rfl⟩
                     have HBV := hide hbd
                     rw [hbd]
                     clear hbd
                     obtain ⟨xo, xs, xt⟩ := bd
                     unfold bvv pv
                     simp only
                     generalize hmx : (xo.map fun q => (⟨q, 0, none⟩ : Addr)) = mx
                     have HMX := hide hmx
                     clear hmx)
      all_goals
        have M6 := mod3 w5 p 2 3 4 (.pointer mx) (.int .i64 xs) (.int .i64 xt)
        have F6 := hide (show Fb (((w5.setCell ⟨p, 2, none⟩ (.pointer mx)).setCell ⟨p, 3, none⟩ (.int .i64 xs)).setCell ⟨p, 4, none⟩ (.int .i64 xt)) p k1 v1 d1.bv (old R).bv 0 by
          have e := HF5.out.setL d1.bv
          rw [HBV.out] at e ⊢
          unfold pv at e
          simp only [HMX.out] at e
          exact e)
        have HMM := hide (pt_mem (p := p) S3D.out (HF3.out.below3 (Below.refl _ _).drew) HPP.out.1 HPP.out.2 HPO.out.S HPO.out.D HPO.out.g.fp M6 (X3.out.below (Below.refl _ _).drew))
        clear M6 y2 y3 y4 f2 f3 f4 z2 z3 z4 z5 z6 z7
        go_upto_region 10 with (fail)
        generalize (World.setCell (World.setCell (World.setCell w5 _ _) _ _) _ _) = w6 at *
        have K7 := hide (balance_any HC.out HMM.out.1.dr (by have h1 := HH.out; have h2 := HPO.out.len; simp; omega) p k1 v1 0 d1 (old R) ⟨F6.out, HMM.out.2.1, trivial, HMM.out.2.2.1, by simp [fp], by simp [fp], HPP.out.2⟩ HPO.out.g.ok ⟨HT.out.2.2.2.2.2, HB.out.2.2.2⟩ (by have h1 := HPO.out.lo; have h2 := HPO.out.hi; have h3 := HBL.out.1; have h4 := HBL.out.2.1; simp only [Dt.high] at *; omega) (by have h1 := HPO.out.lo; have h2 := HPO.out.hi; have h3 := HBL.out.1; have h4 := HBL.out.2.1; simp only [Dt.high] at *; omega) (by have h1 := HPO.out.hi; have h2 := HH.out; simp only [Dt.high] at *; omega))
        go_wp2_with fail
        refine K7.out.mono ?_
        rintro e w7 ⟨d, op2, fs3, rfl, PB, hbal⟩
        have S6' := HMM.out.1
        rw [List.append_assoc] at S6' PB
        have hso := S3D.out.mod.size
        have e1 := HPO.out.g.olds
        have c1 := HPO.out.c1
        have c2 := HPO.out.c2
        have c3 := HPO.out.len
        have c4 := HPO.out.lo
        have c5 := HPO.out.hi
        have b1 := HBL.out.1
        have b2 := HBL.out.2.1
        have b3 := PB.hh
        have PT := pt_bal (T := .node (gs, gt) k1 v1 L R) (P := wiP k v (L.prs ++ (k1, v1) :: R.prs)) S6' PB (by show d1.prs ++ (k1, v1) :: R.prs = wiP k v (L.prs ++ (k1, v1) :: R.prs); rw [HPO.out.g.prs, wiP_lo (x := (k1, v1)) hc HSUB.out.2.2.2]) (by
          rw [List.perm_iff_count] at e1 ⊢
          intro a
          have := e1 a
          simp only [Dt.olds, Tr.hds, List.count_append, List.count_cons, List.count_nil] at *
          omega) (fun x hx => by
          simp only [fp, List.mem_cons, List.mem_append, List.not_mem_nil, or_false, false_or] at hx
          rcases hx with rfl | hx
          · exact HPP.out.1
          · rcases HPO.out.g.fp x hx with h1 | h1
            · simp at h1
            · exact Nat.le_trans hso h1) (by simp [Dt.cnt]; omega) (by simp [Dt.cnt]; omega) (by simp [Tr.high]; omega) (by
          simp only [Dt.high, Tr.high] at *
          by_cases hq : d1.high ≤ R.high + 1 ∧ R.high ≤ d1.high + 1
          · have := hbal hq.1 hq.2
            omega
          · omega) (by
          simp only [Dt.high, Tr.high] at *
          by_cases hq : d1.high ≤ R.high + 1 ∧ R.high ≤ d1.high + 1
          · have := hbal hq.1 hq.2
            omega
          · omega)
        have X7 := hide (PB.S.boxed HMM.out.2.2.2 (fun e => by
          have h1 : kr ∈ (new p k1 v1 0 d1 (old R)).fp := e
          simp only [fp, List.mem_cons, List.mem_append, List.not_mem_nil, or_false, false_or] at h1
          rcases h1 with h1 | h1
          · exact (box_ne HMM.out.2.2.2 F6.out (by decide)) h1.symm
          · exact HMM.out.2.1.nobox HMM.out.2.2.2 h1))
        have HPT := hide (HW.out _ _ _ _ _ _ B.out PT)
        clear PT PB hbal K7 S6' hso e1 c1 c2 c3 c4 c5 b1 b2 b3
        obtain ⟨b0, b1, b2⟩ := X7.out.three
        have g0 := X7.out.fz 0
        have g1 := X7.out.fz 1
        have g2 := X7.out.fz 2
        obtain ⟨bd, hbd⟩ : ∃ u, d.bv = u := ⟨_, rfl⟩
        have HBV2 := hide hbd
        rw [hbd]
        clear hbd
        obtain ⟨ro, rs, rt⟩ := bd
        unfold pv at b0
        unfold bvv pv
        simp only [Option.map_none] at b0 ⊢
        generalize hmx2 : (ro.map fun q => (⟨q, 0, none⟩ : Addr)) = mx2
        have HMX2 := hide hmx2
        clear hmx2
        go_wp2_with fail
        refine bodyPost_ret (v := .agg #[.pointer mx2, .int .i64 rs, .int .i64 rt]) ?_ rfl ⟨d, _, _, by rw [HBV2.out, ← HMX2.out]; rfl, HPT.out.box X7.out HKX.out _ _ _⟩
        rw [results_one rfl]
        go_simp
    case inr.inr =>
      have KS := hide (fun (V : World) => side_any (1) V)
      rw [if_neg (by decide)] at KS
      have S3 := hide (HS1.out.trans (Stp.of_below HS1.out.dr B3.out []) (by simp))
      have X3 := hide (X2.out.below B3.out)
      obtain ⟨-, -, z2, z3, z4, z5, z6, z7, -⟩ := HF3.out.nine
      change w3.cell? ⟨p, 2, none⟩ = some (.pointer none) at z2
      change w3.cell? ⟨p, 3, none⟩ = some (.int .i64 L.root.1) at z3
      change w3.cell? ⟨p, 4, none⟩ = some (.int .i64 L.root.2) at z4
      change w3.cell? ⟨p, 5, none⟩ = some (.pointer none) at z5
      change w3.cell? ⟨p, 6, none⟩ = some (.int .i64 R.root.1) at z6
      change w3.cell? ⟨p, 7, none⟩ = some (.int .i64 R.root.2) at z7
      have K9 := hide (IHR.out w3.drew (gn ++ [(gs, gt)]) fs1 (S3.out.dr.below (Below.refl w3.heap.size w3).drew) (by have := HH.out; simp; omega))
      have S3D := hide (S3.out.trans (Stp.of_below S3.out.dr (Below.refl w3.heap.size w3).drew []) (by simp))
      have HSUB := hide (srt_split HO.out)
      have HBL := hide HB.out
      clear IHL IHR
      go_wp2_with fail
      refine (KS.out _).mono ?_
      rintro e w4 ⟨rfl, rfl⟩
      go_upto_region 9 with (fail)
      go_region_law (go_simp; go_at_call 33
                     (with_reducible refine K9.out.mono ?_)
                     rintro e w5 ⟨d1, op1, fs2, rfl, PO⟩
                     have F5 := PO.S.fb (HF3.out.below3 (Below.refl _ _).drew) (by simp)
                     have y2 := F5.nine.2.2.2.2.2.1
                     have y3 := F5.nine.2.2.2.2.2.2.1
                     have y4 := F5.nine.2.2.2.2.2.2.2.1
                     have f2 := F5.fz 5
                     have f3 := F5.fz 6
                     have f4 := F5.fz 7
                     have HPO := hide PO
                     have HF5 := hide F5
                     clear PO F5
                     obtain ⟨bd, hbd⟩ : ∃ u, d1.bv = u := ⟨_, rfl⟩
                     have HBV := hide hbd
                     rw [hbd]
                     clear hbd
                     obtain ⟨xo, xs, xt⟩ := bd
                     unfold bvv pv
                     simp only
                     generalize hmx : (xo.map fun q => (⟨q, 0, none⟩ : Addr)) = mx
                     have HMX := hide hmx
                     clear hmx)
      all_goals
        have M6 := mod3 w5 p 5 6 7 (.pointer mx) (.int .i64 xs) (.int .i64 xt)
        have F6 := hide (show Fb (((w5.setCell ⟨p, 5, none⟩ (.pointer mx)).setCell ⟨p, 6, none⟩ (.int .i64 xs)).setCell ⟨p, 7, none⟩ (.int .i64 xt)) p k1 v1 (old L).bv d1.bv 0 by
          have e := HF5.out.setR d1.bv
          rw [HBV.out] at e ⊢
          unfold pv at e
          simp only [HMX.out] at e
          exact e)
        have HMM := hide (pt_mem (p := p) S3D.out (HF3.out.below3 (Below.refl _ _).drew) HPP.out.1 HPP.out.2 HPO.out.S HPO.out.D HPO.out.g.fp M6 (X3.out.below (Below.refl _ _).drew))
        clear M6 y2 y3 y4 f2 f3 f4 z2 z3 z4 z5 z6 z7
        go_upto_region 10 with (fail)
        generalize (World.setCell (World.setCell (World.setCell w5 _ _) _ _) _ _) = w6 at *
        have K7 := hide (balance_any HC.out HMM.out.1.dr (by have h1 := HH.out; have h2 := HPO.out.len; simp; omega) p k1 v1 0 (old L) d1 ⟨F6.out, trivial, HMM.out.2.1, by simp [fp], HMM.out.2.2.1, by simp [fp], HPP.out.2⟩ ⟨HT.out.2.2.2.2.1, HB.out.2.2.1⟩ HPO.out.g.ok (by have h1 := HPO.out.lo; have h2 := HPO.out.hi; have h3 := HBL.out.1; have h4 := HBL.out.2.1; simp only [Dt.high] at *; omega) (by have h1 := HPO.out.lo; have h2 := HPO.out.hi; have h3 := HBL.out.1; have h4 := HBL.out.2.1; simp only [Dt.high] at *; omega) (by have h1 := HPO.out.hi; have h2 := HH.out; simp only [Dt.high] at *; omega))
        go_wp2_with fail
        refine K7.out.mono ?_
        rintro e w7 ⟨d, op2, fs3, rfl, PB, hbal⟩
        have S6' := HMM.out.1
        rw [List.append_assoc] at S6' PB
        have hso := S3D.out.mod.size
        have e1 := HPO.out.g.olds
        have c1 := HPO.out.c1
        have c2 := HPO.out.c2
        have c3 := HPO.out.len
        have c4 := HPO.out.lo
        have c5 := HPO.out.hi
        have b1 := HBL.out.1
        have b2 := HBL.out.2.1
        have b3 := PB.hh
        have PT := pt_bal (T := .node (gs, gt) k1 v1 L R) (P := wiP k v (L.prs ++ (k1, v1) :: R.prs)) S6' PB (by show L.prs ++ (k1, v1) :: d1.prs = wiP k v (L.prs ++ (k1, v1) :: R.prs); rw [HPO.out.g.prs, wiP_hi (x := (k1, v1)) hc HSUB.out.2.2.1]) (by
          rw [List.perm_iff_count] at e1 ⊢
          intro a
          have := e1 a
          simp only [Dt.olds, Tr.hds, List.count_append, List.count_cons, List.count_nil] at *
          omega) (fun x hx => by
          simp only [fp, List.mem_cons, List.mem_append, List.not_mem_nil, or_false, false_or] at hx
          rcases hx with rfl | hx
          · exact HPP.out.1
          · rcases HPO.out.g.fp x hx with h1 | h1
            · simp at h1
            · exact Nat.le_trans hso h1) (by simp [Dt.cnt]; omega) (by simp [Dt.cnt]; omega) (by simp [Tr.high]; omega) (by
          simp only [Dt.high, Tr.high] at *
          by_cases hq : L.high ≤ d1.high + 1 ∧ d1.high ≤ L.high + 1
          · have := hbal hq.1 hq.2
            omega
          · omega) (by
          simp only [Dt.high, Tr.high] at *
          by_cases hq : L.high ≤ d1.high + 1 ∧ d1.high ≤ L.high + 1
          · have := hbal hq.1 hq.2
            omega
          · omega)
        have X7 := hide (PB.S.boxed HMM.out.2.2.2 (fun e => by
          have h1 : kr ∈ (new p k1 v1 0 (old L) d1).fp := e
          simp only [fp, List.mem_cons, List.mem_append, List.not_mem_nil, or_false, false_or] at h1
          rcases h1 with h1 | h1
          · exact (box_ne HMM.out.2.2.2 F6.out (by decide)) h1.symm
          · exact HMM.out.2.1.nobox HMM.out.2.2.2 h1))
        have HPT := hide (HW.out _ _ _ _ _ _ B.out PT)
        clear PT PB hbal K7 S6' hso e1 c1 c2 c3 c4 c5 b1 b2 b3
        obtain ⟨b0, b1, b2⟩ := X7.out.three
        have g0 := X7.out.fz 0
        have g1 := X7.out.fz 1
        have g2 := X7.out.fz 2
        obtain ⟨bd, hbd⟩ : ∃ u, d.bv = u := ⟨_, rfl⟩
        have HBV2 := hide hbd
        rw [hbd]
        clear hbd
        obtain ⟨ro, rs, rt⟩ := bd
        unfold pv at b0
        unfold bvv pv
        simp only [Option.map_none] at b0 ⊢
        generalize hmx2 : (ro.map fun q => (⟨q, 0, none⟩ : Addr)) = mx2
        have HMX2 := hide hmx2
        clear hmx2
        go_wp2_with fail
        refine bodyPost_ret (v := .agg #[.pointer mx2, .int .i64 rs, .int .i64 rt]) ?_ rfl ⟨d, _, _, by rw [HBV2.out, ← HMX2.out]; rfl, HPT.out.box X7.out HKX.out _ _ _⟩
        rw [results_one rfl]
        go_simp
end Go.Proofs.Ytcckamajiebgeaa
