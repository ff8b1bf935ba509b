/-
  How many fresh nodes a draft's branch has. Conditions: it is in memory, and has not more than a thousand.
  A draft is laid into the arena, plain; the draft in memory while it is laid. No conditions beyond those that each statement bears.
  A draft's branch is laid into the arena. Conditions: the draft is in memory, there is room, and not too many nodes are made.
  A draft is laid, if there is room: its edit. Conditions: the draft is in memory, its trees are as they must be, not too many nodes are made.
-/
import Derived.Test.YtcckamajiebgeaaRDM
namespace Go.Proofs.Ytcckamajiebgeaa
open Go.RowKit
set_option linter.unusedVariables false
set_option linter.unusedSimpArgs false
set_option maxRecDepth 100000
open Dt

set_option maxHeartbeats 4000000 in
theorem count_any : ∀ (d : Dt) (n : Nat) (w : World) (hd : DIn n w d) (hc : d.cnt ≤ 1000), Calls Try.prog 43 #[bvv d.bv] w (IntRet .i64 d.cnt w) := by
  intro d
  induction d with
  | old T =>
    intro n w hd hc
    have D := (Below.refl w.heap.size w).alloc (Nat.le_refl _) (.cells #[.pointer none, .int .i64 T.root.1, .int .i64 T.root.2] 76)
    have X := hide (show Bxb (w.alloc (.cells #[.pointer none, .int .i64 T.root.1, .int .i64 T.root.2] 76)) w.heap.size (none, T.root.1, T.root.2) from Bxb.new w (none, T.root.1, T.root.2))
    have B := hide D
    clear D hd hc
    change Calls _ _ #[.agg #[.pointer none, .int .i64 T.root.1, .int .i64 T.root.2]] _ _
    go_enter Try.func43, Try.ntmps43
    go_upto_region 1 with (fail)
    generalize World.alloc w _ = w1 at *
    obtain ⟨x0, x1, x2⟩ := X.out.three
    unfold pv at x0
    simp only [Option.map_none] at x0 x1 x2
    go_wp2
    go_ret
    exact ⟨rfl, B.out⟩
  | new p k v h l r ihl ihr =>
    intro n w hd hc
    simp only [Dt.cnt] at hc
    have D := (Below.refl w.heap.size w).alloc (Nat.le_refl _) (.cells #[.pointer (some ⟨p, 0, none⟩), .int .i64 0, .int .i64 0] 76)
    have X := hide (show Bxb (w.alloc (.cells #[.pointer (some ⟨p, 0, none⟩), .int .i64 0, .int .i64 0] 76)) w.heap.size (some p, 0, 0) from Bxb.new w (some p, 0, 0))
    have B := hide D
    have HDI := hide (hd.below D)
    have HI := hide (And.intro ihl ihr)
    have hcc : l.cnt ≤ 1000 ∧ r.cnt ≤ 1000 ∧ ((1 + l.cnt + r.cnt : Nat) : Int) = 1 + (l.cnt : Int) + (r.cnt : Int) := by omega
    have HCC := hide hcc
    have HCN := hide (show (new p k v h l r).cnt = 1 + l.cnt + r.cnt from rfl)
    have wA : IntKind.i64.wrap (1 + (l.cnt : Int)) = 1 + (l.cnt : Int) := wrap_in _ (by omega) (by omega)
    have wB : IntKind.i64.wrap (1 + (l.cnt : Int) + (r.cnt : Int)) = 1 + (l.cnt : Int) + (r.cnt : Int) := wrap_in _ (by omega) (by omega)
    clear D hd hc ihl ihr hcc
    rw [HCN.out]
    change Calls _ _ #[.agg #[.pointer (some ⟨p, 0, none⟩), .int .i64 0, .int .i64 0]] _ _
    go_enter Try.func43, Try.ntmps43
    go_upto_region 1 with (fail)
    generalize w.heap.size = kx at X ⊢
    generalize World.alloc w _ = w1 at *
    have KL := hide (fun (V : World) (hV : Below w1.heap.size w1 V) => HI.out.1 n V (HDI.out.2.1.below hV) HCC.out.1)
    have KR := hide (fun (V : World) (hV : Below w1.heap.size w1 V) => HI.out.2 n V (HDI.out.2.2.1.below hV) HCC.out.2.1)
    have KC := hide (fun (V : World) (hV : Below w1.heap.size w1 V) => (HDI.out.1.below3 hV).nine)
    have KX := hide (fun (V : World) (hV : Below w1.heap.size w1 V) => (X.out.below hV).three)
    obtain ⟨ba, hba⟩ : ∃ u, l.bv = u := ⟨_, rfl⟩
    obtain ⟨bb, hbb⟩ : ∃ u, r.bv = u := ⟨_, rfl⟩
    unfold bvv at KL KR
    rw [hba] at KL KC
    rw [hbb] at KR KC
    clear hba hbb
    obtain ⟨ao, sa, ta⟩ := ba
    obtain ⟨bo, sb, tb⟩ := bb
    unfold pv at KL KR KC KX
    simp only [Option.map_some] at KL KR KC KX
    generalize (ao.map fun q => (⟨q, 0, none⟩ : Addr)) = ma at *
    generalize (bo.map fun q => (⟨q, 0, none⟩ : Addr)) = mb at *
    have A2 := hide (fun (V : World) (hV : Below w1.heap.size w1 V) => show V.cell? ⟨kx, 0, none⟩ = some (.pointer (some ⟨p, 0, none⟩)) ∧ V.cell? ⟨p, 2, none⟩ = some (.pointer ma) ∧ V.cell? ⟨p, 3, none⟩ = some (.int .i64 sa) ∧ V.cell? ⟨p, 4, none⟩ = some (.int .i64 ta) ∧ V.cell? ⟨p, 5, none⟩ = some (.pointer mb) ∧ V.cell? ⟨p, 6, none⟩ = some (.int .i64 sb) ∧ V.cell? ⟨p, 7, none⟩ = some (.int .i64 tb) from by
      obtain ⟨-, -, y2, y3, y4, y5, y6, y7, -⟩ := KC.out _ hV
      exact ⟨(KX.out _ hV).1, y2, y3, y4, y5, y6, y7⟩)
    have BD1 := hide ((Below.refl w1.heap.size w1).drew)
    have z0 := A2.out w1 (Below.refl _ _)
    obtain ⟨x0, -, -⟩ := KX.out w1 (Below.refl _ _)
    clear KC KX
    generalize l.cnt = cl at *
    generalize r.cnt = cr at *
    go_upto_region 3 with (fail)
    go_region_held3 (fun w' => w'.cell? ⟨kx, 0, none⟩ = some (.pointer (some ⟨p, 0, none⟩)) ∧ w'.cell? ⟨p, 2, none⟩ = some (.pointer ma) ∧ w'.cell? ⟨p, 3, none⟩ = some (.int .i64 sa) ∧ w'.cell? ⟨p, 4, none⟩ = some (.int .i64 ta) ∧ w'.cell? ⟨p, 5, none⟩ = some (.pointer mb) ∧ w'.cell? ⟨p, 6, none⟩ = some (.int .i64 sb) ∧ w'.cell? ⟨p, 7, none⟩ = some (.int .i64 tb))
      (first | with_reducible exact hS2 | with_reducible exact hS1 | with_reducible exact z0 | go_keep)
      (first
        | (with_reducible refine (KL.out _ BD1.out).mono ?_
           rintro e w3 ⟨rfl, hb⟩
           have B3 := hide (BD1.out.trans (hb.mono BD1.out.size))
           have hS1 := A2.out _ B3.out
           clear hb)
        | (with_reducible refine (KR.out _ B3.out).mono ?_
           rintro e w4 ⟨rfl, hb⟩
           have B4 := hide (B3.out.trans (hb.mono B3.out.size))
           have hS2 := A2.out _ B4.out
           clear hb))
    go_wp2
    go_ret
    exact ⟨ret_int HCC.out.2.2.symm, B.out.trans (B4.out.mono B.out.size)⟩
end Go.Proofs.Ytcckamajiebgeaa
namespace Go.Proofs.Ytcckamajiebgeaa
open Go.RowKit
set_option linter.unusedVariables false
set_option linter.unusedSimpArgs false
set_option maxRecDepth 100000
open Dt

theorem Arw.told_get {A : Ar} (h : Arw A) {s g : Int} {x : Nd} (hg : A.get s g = some x) : ∃ a b : Nat, s = (a : Int) ∧ g = (b : Int) ∧ Told A a b := by
  obtain ⟨h1, k, hk, hkg, hki⟩ := get_some hg
  obtain ⟨a, rfl⟩ : ∃ a : Nat, s = (a : Int) := ⟨s.toNat, by omega⟩
  simp only [Int.toNat_natCast] at hk
  obtain ⟨L, N, hT⟩ := h
  have hl := (List.getElem?_eq_some_iff.1 hk).1
  obtain ⟨k', hk', hS⟩ := hT.slot (s := a) (by omega) (by omega)
  rw [hk] at hk'
  obtain rfl := Option.some.inj hk'
  have h2 := hS.len
  have h3 := hS.pos
  exact ⟨a, k.gen, rfl, hkg.symm, by omega, by omega, k, hk, Nat.le_refl _⟩
theorem Arw.put_mono {A : Ar} (h : Arw A) (x : Nd) : ∀ s t y, A.get s t = some y → (A.put x).get s t = some y := by
  intro s t y hg
  obtain ⟨a, b, rfl, rfl, ht⟩ := h.told_get hg
  rw [(h.told_put x ht).2]
  exact hg
theorem Arw.put_none {A : Ar} (h : Arw A) : A.get A.nxt.1 A.nxt.2 = none := by
  cases hg : A.get A.nxt.1 A.nxt.2 with
  | none => rfl
  | some y =>
    obtain ⟨a, b, e1, e2, ht⟩ := h.told_get hg
    have f1 : A.nxt.1 = a := by omega
    have f2 : A.nxt.2 = b := by omega
    rw [← f1, ← f2] at ht
    exact absurd ht (h.told_new ndz).2.1
theorem Dt.Ok.mono {F G : Int → Int → Option Nd} (hm : ∀ s t x, F s t = some x → G s t = some x) : ∀ {d : Dt}, d.Ok F → d.Ok G
  | old _, h => ⟨h.1.mono hm, h.2⟩
  | new _ _ _ _ _ _, ⟨h1, h2, h3, h4, h5⟩ => ⟨h1, h2, h3, h4.mono hm, h5.mono hm⟩
/-- What became of a branch that was laid. -/
structure StRel (d : Dt) (A : Ar) (T' : Tr) (A' : Ar) (nw : List (Int × Int)) : Prop where
  lies : T'.Lies A'.get
  bal : T'.Bal
  high : T'.high = d.high
  prs : T'.prs = d.prs
  hds : T'.hds.Perm (d.olds ++ nw)
  len : nw.length = d.cnt
  fresh : ∀ h ∈ nw, A.get h.1 h.2 = none
  mono : ∀ s t x, A.get s t = some x → A'.get s t = some x
  live : A'.live = A.live + d.cnt
theorem StRel.old {A : Ar} {T : Tr} (h : (old T).Ok A.get) : StRel (old T) A T A [] :=
  ⟨h.1, h.2, rfl, rfl, by simp [Dt.olds], rfl, by simp, fun _ _ _ h => h, by simp [Dt.cnt]⟩
theorem StRel.node {A A1 A2 : Ar} {p : Nat} {k v : Int} {h : Nat} {l r : Dt} {T1 T2 : Tr} {n1 n2 : List (Int × Int)} (ok : (new p k v h l r).Ok A.get) (h1 : StRel l A T1 A1 n1) (h2 : StRel r A1 T2 A2 n2) (hw : Arw A2) (hb : i64B (A2.nxt.1 : Int) ∧ i64B (A2.nxt.2 : Int)) :
    StRel (new p k v h l r) A (.node ((A2.nxt.1 : Int), (A2.nxt.2 : Int)) k v T1 T2) (A2.put ⟨k, v, T1.root, T2.root, (h : Int)⟩) (n1 ++ n2 ++ [((A2.nxt.1 : Int), (A2.nxt.2 : Int))]) := by
  obtain ⟨o1, o2, o3, o4, o5⟩ := ok
  have hm := hw.put_mono ⟨k, v, T1.root, T2.root, (h : Int)⟩
  have hn := hw.told_new ⟨k, v, T1.root, T2.root, (h : Int)⟩
  have mo : ∀ s t x, A.get s t = some x → A2.get s t = some x := fun s t x e => h2.mono _ _ _ (h1.mono _ _ _ e)
  have fr : ∀ s t, A2.get s t = none → A.get s t = none := fun s t e => by
    cases hg : A.get s t with
    | none => rfl
    | some y => rw [mo _ _ _ hg] at e; cases e
  have fr1 : ∀ s t, A1.get s t = none → A.get s t = none := fun s t e => by
    cases hg : A.get s t with
    | none => rfl
    | some y => rw [h1.mono _ _ _ hg] at e; cases e
  refine ⟨⟨?_, ?_, hb.1, hb.2, (h1.lies.mono h2.mono).mono hm, h2.lies.mono hm⟩, ⟨by rw [h1.high, h2.high]; exact o2, by rw [h1.high, h2.high]; exact o3, h1.bal, h2.bal⟩, ?_, ?_, ?_, ?_, ?_, fun s t x e => hm _ _ _ (mo _ _ _ e), ?_⟩
  · rw [hn.2.2.1]
    simp only [Tr.nd, h1.high, h2.high, ← o1]
  · intro e
    have e1 := congrArg Prod.fst e
    have := hn.2.2.2.1
    simp at e1
    omega
  · simp only [Tr.high, Dt.hnew, h1.high, h2.high]
    omega
  · simp only [Tr.prs, Dt.prs, h1.prs, h2.prs]
  · have e1 := h1.hds
    have e2 := h2.hds
    rw [List.perm_iff_count] at e1 e2 ⊢
    intro a
    have := e1 a
    have := e2 a
    simp only [Tr.hds, Dt.olds, List.count_append, List.count_cons, List.count_nil] at *
    omega
  · have := h1.len
    have := h2.len
    simp [Dt.cnt]
    omega
  · intro x hx
    simp only [List.mem_append, List.mem_singleton] at hx
    rcases hx with (hx | hx) | rfl
    · exact h1.fresh x hx
    · exact fr1 _ _ (h2.fresh x hx)
    · exact fr _ _ hw.put_none
  · have := h1.live
    have := h2.live
    rw [hw.live_put]
    simp only [Dt.cnt]
    omega
/-- A draft while it is laid. -/
structure Sd (W w0 w : World) (gm ga gd most U : Nat) (A : Ar) (gn made : List (Int × Int)) (vg vm : Value) : Prop where
  az : Az W w ga most U A
  map : w.heap[gm]? = some (.cells #[.pointer (some ⟨ga, 0, none⟩), cmpV] 70 (0, 0))
  blk : w.heap[gd]? = some (.cells #[.pointer (some ⟨gm, 0, none⟩), vg, vm] 73 (0, 0))
  og : OwnH w w0.heap.size vg gn
  om : OwnH w w0.heap.size vm made
  ne : ∀ k, vg.ownBlock = some k → vm.ownBlock ≠ some k
  low : w0.heap.size ≤ gd
  kp : Kp w0 w
  hW : W.heap.size ≤ w0.heap.size
theorem Sd.below {W w0 w w' : World} {gm ga gd most U : Nat} {A : Ar} {gn made : List (Int × Int)} {vg vm : Value} (h : Sd W w0 w gm ga gd most U A gn made vg vm) (hb : Below w.heap.size w w') : Sd W w0 w' gm ga gd most U A gn made vg vm :=
  ⟨h.az.below hb, (hb.block _ (Array.getElem?_eq_some_iff.1 h.map).1).trans h.map, (hb.block _ (Array.getElem?_eq_some_iff.1 h.blk).1).trans h.blk, h.og.below hb, h.om.below hb, h.ne, h.low, h.kp.trans (Kp.of_below hb), h.hW⟩
theorem Sd.arw {W w0 w : World} {gm ga gd most U : Nat} {A : Ar} {gn made : List (Int × Int)} {vg vm : Value} (h : Sd W w0 w gm ga gd most U A gn made vg vm) : Arw A := by
  obtain ⟨fs, h2, _⟩ := h.az.an
  exact h2.arw
/-- What laying leaves as it was: all but the arena, the draft, and the row of what is made. -/
structure Kx (gd : Nat) (vm : Value) (w w' : World) (vm' : Value) : Prop where
  size : w.heap.size ≤ w'.heap.size
  block : ∀ (k : Nat) (cs : Array Value) (t : TypeId) (z : Nat × Nat), w.heap[k]? = some (Obj.cells cs t z) → t ≠ 85 → t ≠ 95 → t ≠ 3 → k ≠ gd → vm.ownBlock ≠ some k → w'.heap[k]? = some (Obj.cells cs t z)
  row : ∀ k, vm'.ownBlock = some k → vm.ownBlock = some k ∨ w.heap.size ≤ k
theorem Kx.refl (gd : Nat) (vm : Value) (w : World) : Kx gd vm w w vm := ⟨Nat.le_refl _, fun _ _ _ _ h _ _ _ _ _ => h, fun _ h => .inl h⟩
theorem Kx.trans {gd : Nat} {vm vm' vm'' : Value} {a b c : World} (h : Kx gd vm a b vm') (h' : Kx gd vm' b c vm'') : Kx gd vm a c vm'' :=
  ⟨Nat.le_trans h.size h'.size, fun k cs t z hk h1 h2 h3 h4 h5 => h'.block k cs t z (h.block k cs t z hk h1 h2 h3 h4 h5) h1 h2 h3 h4 (fun e => by
    rcases h.row k e with h6 | h6
    · exact h5 h6
    · have := (Array.getElem?_eq_some_iff.1 hk).1
      omega), fun k hk => by
    rcases h'.row k hk with h6 | h6
    · exact h.row k h6
    · exact .inr (Nat.le_trans h.size h6)⟩
theorem Kx.of_below {gd : Nat} {vm : Value} {w w' : World} (h : Below w.heap.size w w') : Kx gd vm w w' vm := ⟨h.size, fun k cs t z hk _ _ _ _ _ => (h.block k (Array.getElem?_eq_some_iff.1 hk).1).trans hk, fun _ h => .inl h⟩
theorem Kx.of_kp {gd : Nat} {vm : Value} {w w' : World} (h : Kp w w') : Kx gd vm w w' vm := ⟨h.1, fun k cs t z hk h1 h2 h3 _ _ => h.2 k cs t z hk h1 h2 h3, fun _ h => .inl h⟩
theorem Kx.any {gd : Nat} {vm vm' : Value} {w w' : World} (h : Kx gd vm w w' vm') {B : Nat} {made : List (Int × Int)} (hv : OwnH w B vm made) {W w0 : World} {k : Nat} {cs : Array Value} {t : TypeId} {z : Nat × Nat} (hk : w.heap[k]? = some (.cells cs t z)) (h1 : t ≠ 85) (h2 : t ≠ 95) (h3 : t ≠ 3) (h4 : k ≠ gd) (h5 : t ≠ 28) : w'.heap[k]? = some (.cells cs t z) :=
  h.block k cs t z hk h1 h2 h3 h4 (row_ne hv hk h5)
theorem Kx.din {gd : Nat} {vm vm' : Value} {w w' : World} (h : Kx gd vm w w' vm') {B : Nat} {made : List (Int × Int)} (hv : OwnH w B vm made) {cs0 : Array Value} (hgd : w.heap[gd]? = some (.cells cs0 73 (0, 0))) {n : Nat} {d : Dt} (hd : DIn n w d) : DIn n w' d := hd.kept fun k hk => by
  obtain ⟨_, cs, e⟩ := hd.kind k hk
  rw [e]
  refine h.any (w0 := w) (W := w) hv e (by decide) (by decide) (by decide) ?_ (by decide)
  rintro rfl
  rw [hgd] at e
  simp at e
/-- A cell of a box that is no draft's and no row's is written. -/
theorem Sd.mod {W w0 w w' : World} {gm ga gd most U : Nat} {A : Ar} {gn made : List (Int × Int)} {vg vm : Value} (h : Sd W w0 w gm ga gd most U A gn made vg vm) {k : Nat} {cs : Array Value} {t : TypeId} {z : Nat × Nat} (hk : w.heap[k]? = some (.cells cs t z)) (h1 : t ≠ 85) (h2 : t ≠ 95) (h3 : t ≠ 3) (h4 : t ≠ 73) (h5 : t ≠ 70) (hl : w0.heap.size ≤ k) (hvg : vg.ownBlock ≠ some k) (hvm : vm.ownBlock ≠ some k) (hm : Mod [k] w w') : Sd W w0 w' gm ga gd most U A gn made vg vm := by
  have hne : ∀ {j : Nat} {cs' : Array Value} {t' : TypeId} {z' : Nat × Nat}, w.heap[j]? = some (Obj.cells cs' t' z') → t ≠ t' → w'.heap[j]? = some (Obj.cells cs' t' z') := fun {j cs' t' z'} e ht => by
    refine (hm.block j (Array.getElem?_eq_some_iff.1 e).1 ?_).trans e
    simp
    rintro rfl
    rw [hk] at e
    simp at e
    exact ht e.2.1
  obtain ⟨a1, fs, a2, a3⟩ := h.az
  refine ⟨⟨a1.trans (hm.below a1.size (by simp; exact Nat.le_trans h.hW hl)), fs, a2.mod hm (fun j hj => ?_), a3⟩, hne h.map h5, hne h.blk h4, row_kept h.og fun b hb => hm.block b (row_lt h.og hb) (by simp; rintro rfl; exact hvg hb), row_kept h.om fun b hb => hm.block b (row_lt h.om hb) (by simp; rintro rfl; exact hvm hb), h.ne, h.low, ?_, h.hW⟩
  · simp
    rintro rfl
    exact a2.apart hk h1 h2 h3 hj
  · refine ⟨Nat.le_trans h.kp.1 hm.size, fun j cs' t' z' e t1 t2 t3 => ?_⟩
    have e2 := h.kp.2 j cs' t' z' e t1 t2 t3
    have hj := (Array.getElem?_eq_some_iff.1 e).1
    refine (hm.block j (Array.getElem?_eq_some_iff.1 e2).1 ?_).trans e2
    simp
    omega
theorem Sd.kpd {W w0 w w' : World} {gm ga gd most U U' : Nat} {A A' : Ar} {gn made : List (Int × Int)} {vg vm : Value} (h : Sd W w0 w gm ga gd most U A gn made vg vm) (ha : Az W w' ga most U' A') (hk : Kp w w') : Sd W w0 w' gm ga gd most U' A' gn made vg vm :=
  ⟨ha, hk.2 _ _ _ _ h.map (by decide) (by decide) (by decide), hk.2 _ _ _ _ h.blk (by decide) (by decide) (by decide), h.og.kp hk, h.om.kp hk, h.ne, h.low, h.kp.trans hk, h.hW⟩
theorem sd_push {W w0 w w1 w2 : World} {gm ga gd most U : Nat} {A : Ar} {gn made : List (Int × Int)} {vg : Value} {a A' : Option Addr} {m c n' c' : Nat} {g : Int × Int} (h : Sd W w0 w gm ga gd most U A gn made vg (.slice a m c)) (hb : Below w.heap.size w w1)
    (ho : OwnH w2 w0.heap.size (.slice A' n' c') (made ++ [g])) (hg : w1.grownBy w2 (Value.slice a m c).ownBlock) (hat : (Value.slice A' n' c').ownBlock = (Value.slice a m c).ownBlock ∨ (Value.slice A' n' c').ownBlock = some w1.heap.size) :
    w2.cell? ⟨gd, 2, none⟩ = some (.slice a m c) ∧ w2.frozen? ⟨gd, 2, none⟩ = false ∧ Sd W w0 (w2.setCell ⟨gd, 2, none⟩ (.slice A' n' c')) gm ga gd most U A gn (made ++ [g]) vg (.slice A' n' c') ∧ Kx gd (.slice a m c) w (w2.setCell ⟨gd, 2, none⟩ (.slice A' n' c')) (.slice A' n' c') ∧
    ∀ (k : Nat) (o : Obj), w.heap[k]? = some o → k ≠ gd → (Value.slice a m c).ownBlock ≠ some k → (w2.setCell ⟨gd, 2, none⟩ (.slice A' n' c')).heap[k]? = some o := by
  have hlt := (Array.getElem?_eq_some_iff.1 h.blk).1
  have h1 := (hb.block gd hlt).trans h.blk
  have h2 := (hg.block gd (Nat.lt_of_lt_of_le hlt hb.size) (fun e => row_ne h.om h.blk (by decide) e.symm)).trans h1
  have hne : (Value.slice A' n' c').ownBlock ≠ some gd := row_ne ho h2 (by decide)
  have e1 := Joins.block_setCell (i := 2) h2 (.slice A' n' c')
  have hM : Mod (gd :: (Value.slice a m c).ownBlock.toList) w (w2.setCell ⟨gd, 2, none⟩ (.slice A' n' c')) :=
    (((Mod.of_below hb).trans (Mod.of_grown (fs := gd :: (Value.slice a m c).ownBlock.toList) hg (fun k hk => by simp [hk])) (fun k hk => .inl hk))).setCell (p := ⟨gd, 2, none⟩) (.inl (by simp)) _
  have hks : ∀ k ∈ gd :: (Value.slice a m c).ownBlock.toList, w0.heap.size ≤ k ∧ ∃ cs t, w.heap[k]? = some (.cells cs t (0, 0)) ∧ (t = 73 ∨ t = 28) := fun k hk => by
    rcases List.mem_cons.1 hk with rfl | hk
    · exact ⟨h.low, _, _, h.blk, .inl rfl⟩
    · have hk : (Value.slice a m c).ownBlock = some k := by simpa using hk
      obtain ⟨cur, hc⟩ := row_block h.om hk
      exact ⟨(World.ownsRow.lt h.om k hk).1, _, _, hc, .inr rfl⟩
  have hoth : ∀ (k : Nat) (o : Obj), w.heap[k]? = some o → k ≠ gd → (Value.slice a m c).ownBlock ≠ some k → (w2.setCell ⟨gd, 2, none⟩ (.slice A' n' c')).heap[k]? = some o := fun k o e h1 h2 =>
    (hM.block k (Array.getElem?_eq_some_iff.1 e).1 (by simp [h1]; exact h2)).trans e
  have hty : ∀ {k : Nat} {cs : Array Value} {t : TypeId} {z : Nat × Nat}, w.heap[k]? = some (Obj.cells cs t z) → t ≠ 73 → t ≠ 28 → k ∉ gd :: (Value.slice a m c).ownBlock.toList := fun {k cs t z} e t1 t2 hk => by
    obtain ⟨_, cs', t', e', ht⟩ := hks k hk
    rw [e] at e'
    simp at e'
    rcases ht with rfl | rfl
    · exact t1 e'.2.1
    · exact t2 e'.2.1
  obtain ⟨a1, fs, a2, a3⟩ := h.az
  have hbl := hM.below (B := W.heap.size) a1.size (fun k hk => Nat.le_trans h.hW (hks k hk).1)
  refine ⟨cell_of_row w2 gd 2 _ _ (0, 0) h2, Joins.unfrozen_of_block h2 2, ⟨⟨a1.trans hbl, fs, a2.mod hM (fun j hj hj2 => ?_), a3⟩, (hM.block _ (Array.getElem?_eq_some_iff.1 h.map).1 (hty h.map (by decide) (by decide))).trans h.map, by simpa using e1, row_kept h.og fun b hb' => hM.block b (row_lt h.og hb') ?_, row_kept ho fun b hb' => Below.heap_setCell _ _ _ _ (fun e => hne (hb'.trans (congrArg some e))), fun k hk hk2 => ?_, h.low, ⟨Nat.le_trans h.kp.1 hM.size, fun j cs t z e t1 t2 t3 => ?_⟩, h.hW⟩, ⟨hM.size, fun k cs t z e _ _ _ h4 h5 => hoth k _ e h4 h5, fun k hk => ?_⟩, hoth⟩
  · obtain ⟨_, cs', t', e', ht⟩ := hks j hj2
    rcases ht with rfl | rfl
    · exact a2.apart e' (by decide) (by decide) (by decide) hj
    · exact a2.apart e' (by decide) (by decide) (by decide) hj
  · intro hb2
    rcases List.mem_cons.1 hb2 with rfl | hb2
    · exact row_ne h.og h.blk (by decide) hb'
    · exact h.ne b hb' (by simpa using hb2)
  · rcases hat with e | e
    · exact h.ne k hk (e ▸ hk2)
    · rw [e] at hk2
      have := Option.some.inj hk2
      have := row_lt h.og hk
      have := hb.size
      omega
  · have e2 := h.kp.2 j cs t z e t1 t2 t3
    have hj := (Array.getElem?_eq_some_iff.1 e).1
    exact (hM.block j (Array.getElem?_eq_some_iff.1 e2).1 (fun hk => by have := (hks j hk).1; omega)).trans e2
  · rcases hat with e | e
    · exact .inl (e ▸ hk)
    · rw [e] at hk
      have := Option.some.inj hk
      have := hb.size
      exact .inr (by omega)
/-- A node in its box. -/
def Nb (w : World) (k : Nat) (x : Nd) : Prop := w.heap[k]? = some (.cells #[.int .i64 x.k, .int .i64 x.v, .int .i64 x.l.1, .int .i64 x.l.2, .int .i64 x.r.1, .int .i64 x.r.2, .int .i64 x.h] 60 (0, 0))
theorem Nb.set {w : World} {k : Nat} {x : Nd} (h : Nb w k x) (l r : Int × Int) : Nb ((((w.setCell ⟨k, 2, none⟩ (.int .i64 l.1)).setCell ⟨k, 3, none⟩ (.int .i64 l.2)).setCell ⟨k, 4, none⟩ (.int .i64 r.1)).setCell ⟨k, 5, none⟩ (.int .i64 r.2)) k ⟨x.k, x.v, l, r, x.h⟩ := by
  have e := Joins.block_setCell (i := 5) (Joins.block_setCell (i := 4) (Joins.block_setCell (i := 3) (Joins.block_setCell (i := 2) h (.int .i64 l.1)) (.int .i64 l.2)) (.int .i64 r.1)) (.int .i64 r.2)
  unfold Nb
  simpa using e
end Go.Proofs.Ytcckamajiebgeaa
namespace Go.Proofs.Ytcckamajiebgeaa
open Go.RowKit
set_option linter.unusedVariables false
set_option linter.unusedSimpArgs false
set_option maxRecDepth 100000
open Dt

def SeRet (W w0 : World) (gm ga gd most U : Nat) (A : Ar) (gn made : List (Int × Int)) (vg vm : Value) (d : Dt) (w : World) (e : Ending) (w' : World) : Prop :=
  ∃ T' A' nw vm', e = .returned (.agg #[.int .i64 T'.root.1, .int .i64 T'.root.2]) ∧ Sd W w0 w' gm ga gd most (U + d.cnt) A' gn (made ++ nw) vg vm' ∧ StRel d A T' A' nw ∧ Kx gd vm w w' vm'
theorem box_hand (w : World) (b : Option Nat × Int × Int) : Below w.heap.size w ((w.alloc (.cells #[pv b.1, .int .i64 b.2.1, .int .i64 b.2.2] 76)).alloc (.cells #[.int .i64 0, .int .i64 0] 28)) ∧
    Bxb ((w.alloc (.cells #[pv b.1, .int .i64 b.2.1, .int .i64 b.2.2] 76)).alloc (.cells #[.int .i64 0, .int .i64 0] 28)) w.heap.size b ∧
    Hb ((w.alloc (.cells #[pv b.1, .int .i64 b.2.1, .int .i64 b.2.2] 76)).alloc (.cells #[.int .i64 0, .int .i64 0] 28)) (w.heap.size + 1) 0 0 := by
  have D1 := (Below.refl w.heap.size w).alloc (Nat.le_refl _) (.cells #[pv b.1, .int .i64 b.2.1, .int .i64 b.2.2] 76)
  have X1 := Bxb.new w b
  generalize h1 : w.alloc (.cells #[pv b.1, .int .i64 b.2.1, .int .i64 b.2.2] 76) = w1 at *
  have hs : w1.heap.size = w.heap.size + 1 := by rw [← h1]; simp
  have D2 := (Below.refl w1.heap.size w1).alloc (Nat.le_refl _) (.cells #[.int .i64 0, .int .i64 0] 28)
  have X2 := Hb.new w1 0 0
  rw [hs] at X2
  exact ⟨D1.trans (D2.mono D1.size), X1.below D2, X2⟩
theorem Kx.mod {gd : Nat} {vm vm' : Value} {a b c : World} (h : Kx gd vm a b vm') {k : Nat} (hm : Mod [k] b c) (hk : a.heap.size ≤ k) : Kx gd vm a c vm' :=
  ⟨Nat.le_trans h.size hm.size, fun j cs t z e h1 h2 h3 h4 h5 => by
    have e2 := h.block j cs t z e h1 h2 h3 h4 h5
    have hj := (Array.getElem?_eq_some_iff.1 e).1
    refine (hm.block j (Array.getElem?_eq_some_iff.1 e2).1 ?_).trans e2
    simp
    omega, h.row⟩
theorem mod2 (w : World) (p i j : Nat) (x y : Value) : Mod [p] w ((w.setCell ⟨p, i, none⟩ x).setCell ⟨p, j, none⟩ y) :=
  ((Mod.refl [p] w).setCell (p := ⟨p, i, none⟩) (.inl (by simp)) x).setCell (p := ⟨p, j, none⟩) (.inl (by simp)) y
theorem Hb.fz {w : World} {k : Nat} {s t : Int} (h : Hb w k s t) (i : Nat) : w.frozen? ⟨k, i, none⟩ = false := Joins.unfrozen_of_block h i
/-- A handle's box, that was made behind the rows, is written. -/
theorem Sd.hand {W w0 w w' : World} {gm ga gd most U : Nat} {A : Ar} {gn made : List (Int × Int)} {vg vm : Value} (h : Sd W w0 w gm ga gd most U A gn made vg vm) {k : Nat} {s t : Int} (hk : Hb w k s t) (hl : w0.heap.size ≤ k) (hvg : vg.ownBlock ≠ some k) (hvm : vm.ownBlock ≠ some k) (hm : Mod [k] w w') : Sd W w0 w' gm ga gd most U A gn made vg vm :=
  h.mod hk (by decide) (by decide) (by decide) (by decide) (by decide) hl hvg hvm hm
set_option maxHeartbeats 2000000 in
theorem settle_old {W w0 : World} {gm ga gd most U : Nat} {A : Ar} {gn made : List (Int × Int)} {vg vm : Value} (T : Tr) (w : World) (hS : Sd W w0 w gm ga gd most U A gn made vg vm) (ok : (old T).Ok A.get) :
    Calls Try.prog 44 #[.pointer (some ⟨gd, 0, none⟩), bvv (old T).bv] w (SeRet W w0 gm ga gd most U A gn made vg vm (old T) w) := by
  obtain ⟨D, X1, X2⟩ := box_hand w (none, T.root.1, T.root.2)
  have R := hide (fun (w' : World) (vm' : Value) (h : Sd W w0 w' gm ga gd most U A gn made vg vm) (hk : Kx gd vm w w' vm) => show SeRet W w0 gm ga gd most U A gn made vg vm (old T) w (.returned (.agg #[.int .i64 T.root.1, .int .i64 T.root.2])) w' from ⟨T, A, [], vm, rfl, by simp only [Dt.cnt, List.append_nil, Nat.add_zero]; exact h, StRel.old ok, hk⟩)
  have NG := hide (show vg.ownBlock ≠ some (w.heap.size + 1) ∧ vm.ownBlock ≠ some (w.heap.size + 1) from ⟨fun e => by have := row_lt hS.og e; omega, fun e => by have := row_lt hS.om e; omega⟩)
  have HS1 := hide (hS.below D)
  have HSZ := hide hS.kp.1
  have B := hide D
  have HX1 := hide X1
  have HX2 := hide X2
  clear D X1 X2 hS ok
  unfold pv at *
  simp only [Option.map_none] at *
  change Calls _ _ #[_, .agg #[.pointer none, .int .i64 T.root.1, .int .i64 T.root.2]] _ _
  go_enter Try.func44, Try.ntmps44
  go_upto_region 1 with (fail)
  obtain ⟨kr, hkr⟩ : ∃ q, w.heap.size + 1 = q := ⟨_, rfl⟩
  obtain ⟨kb, hkb⟩ : ∃ q, w.heap.size = q := ⟨_, rfl⟩
  have HKX := hide (show w.heap.size ≤ kr by omega)
  rw [hkr] at HX2 NG ⊢
  rw [hkb] at HX1 ⊢
  clear hkr hkb
  generalize World.alloc (World.alloc w _) _ = w1 at *
  have hne : kb ≠ kr := by
    rintro rfl
    have h1 := HX1.out
    have h2 := HX2.out
    unfold Bxb at h1
    unfold Hb at h2
    rw [h1] at h2
    simp at h2
  obtain ⟨x0, x1, x2⟩ := HX1.out.three
  obtain ⟨b0, b1⟩ := HX2.out.two
  have g0 := HX2.out.fz 0
  have g1 := HX2.out.fz 1
  unfold pv at x0
  simp only [Option.map_none] at x0 x1 x2
  go_wp2_with fail
  have M := mod2 w1 kr 0 1 (.int .i64 T.root.1) (.int .i64 T.root.2)
  refine bodyPost_ret (v := .agg #[.int .i64 T.root.1, .int .i64 T.root.2]) ?_ rfl (R.out _ vm (HS1.out.hand HX2.out (Nat.le_trans HSZ.out HKX.out) NG.out.1 NG.out.2 M) ((Kx.of_below B.out).mod M HKX.out))
  rw [results_one rfl]
  go_simp
theorem hb_set {w : World} {k : Nat} {s t p q : Int} (h : Hb w k s t) : Hb ((w.setCell ⟨k, 0, none⟩ (.int .i64 p)).setCell ⟨k, 1, none⟩ (.int .i64 q)) k p q := by
  have h2 := Joins.block_setCell (i := 1) (Joins.block_setCell (i := 0) h (.int .i64 p)) (.int .i64 q)
  unfold Hb
  simpa using h2
theorem kp_set2 {w7 w8 : World} (hk : Kp w7 w8) (x y : Value) : Kp w7 ((w8.setCell ⟨w7.heap.size, 0, none⟩ x).setCell ⟨w7.heap.size, 1, none⟩ y) := by
  have M := mod2 w8 w7.heap.size 0 1 x y
  refine ⟨Nat.le_trans hk.1 M.size, fun j cs t z e t1 t2 t3 => ?_⟩
  have e2 := hk.2 j cs t z e t1 t2 t3
  have hj := (Array.getElem?_eq_some_iff.1 e).1
  refine (M.block j (Array.getElem?_eq_some_iff.1 e2).1 ?_).trans e2
  simp
  omega
/-- Behind the arena's Put: the draft, what is as it was, the handle in its box. -/
structure Se9 (W w0 w w1 w7 w9 : World) (gm ga gd most U : Nat) (A : Ar) (gn made : List (Int × Int)) (vg vm vm2 : Value) (kh : Nat) (s t : Int) : Prop where
  sd : Sd W w0 w9 gm ga gd most U A gn made vg vm2
  k : Kx gd vm w w9 vm2
  k1 : Kx gd vm w1 w9 vm2
  hb : Hb w9 kh s t
  lo : w7.heap.size ≤ kh
theorem se9_late {W w0 w w1 w7 w8 : World} {gm ga gd most U U' : Nat} {A A' : Ar} {gn made : List (Int × Int)} {vg vm vm2 : Value} {s t : Int} (S7 : Sd W w0 w7 gm ga gd most U A gn made vg vm2) (K7 : Kx gd vm w w7 vm2) (K71 : Kx gd vm w1 w7 vm2) (haz : Az W w8 ga most U' A') (hkp : Kp w7.drew w8) :
    Se9 W w0 w w1 w7 (w8.alloc (.cells #[.int .i64 s, .int .i64 t] 28)) gm ga gd most U' A' gn made vg vm vm2 w8.heap.size s t := by
  have hk : Kp w7 w8 := hkp
  have D := (Below.refl w8.heap.size w8).alloc (Nat.le_refl _) (.cells #[.int .i64 s, .int .i64 t] 28)
  exact ⟨(S7.kpd haz hk).below D, (K7.trans (Kx.of_kp hk)).trans (Kx.of_below D), (K71.trans (Kx.of_kp hk)).trans (Kx.of_below D), Hb.new _ _ _, hk.1⟩
theorem se9_early {W w0 w w1 w7 w8 : World} {gm ga gd most U U' : Nat} {A A' : Ar} {gn made : List (Int × Int)} {vg vm vm2 : Value} {s t : Int} (S7 : Sd W w0 w7 gm ga gd most U A gn made vg vm2) (K7 : Kx gd vm w w7 vm2) (K71 : Kx gd vm w1 w7 vm2) (haz : Az W w8 ga most U' A') (hkp : Kp (w7.alloc (.cells #[.int .i64 0, .int .i64 0] 28)).drew w8) :
    Hb w8 w7.heap.size 0 0 ∧ Se9 W w0 w w1 w7 ((w8.setCell ⟨w7.heap.size, 0, none⟩ (.int .i64 s)).setCell ⟨w7.heap.size, 1, none⟩ (.int .i64 t)) gm ga gd most U' A' gn made vg vm vm2 w7.heap.size s t := by
  have D := (Below.refl w7.heap.size w7).alloc (Nat.le_refl _) (.cells #[.int .i64 0, .int .i64 0] 28)
  have hk : Kp (w7.alloc (.cells #[.int .i64 0, .int .i64 0] 28)) w8 := hkp
  have h0 := (Hb.new w7 0 0).kp hk
  have S8 := (S7.below D).kpd haz hk
  have h1 := Nat.le_trans S7.kp.1 (Nat.le_refl _)
  have M := mod2 w8 w7.heap.size 0 1 (.int .i64 s) (.int .i64 t)
  have K8 := (K7.trans (Kx.of_below D)).trans (Kx.of_kp hk)
  have K81 := (K71.trans (Kx.of_below D)).trans (Kx.of_kp hk)
  exact ⟨h0, S8.hand h0 h1 (fun e => by have := row_lt S7.og e; omega) (fun e => by have := row_lt S7.om e; omega) M, K8.mod M K7.size, K81.mod M K71.size, hb_set h0, Nat.le_refl _⟩
/-- Behind the append to what is made. -/
structure SeE (W w0 w w1 wx : World) (gm ga gd most U : Nat) (A : Ar) (gn made : List (Int × Int)) (vg vm vm' : Value) (kh : Nat) (s t : Int) : Prop where
  sd : Sd W w0 wx gm ga gd most U A gn made vg vm'
  k : Kx gd vm w wx vm'
  k1 : Kx gd vm w1 wx vm'
  hb : Hb wx kh s t
set_option maxHeartbeats 8000000 in
theorem settle_any {W w0 : World} {gm ga gd most : Nat} {gn : List (Int × Int)} {vg : Value} : ∀ (d : Dt) (U : Nat) (A : Ar) (made : List (Int × Int)) (vm : Value) (w : World) (hS : Sd W w0 w gm ga gd most U A gn made vg vm) (hd : DIn w0.heap.size w d) (ok : d.Ok A.get) (hc : A.live + d.cnt ≤ most) (hU : U + d.cnt ≤ 900000) (hm : made.length + d.cnt ≤ 900),
    Calls Try.prog 44 #[.pointer (some ⟨gd, 0, none⟩), bvv d.bv] w (SeRet W w0 gm ga gd most U A gn made vg vm d w) := by
  intro d
  induction d with
  | old T =>
    intro U A made vm w hS hd ok hc hU hm
    exact settle_old T w hS ok
  | new p k v h l r ihl ihr =>
    intro U A made vm w hS hd ok hc hU hm
    obtain ⟨D, X1, X2⟩ := box_hand w (some p, 0, 0)
    have NG := hide (show vg.ownBlock ≠ some (w.heap.size + 1) ∧ vm.ownBlock ≠ some (w.heap.size + 1) from ⟨fun e => by have := row_lt hS.og e; omega, fun e => by have := row_lt hS.om e; omega⟩)
    have HS1 := hide (hS.below D)
    have HDI := hide (hd.below D)
    have HSZ := hide hS.kp.1
    have HB := hide (And.intro hc (And.intro hU hm))
    have HOK := hide ok
    have HI := hide (And.intro ihl ihr)
    have B := hide D
    have HX1 := hide X1
    have HX2 := hide X2
    clear D X1 X2 hS ok hd hc hU hm ihl ihr
    unfold pv at *
    simp only [Option.map_some] at *
    change Calls _ _ #[_, .agg #[.pointer (some ⟨p, 0, none⟩), .int .i64 0, .int .i64 0]] _ _
    go_enter Try.func44, Try.ntmps44
    go_upto_region 1 with (fail)
    obtain ⟨kr, hkr⟩ : ∃ q, w.heap.size + 1 = q := ⟨_, rfl⟩
    obtain ⟨kb, hkb⟩ : ∃ q, w.heap.size = q := ⟨_, rfl⟩
    have HKX := hide (show w.heap.size ≤ kr by omega)
    rw [hkr] at HX2 NG ⊢
    rw [hkb] at HX1 ⊢
    clear hkr hkb
    generalize World.alloc (World.alloc w _) _ = w1 at *
    obtain ⟨x0, x1, x2⟩ := HX1.out.three
    unfold pv at x0
    simp only [Option.map_some] at x0 x1 x2
    obtain ⟨z0, z1, z2, z3, z4, z5, z6, z7, z8⟩ := HDI.out.1.nine
    have D4 := (Below.refl w1.heap.size w1).alloc (Nat.le_refl _) (.cells #[.int .i64 0, .int .i64 0, .int .i64 0, .int .i64 0, .int .i64 0, .int .i64 0, .int .i64 0] 60)
    have y0 := cell_b D4 z0
    have y1 := cell_b D4 z1
    have y8 := cell_b D4 z8
    clear D4
    go_upto_region 4 with (fail)
    go_region
    have D4 := ((Below.refl w1.heap.size w1).alloc (Nat.le_refl _) (.cells #[.int .i64 k, .int .i64 v, .int .i64 0, .int .i64 0, .int .i64 0, .int .i64 0, .int .i64 (h : Int)] 60)).drew
    have N4 := hide (show Nb (w1.alloc (.cells #[.int .i64 k, .int .i64 v, .int .i64 0, .int .i64 0, .int .i64 0, .int .i64 0, .int .i64 (h : Int)] 60)).drew w1.heap.size ⟨k, v, (0, 0), (0, 0), (h : Int)⟩ from heap_alloc_new w1 _)
    have B4 := hide D4
    have S4 := hide (HS1.out.below D4)
    clear x0 x1 x2 z0 z1 z2 z3 z4 z5 z6 z7 z8 y0 y1 y8 D4 HX1
    generalize hkn : w1.heap.size = kn at N4 ⊢
    have HKN := hide (Nat.le_of_eq hkn)
    clear hkn
    generalize (World.alloc w1 _).drew = w4 at *
    have HDI4 := hide (HDI.out.below B4.out)
    have BD := (Below.refl w4.heap.size w4).drew
    have BD4 := hide BD
    have SD4 := hide (S4.out.below BD)
    have ND4 := hide (show Nb w4.drew kn ⟨k, v, (0, 0), (0, 0), (h : Int)⟩ from N4.out)
    have KL := hide (HI.out.1 U A made vm w4.drew SD4.out (HDI4.out.2.1.below BD) HOK.out.2.2.2.1 (by have := HB.out; simp only [Dt.cnt] at this; omega) (by have := HB.out; simp only [Dt.cnt] at this; omega) (by have := HB.out; simp only [Dt.cnt] at this; omega))
    have KR := hide (fun (w5 : World) (T1 : Tr) (A1 : Ar) (n1 : List (Int × Int)) (vm1 : Value) (S5 : Sd W w0 w5 gm ga gd most (U + l.cnt) A1 gn (made ++ n1) vg vm1) (R1 : StRel l A T1 A1 n1) (K5 : Kx gd vm w4.drew w5 vm1) => HI.out.2 (U + l.cnt) A1 (made ++ n1) vm1 w5 S5 (K5.din SD4.out.om SD4.out.blk (HDI4.out.2.2.1.below BD)) (HOK.out.2.2.2.2.mono R1.mono) (by have := HB.out; have := R1.live; simp only [Dt.cnt] at *; omega) (by have := HB.out; simp only [Dt.cnt] at this; omega) (by have := HB.out; have := R1.len; simp only [Dt.cnt, List.length_append] at *; omega))
    have KC := hide (fun (w5 : World) (A1 : Ar) (m1 : List (Int × Int)) (vm1 : Value) (U1 : Nat) (K5 : Kx gd vm w4.drew w5 vm1) => show Fb w5 p k v l.bv r.bv h ∧ Nb w5 kn ⟨k, v, (0, 0), (0, 0), (h : Int)⟩ from
      ⟨(K5.din SD4.out.om SD4.out.blk (HDI4.out.below BD)).1, K5.any (w0 := w5) (W := w5) SD4.out.om ND4.out (by decide) (by decide) (by decide) (by rintro rfl; have e1 := ND4.out; have e2 := SD4.out.blk; unfold Nb at e1; rw [e1] at e2; simp at e2) (by decide)⟩)
    have z0 := HDI4.out.1.nine
    clear BD
    obtain ⟨ba, hba⟩ : ∃ u, l.bv = u := ⟨_, rfl⟩
    obtain ⟨bb, hbb⟩ : ∃ u, r.bv = u := ⟨_, rfl⟩
    unfold bvv at KL KR
    rw [hba] at KL KC z0
    rw [hbb] at KR KC z0
    clear hba hbb
    obtain ⟨ao, sa, ta⟩ := ba
    obtain ⟨bo, sb, tb⟩ := bb
    have A2 := hide (fun (V : World) (hF : Fb V p k v (ao, sa, ta) (bo, sb, tb) h) => hF.nine)
    unfold pv at KL KR z0 A2
    simp only at KL KR z0 A2
    generalize (ao.map fun q => (⟨q, 0, none⟩ : Addr)) = ma at *
    generalize (bo.map fun q => (⟨q, 0, none⟩ : Addr)) = mb at *
    have A3 := hide (fun (V : World) (hF : Fb V p k v (ao, sa, ta) (bo, sb, tb) h) => show V.cell? ⟨p, 2, none⟩ = some (.pointer ma) ∧ V.cell? ⟨p, 3, none⟩ = some (.int .i64 sa) ∧ V.cell? ⟨p, 4, none⟩ = some (.int .i64 ta) ∧ V.cell? ⟨p, 5, none⟩ = some (.pointer mb) ∧ V.cell? ⟨p, 6, none⟩ = some (.int .i64 sb) ∧ V.cell? ⟨p, 7, none⟩ = some (.int .i64 tb) from by
      obtain ⟨-, -, y2, y3, y4, y5, y6, y7, -⟩ := A2.out V hF
      exact ⟨y2, y3, y4, y5, y6, y7⟩)
    have zz := And.intro z0.2.2.1 (And.intro z0.2.2.2.1 (And.intro z0.2.2.2.2.1 (And.intro z0.2.2.2.2.2.1 (And.intro z0.2.2.2.2.2.2.1 z0.2.2.2.2.2.2.2.1))))
    clear z0
    have FNE := hide (fun (V : World) (hF : Fb V p k v (ao, sa, ta) (bo, sb, tb) h) (hN : Nb V kn ⟨k, v, (0, 0), (0, 0), (h : Int)⟩) => show p ≠ kn from by
      rintro rfl
      unfold Fb at hF
      unfold Nb at hN
      rw [hF] at hN
      simp at hN)
    go_upto_region 5 with (fail)
    go_region_held3 (fun w' => w'.cell? ⟨p, 2, none⟩ = some (.pointer ma) ∧ w'.cell? ⟨p, 3, none⟩ = some (.int .i64 sa) ∧ w'.cell? ⟨p, 4, none⟩ = some (.int .i64 ta) ∧ w'.cell? ⟨p, 5, none⟩ = some (.pointer mb) ∧ w'.cell? ⟨p, 6, none⟩ = some (.int .i64 sb) ∧ w'.cell? ⟨p, 7, none⟩ = some (.int .i64 tb))
      (first | with_reducible exact hS4 | with_reducible exact hS3 | with_reducible exact hS2 | with_reducible exact hS1 | with_reducible exact zz | go_keep)
      (first
        | (with_reducible refine KL.out.mono ?_
           rintro e w5 ⟨T1, A1, n1, vm1, rfl, S5, R1, K5⟩
           have KR5 := hide (KR.out w5 T1 A1 n1 vm1 S5 R1 K5)
           have hS1 := A3.out w5 (KC.out w5 A1 n1 vm1 U K5).1
           have HR1 := hide R1
           have HK5 := hide K5
           clear S5 R1 K5)
        | (with_reducible refine KR5.out.mono ?_
           rintro e w6 ⟨T2, A2', n2, vm2, rfl, S6, R2, K6⟩
           have HK6 := hide (HK5.out.trans K6)
           have HS6 := hide S6
           have HR2 := hide R2
           have hFN := KC.out w6 A2' n2 vm2 U HK6.out
           have hS2 := A3.out w6 hFN.1
           obtain ⟨-, -, c2, c3, c4, c5, -, -, -, g2, g3, g4, g5, -⟩ := nd_cells hFN.2
           have hnp := FNE.out w6 hFN.1 hFN.2
           have M3 := mod2 w6 kn 2 3 (.int .i64 T1.root.1) (.int .i64 T1.root.2)
           have M4 := M3.trans (mod2 _ kn 4 5 (.int .i64 T2.root.1) (.int .i64 T2.root.2)) (fun _ h => .inl h)
           have hS3 := A3.out _ (show Fb ((w6.setCell ⟨kn, 2, none⟩ (.int .i64 T1.root.1)).setCell ⟨kn, 3, none⟩ (.int .i64 T1.root.2)) p k v (ao, sa, ta) (bo, sb, tb) h from (M3.block p hFN.1.lt (by simpa using hnp)).trans hFN.1)
           have hS4 := A3.out _ (show Fb ((((w6.setCell ⟨kn, 2, none⟩ (.int .i64 T1.root.1)).setCell ⟨kn, 3, none⟩ (.int .i64 T1.root.2)).setCell ⟨kn, 4, none⟩ (.int .i64 T2.root.1)).setCell ⟨kn, 5, none⟩ (.int .i64 T2.root.2)) p k v (ao, sa, ta) (bo, sb, tb) h from (M4.block p hFN.1.lt (by simpa using hnp)).trans hFN.1)
           have HM4 := hide M4
           have N7 := hide (hFN.2.set T1.root T2.root)
           clear M3 M4
           have hFN6 := hide hFN
           clear S6 R2 K6 hFN))
    have HKNS := hide (show w.heap.size ≤ kn from Nat.le_trans B.out.size HKN.out)
    have S7 := hide (HS6.out.mod (k := kn) hFN6.out.2 (by decide) (by decide) (by decide) (by decide) (by decide) (Nat.le_trans HSZ.out HKNS.out) (row_ne HS6.out.og hFN6.out.2 (by decide)) (row_ne HS6.out.om hFN6.out.2 (by decide)) HM4.out)
    have K7 := hide ((((Kx.of_below B.out).trans (Kx.of_below B4.out)).trans ((Kx.of_below BD4.out).trans HK6.out)).mod HM4.out HKNS.out)
    have K71 := hide (((Kx.of_below B4.out).trans ((Kx.of_below BD4.out).trans HK6.out)).mod HM4.out HKN.out)
    have hnm1 := HR1.out.live
    have hnm2 := HR2.out.live
    have hbb := HB.out
    simp only [Dt.cnt] at hbb
    have HLT := hide (show A2'.live < most by omega)
    have HU := hide (show U + l.cnt + r.cnt ≤ 890000 ∨ U + l.cnt + r.cnt ≤ 900000 from .inr (by omega))
    clear hS1 hS2 hS3 hS4 c2 c3 c4 c5 g2 g3 g4 g5 hnp zz KL KR KR5 KC A2 A3 FNE HM4 hFN6 HS6 HK6 HK5 ND4 SD4 BD4 HDI4 N4 S4 hnm1 hnm2 hbb B4
    go_upto_region 6 with (fail)
    generalize (World.setCell (World.setCell (World.setCell (World.setCell w6 _ _) _ _) _ _) _ _) = w7 at *
    have KP := hide (fun (V : World) (haz : Az W V ga most (U + l.cnt + r.cnt) A2') => zput_any ⟨k, v, T1.root, T2.root, (h : Int)⟩ (by have := HU.out; omega) haz HLT.out)
    unfold ndv at KP
    simp only at KP
    have HNX := hide (show i64B (A2'.nxt.1 : Int) ∧ i64B (A2'.nxt.2 : Int) from by
      obtain ⟨fs, h2, _⟩ := S7.out.az.an
      have h3 := h2.put_len ndz
      have h4 := (h2.arw.told_new ndz).1.slot
      have := HU.out
      unfold i64B
      omega)
    generalize hn1 : (A2'.nxt.1 : Int) = nx1 at *
    generalize hn2 : (A2'.nxt.2 : Int) = nx2 at *
    have HN12 := hide (And.intro hn1 hn2)
    clear hn1 hn2
    have KC := hide (fun (V : World) (hK : Kp w7 V) => show V.cell? ⟨gd, 0, none⟩ = some (.pointer (some ⟨gm, 0, none⟩)) ∧ V.cell? ⟨gm, 0, none⟩ = some (.pointer (some ⟨ga, 0, none⟩)) ∧ V.cell? ⟨kn, 0, none⟩ = some (.int .i64 k) ∧ V.cell? ⟨kn, 1, none⟩ = some (.int .i64 v) ∧ V.cell? ⟨kn, 2, none⟩ = some (.int .i64 T1.root.1) ∧ V.cell? ⟨kn, 3, none⟩ = some (.int .i64 T1.root.2) ∧ V.cell? ⟨kn, 4, none⟩ = some (.int .i64 T2.root.1) ∧ V.cell? ⟨kn, 5, none⟩ = some (.int .i64 T2.root.2) ∧ V.cell? ⟨kn, 6, none⟩ = some (.int .i64 (h : Int)) from by
      have hN : Nb V kn ⟨k, v, T1.root, T2.root, (h : Int)⟩ := hK.2 _ _ _ _ N7.out (by decide) (by decide) (by decide)
      obtain ⟨c0, c1, c2, c3, c4, c5, c6, -⟩ := nd_cells hN
      exact ⟨cell_of_row _ _ 0 _ _ (0, 0) (hK.2 _ _ _ _ S7.out.blk (by decide) (by decide) (by decide)), cell_of_row _ _ 0 _ _ (0, 0) (hK.2 _ _ _ _ S7.out.map (by decide) (by decide) (by decide)), c0, c1, c2, c3, c4, c5, c6⟩)
    have z := KC.out w7 (Kp.refl w7)
    have D7 := (Below.refl w7.heap.size w7).alloc (Nat.le_refl _) (.cells #[.int .i64 0, .int .i64 0] 28)
    have za := KC.out _ (Kp.of_below D7)
    have HD7 := hide D7
    have KP1 := hide (KP.out w7.drew (S7.out.below (Below.refl w7.heap.size w7).drew).az)
    have KP2 := hide (KP.out (w7.alloc (.cells #[.int .i64 0, .int .i64 0] 28)).drew (S7.out.below D7.drew).az)
    have KEL := hide (fun (w8 : World) (haz : Az W w8 ga most (U + l.cnt + r.cnt + 1) (A2'.put ⟨k, v, T1.root, T2.root, (h : Int)⟩)) (hkp : Kp w7.drew w8) => se9_late (s := nx1) (t := nx2) S7.out K7.out K71.out haz hkp)
    have KEE := hide (fun (w8 : World) (haz : Az W w8 ga most (U + l.cnt + r.cnt + 1) (A2'.put ⟨k, v, T1.root, T2.root, (h : Int)⟩)) (hkp : Kp (w7.alloc (.cells #[.int .i64 0, .int .i64 0] 28)).drew w8) => se9_early (s := nx1) (t := nx2) S7.out K7.out K71.out haz hkp)
    clear D7
    go_region_held3 (fun w' => w'.cell? ⟨gd, 0, none⟩ = some (.pointer (some ⟨gm, 0, none⟩)) ∧ w'.cell? ⟨gm, 0, none⟩ = some (.pointer (some ⟨ga, 0, none⟩)) ∧ w'.cell? ⟨kn, 0, none⟩ = some (.int .i64 k) ∧ w'.cell? ⟨kn, 1, none⟩ = some (.int .i64 v) ∧ w'.cell? ⟨kn, 2, none⟩ = some (.int .i64 T1.root.1) ∧ w'.cell? ⟨kn, 3, none⟩ = some (.int .i64 T1.root.2) ∧ w'.cell? ⟨kn, 4, none⟩ = some (.int .i64 T2.root.1) ∧ w'.cell? ⟨kn, 5, none⟩ = some (.int .i64 T2.root.2) ∧ w'.cell? ⟨kn, 6, none⟩ = some (.int .i64 (h : Int)))
      (first | with_reducible exact hS2 | with_reducible exact hS1 | with_reducible exact z | with_reducible exact za | go_keep)
      (first
        | (with_reducible refine KP1.out.mono ?_
           rintro e w8 ⟨rfl, haz, hkp⟩
           have hS1 := KC.out w8 hkp
           have HE := hide (KEL.out w8 haz hkp)
           clear haz hkp)
        | (with_reducible refine KP2.out.mono ?_
           rintro e w8 ⟨rfl, haz, hkp⟩
           have hS1 := KC.out w8 ((Kp.of_below HD7.out).trans hkp)
           obtain ⟨hz, hE⟩ := KEE.out w8 haz hkp
           obtain ⟨b0, b1⟩ := hz.two
           have g0 := hz.fz 0
           have g1 := hz.fz 1
           have HE := hide hE
           have hS2 := KC.out _ (kp_set2 ((Kp.of_below HD7.out).trans hkp) (.int .i64 nx1) (.int .i64 nx2))
           clear haz hkp hz hE))
    all_goals
      first
        | (clear hS1 hS2 b0 b1 g0 g1
           generalize (World.setCell (World.setCell w8 _ _) _ _) = w9 at *
           generalize w7.heap.size = kh at *)
        | (clear hS1
           generalize (World.alloc w8 _) = w9 at *
           generalize w8.heap.size = kh at *)
    all_goals
      have HSD := hide HE.out.sd
      have HKA := hide HE.out.k
      have HKB := hide HE.out.k1
      have HHB := hide HE.out.hb
      have HNE := hide (show vm2.ownBlock ≠ some kh from fun e => by
        have h1 := row_lt S7.out.om e
        have h2 := HE.out.lo
        omega)
      have HHL := hide HE.out.lo
      clear KP1 KP2 KEL KEE KP KC z za HD7 HE
      obtain ⟨am, cm, rfl⟩ := row_form HSD.out.om
      obtain ⟨mm, hmm⟩ : ∃ q, (made ++ n1 ++ n2).length = q := ⟨_, rfl⟩
      have hmb : mm ≤ 900 := by
        have h1 := HB.out
        have h2 := HR1.out.len
        have h3 := HR2.out.len
        rw [← hmm]
        simp only [List.length_append, Dt.cnt] at *
        omega
      have c2 : w9.cell? ⟨gd, 2, none⟩ = some (.slice am (made ++ n1 ++ n2).length cm) := cell_of_row w9 gd 2 _ _ (0, 0) HSD.out.blk
      obtain ⟨x0, x1⟩ := HHB.out.two
      have D9 := (Below.refl w9.heap.size w9).alloc (Nat.le_refl _) (.cells #[.int .i64 nx1, .int .i64 nx2] 28)
      have c2a := cell_b D9 c2
      have x0a := cell_b D9 x0
      have x1a := cell_b D9 x1
      have hbs : w0.heap.size ≤ (w9.drew.alloc (.cells #[.int .i64 nx1, .int .i64 nx2] 28)).heap.size := Nat.le_trans HSD.out.kp.1 D9.size
      have HP := hide (show OwnH w9.drew w0.heap.size (.slice am (made ++ n1 ++ n2).length cm) (made ++ n1 ++ n2) from HSD.out.om)
      have HNW := hide (Hb.new w9.drew nx1 nx2).hs
      have hle : (made ++ n1 ++ n2 ++ [(nx1, nx2)]).length = (made ++ n1 ++ n2).length + 1 := by rw [List.length_append]; rfl
      have Dl : Below w9.heap.size w9 (w9.drew.alloc (.cells #[.int .i64 nx1, .int .i64 nx2] 28)) := ((Below.refl w9.heap.size w9).drew).alloc (Nat.le_refl _) _
      have KE := hide (fun (w2 : World) (A' : Option Addr) (c' : Nat) (ho : OwnH w2 w0.heap.size (.slice A' ((made ++ n1 ++ n2).length + 1) c') (made ++ n1 ++ n2 ++ [(nx1, nx2)])) (hg : (w9.drew.alloc (.cells #[.int .i64 nx1, .int .i64 nx2] 28)).grownBy w2 (Value.slice am (made ++ n1 ++ n2).length cm).ownBlock) hat => show w2.cell? ⟨gd, 2, none⟩ = some (.slice am (made ++ n1 ++ n2).length cm) ∧ w2.frozen? ⟨gd, 2, none⟩ = false ∧ SeE W w0 w w1 (w2.setCell ⟨gd, 2, none⟩ (.slice A' ((made ++ n1 ++ n2).length + 1) c')) gm ga gd most (U + l.cnt + r.cnt + 1) (A2'.put ⟨k, v, T1.root, T2.root, (h : Int)⟩) gn (made ++ n1 ++ n2 ++ [(nx1, nx2)]) vg vm (.slice A' ((made ++ n1 ++ n2).length + 1) c') kh nx1 nx2 from by
        obtain ⟨q1, q2, q3, q4, q5⟩ := sd_push HSD.out Dl ho hg hat
        refine ⟨q1, q2, q3, HKA.out.trans q4, HKB.out.trans q4, q5 kh _ HHB.out ?_ HNE.out⟩
        rintro rfl
        have e1 := HHB.out
        have e2 := HSD.out.blk
        unfold Hb at e1
        rw [e1] at e2
        simp at e2)
      clear D9 Dl
      have HMM := hide hmm
      rw [hmm] at c2 c2a HP hle KE
      clear hmm
      go_upto_region 7 with (fail)
      go_cut [] (fun wx => ∃ vm', SeE W w0 w w1 wx gm ga gd most (U + l.cnt + r.cnt + 1) (A2'.put ⟨k, v, T1.root, T2.root, (h : Int)⟩) gn (made ++ n1 ++ n2 ++ [(nx1, nx2)]) vg vm vm' kh nx1 nx2)
      case first =>
        go_region_law (refine step_append_hn _ (by rfl) _ _ (by rfl) w0.heap.size (.slice am mm cm) (made ++ n1 ++ n2) (by rfl) (HP.out.alloc _) (some ⟨w9.heap.size, 0, none⟩) 1 [(nx1, nx2)] 1 (mm + 1) rfl hle (by rfl) HNW.out (by rw [HMM.out]; simp; omega) hbs ?_
                       intro A' c' w10 hown hg hat
                       obtain ⟨k2, fk, e3⟩ := KE.out _ _ _ hown hg hat
                       have E3 := hide e3
                       clear hown hg hat e3)
        all_goals
          go_wp2_with fail
          go_meet
          exact ⟨_, E3.out⟩
      case rest =>
        obtain ⟨vm', hE⟩ := hcut
        have HE := hide hE
        clear hE KE c2 c2a x0 x1 x0a x1a hbs HP HNW hle hmb
        have HKR := hide (show Hb wc kr 0 0 from HE.out.k1.block _ _ _ _ HX2.out (by decide) (by decide) (by decide) (by
          rintro rfl
          have e1 := HX2.out
          have e2 := HS1.out.blk
          unfold Hb at e1
          rw [e1] at e2
          simp at e2) NG.out.2)
        have hkk : kh ≠ kr := by
          rintro rfl
          have h1 := (Array.getElem?_eq_some_iff.1 HX2.out).1
          have h2 := K71.out.size
          have h3 := HHL.out
          omega
        obtain ⟨x0, x1⟩ := HE.out.hb.two
        obtain ⟨b0, b1⟩ := HKR.out.two
        have g0 := HKR.out.fz 0
        have g1 := HKR.out.fz 1
        have M := hide (mod2 wc kr 0 1 (.int .i64 nx1) (.int .i64 nx2))
        have NK := hide (show vm'.ownBlock ≠ some kr from fun e => by
          rcases HE.out.k.row kr e with h1 | h1
          · exact NG.out.2 h1
          · rcases HE.out.k1.row kr e with h2 | h2
            · exact NG.out.2 h2
            · have := (Array.getElem?_eq_some_iff.1 HX2.out).1
              omega)
        have RR := hide (StRel.node HOK.out HR1.out HR2.out (by obtain ⟨fs, h2, _⟩ := S7.out.az.an; exact h2.arw) (by rw [HN12.out.1, HN12.out.2]; exact HNX.out))
        have SF := hide (HE.out.sd.hand HKR.out (Nat.le_trans HSZ.out HKX.out) NG.out.1 NK.out M.out)
        have KF := hide (HE.out.k.mod M.out HKX.out)
        go_wp2_with fail
        refine bodyPost_ret (v := .agg #[.int .i64 nx1, .int .i64 nx2]) ?_ rfl ⟨.node (nx1, nx2) k v T1 T2, A2'.put ⟨k, v, T1.root, T2.root, (h : Int)⟩, n1 ++ n2 ++ [(nx1, nx2)], vm', rfl, ?_, ?_, KF.out⟩
        · rw [results_one rfl]
          go_simp
        · rw [show U + (new p k v h l r).cnt = U + l.cnt + r.cnt + 1 by simp only [Dt.cnt]; omega, show made ++ (n1 ++ n2 ++ [(nx1, nx2)]) = made ++ n1 ++ n2 ++ [(nx1, nx2)] by simp]
          exact SF.out
        · have h1 := RR.out
          rw [HN12.out.1, HN12.out.2] at h1
          exact h1
end Go.Proofs.Ytcckamajiebgeaa
namespace Go.Proofs.Ytcckamajiebgeaa
open Go.RowKit
set_option linter.unusedVariables false
set_option linter.unusedSimpArgs false
set_option maxRecDepth 100000
open Dt

theorem Kx.boxed {gd : Nat} {vm vm' : Value} {w w' : World} (h : Kx gd vm w w' vm') {B : Nat} {made : List (Int × Int)} (hv : OwnH w B vm made) {cs0 : Array Value} (hgd : w.heap[gd]? = some (.cells cs0 73 (0, 0))) {k : Nat} {c : Option Nat × Int × Int} (hb : Bxb w k c) : Bxb w' k c :=
  h.any (w0 := w) (W := w) hv hb (by decide) (by decide) (by decide) (by
    rintro rfl
    unfold Bxb at hb
    rw [hb] at hgd
    simp at hgd) (by decide)
/-- What is told where there is room. -/
def LyYes (W w0 : World) (gm ga gd most U : Nat) (A : Ar) (gn : List (Int × Int)) (d : Dt) (w : World) (e : Ending) (w' : World) : Prop :=
  ∃ T' A' nw vm vg, e = .returned (.tuple #[edv T'.root vm vg, .bool true]) ∧ Sd W w0 w' gm ga gd most (U + d.cnt) A' gn nw vg vm ∧ StRel d A T' A' nw ∧ Kx gd (.slice none 0 0) w w' vm
def LyNo (W w0 : World) (gm ga gd most U : Nat) (A : Ar) (w : World) (e : Ending) (w' : World) : Prop :=
  e = .returned (.tuple #[edv (0, 0) (.slice none 0 0) (.slice none 0 0), .bool false]) ∧ Below w.heap.size w w'
theorem box_edit (w : World) (b : Option Nat × Int × Int) : Below w.heap.size w ((w.alloc (.cells #[pv b.1, .int .i64 b.2.1, .int .i64 b.2.2] 76)).alloc (.cells #[.int .i64 0, .int .i64 0, .slice none 0 0, .slice none 0 0] 34)) ∧
    Bxb ((w.alloc (.cells #[pv b.1, .int .i64 b.2.1, .int .i64 b.2.2] 76)).alloc (.cells #[.int .i64 0, .int .i64 0, .slice none 0 0, .slice none 0 0] 34)) w.heap.size b ∧
    ((w.alloc (.cells #[pv b.1, .int .i64 b.2.1, .int .i64 b.2.2] 76)).alloc (.cells #[.int .i64 0, .int .i64 0, .slice none 0 0, .slice none 0 0] 34)).heap[w.heap.size + 1]? = some (.cells #[.int .i64 0, .int .i64 0, .slice none 0 0, .slice none 0 0] 34 (0, 0)) := by
  have D1 := (Below.refl w.heap.size w).alloc (Nat.le_refl _) (.cells #[pv b.1, .int .i64 b.2.1, .int .i64 b.2.2] 76)
  have X1 := Bxb.new w b
  generalize h1 : w.alloc (.cells #[pv b.1, .int .i64 b.2.1, .int .i64 b.2.2] 76) = w1 at *
  have hs : w1.heap.size = w.heap.size + 1 := by rw [← h1]; simp
  have D2 := (Below.refl w1.heap.size w1).alloc (Nat.le_refl _) (.cells #[.int .i64 0, .int .i64 0, .slice none 0 0, .slice none 0 0] 34)
  have X2 := heap_alloc_new w1 (.cells #[.int .i64 0, .int .i64 0, .slice none 0 0, .slice none 0 0] 34)
  rw [hs] at X2
  exact ⟨D1.trans (D2.mono D1.size), X1.below D2, X2⟩
theorem mod4 (w : World) (p : Nat) (x y z u : Value) : Mod [p] w ((((w.setCell ⟨p, 0, none⟩ x).setCell ⟨p, 1, none⟩ y).setCell ⟨p, 2, none⟩ z).setCell ⟨p, 3, none⟩ u) :=
  (mod2 w p 0 1 x y).trans (mod2 _ p 2 3 z u) (fun _ h => .inl h)
/-- An edit's cells. -/
theorem ed_cells {w : World} {b : Nat} {u0 u1 u2 u3 : Value} (h : w.heap[b]? = some (.cells #[u0, u1, u2, u3] 34 (0, 0))) :
    w.cell? ⟨b, 0, none⟩ = some u0 ∧ w.cell? ⟨b, 1, none⟩ = some u1 ∧ w.cell? ⟨b, 2, none⟩ = some u2 ∧ w.cell? ⟨b, 3, none⟩ = some u3 ∧
    w.frozen? ⟨b, 0, none⟩ = false ∧ w.frozen? ⟨b, 1, none⟩ = false ∧ w.frozen? ⟨b, 2, none⟩ = false ∧ w.frozen? ⟨b, 3, none⟩ = false :=
  ⟨cell_of_row w b 0 _ _ (0, 0) h, cell_of_row w b 1 _ _ (0, 0) h, cell_of_row w b 2 _ _ (0, 0) h, cell_of_row w b 3 _ _ (0, 0) h, Joins.unfrozen_of_block h 0, Joins.unfrozen_of_block h 1, Joins.unfrozen_of_block h 2, Joins.unfrozen_of_block h 3⟩
/-! ### calls of the map's own arena -/
/-- The map in memory: its block, its arena. -/
def PM : MapPred := fun W w gm most U A => ∃ ga, w.heap[gm]? = some (.cells #[.pointer (some ⟨ga, 0, none⟩), cmpV] 70 (0, 0)) ∧ Az W w ga most U A ∧ W.heap.size ≤ gm
theorem PM.below {W w w' : World} {gm most U : Nat} {A : Ar} (h : PM W w gm most U A) (hb : Below w.heap.size w w') : PM W w' gm most U A := by
  obtain ⟨ga, h1, h2, h3⟩ := h
  exact ⟨ga, (hb.block _ (Array.getElem?_eq_some_iff.1 h1).1).trans h1, h2.below hb, h3⟩
theorem room_any {W w : World} {gm most U : Nat} {A : Ar} (h : PM W w gm most U A) (hU : U ≤ 1000000) : Calls Try.prog 25 #[.pointer (some ⟨gm, 0, none⟩)] w (IntRet .i64 (most - A.live) w) := by
  obtain ⟨ga, h1, h2, h3⟩ := h
  have KZ := hide (fun (V : World) (hV : Below w.heap.size w V) => zroom_any hU (h2.below hV))
  have z0 : w.cell? ⟨gm, 0, none⟩ = some (.pointer (some ⟨ga, 0, none⟩)) := cell_of_row w gm 0 _ _ (0, 0) h1
  have BD := hide ((Below.refl w.heap.size w).drew)
  clear h1 h2 h3
  go_enter Try.func25, Try.ntmps25
  go_wp2_with fail
  first
    | (refine (KZ.out _ (Below.refl _ _)).mono ?_
       rintro e w2 ⟨rfl, -, hb⟩
       have HB := hide hb
       clear hb
       go_wp2_with fail
       go_ret
       exact ⟨rfl, HB.out⟩)
    | (go_region_held3 (fun w' => w'.cell? ⟨gm, 0, none⟩ = some (.pointer (some ⟨ga, 0, none⟩)))
        (first | with_reducible exact z0 | go_keep)
        (first
          | (with_reducible refine (KZ.out _ BD.out).mono ?_
             rintro e w2 ⟨rfl, -, hb⟩
             have HB := hide (BD.out.trans (hb.mono BD.out.size))
             have z0 := cell_b HB.out z0
             clear hb))
       go_wp2_with fail
       go_ret
       exact ⟨rfl, HB.out⟩)
theorem live_any {W w : World} {gm most U : Nat} {A : Ar} (h : PM W w gm most U A) (hU : U ≤ 1000000) : Calls Try.prog 24 #[.pointer (some ⟨gm, 0, none⟩)] w (IntRet .i64 A.live w) := by
  obtain ⟨ga, h1, h2, h3⟩ := h
  have KZ := hide (fun (V : World) (hV : Below w.heap.size w V) => zlive_any hU (h2.below hV))
  have z0 : w.cell? ⟨gm, 0, none⟩ = some (.pointer (some ⟨ga, 0, none⟩)) := cell_of_row w gm 0 _ _ (0, 0) h1
  clear h1 h2 h3
  go_enter Try.func24, Try.ntmps24
  go_wp2_with fail
  refine (KZ.out _ (Below.refl _ _)).mono ?_
  rintro e w2 ⟨rfl, -, hb⟩
  have HB := hide hb
  clear hb
  go_wp2_with fail
  go_ret
  exact ⟨rfl, HB.out⟩
set_option maxHeartbeats 4000000 in
theorem lay_any {W w0 : World} {gm ga gd most U : Nat} {A : Ar} {gn : List (Int × Int)} {vg : Value} (d : Dt) (w : World) (hS : Sd W w0 w gm ga gd most U A gn [] vg (.slice none 0 0)) (hgm : W.heap.size ≤ gm) (hd : DIn w0.heap.size w d) (ok : d.Ok A.get) (hU : U ≤ 890000) (hm : d.cnt ≤ 900) (hgl : gn.length ≤ 900) (hmost : most ≤ 1048576) :
    Calls Try.prog 32 #[.pointer (some ⟨gd, 0, none⟩), bvv d.bv] w (fun e w' => if A.live + d.cnt ≤ most then LyYes W w0 gm ga gd most U A gn d w e w' else LyNo W w0 gm ga gd most U A w e w') := by
  obtain ⟨D, X1, X2⟩ := box_edit w d.bv
  have HX1 := hide X1
  have HX2 := hide X2
  have HS1 := hide (hS.below D)
  have HDI := hide (hd.below D)
  have HSZ := hide hS.kp.1
  have HOK := hide ok
  have HB := hide (And.intro hU (And.intro hm hgl))
  have HGM := hide hgm
  have HMO := hide hmost
  have HLE : A.live ≤ most := by
    obtain ⟨fs, h2, _⟩ := hS.az.an
    exact h2.le
  have B := hide D
  clear D X1 X2 hS hd ok hU hm hgm hgl hmost
  obtain ⟨n, hn⟩ : ∃ n, d.cnt = n := ⟨_, rfl⟩
  obtain ⟨m, hmm⟩ : ∃ m, most - A.live = m := ⟨_, rfl⟩
  have HN := hide hn
  have HM := hide hmm
  have hcs : (n > m ∧ decide ((n : Int) > (m : Int)) = true ∧ ¬ A.live + n ≤ most) ∨ (¬ n > m ∧ decide ((n : Int) > (m : Int)) = false ∧ A.live + n ≤ most) := by
    by_cases hc : n > m
    · exact .inl ⟨hc, decide_eq_true (by omega), by omega⟩
    · exact .inr ⟨hc, decide_eq_false (by omega), by omega⟩
  rw [hn]
  clear hn hmm
  rcases hcs with ⟨hc, q0, hc2⟩ | ⟨hc, q0, hc2⟩
  case' inl => rw [show (fun (e : Ending) (w' : World) => if A.live + n ≤ most then LyYes W w0 gm ga gd most U A gn d w e w' else LyNo W w0 gm ga gd most U A w e w') = LyNo W w0 gm ga gd most U A w by funext e w'; rw [if_neg hc2]]
  case' inr => rw [show (fun (e : Ending) (w' : World) => if A.live + n ≤ most then LyYes W w0 gm ga gd most U A gn d w e w' else LyNo W w0 gm ga gd most U A w e w') = LyYes W w0 gm ga gd most U A gn d w by funext e w'; rw [if_pos hc2]]
  all_goals
    have HCC := hide (And.intro hc hc2)
    clear hc hc2
    obtain ⟨bd, hbd⟩ : ∃ u, d.bv = u := ⟨_, rfl⟩
    have HBV := hide hbd
    rw [hbd] at HX1 HX2 HS1 HDI B ⊢
    clear hbd
    obtain ⟨bo, bs', bt⟩ := bd
    simp only at HX1 HX2 HS1 HDI B
    obtain ⟨mo, hmo⟩ : ∃ m, (bo.map fun q => (⟨q, 0, none⟩ : Addr)) = m := ⟨_, rfl⟩
    have HMO2 := hide hmo
    unfold bvv
    unfold pv at *
    simp only at HX1 HX2 HS1 HDI B ⊢
    rw [hmo] at HX1 HX2 HS1 HDI B ⊢
    clear hmo
    go_enter Try.func32, Try.ntmps32
    go_upto_region 1 with (fail)
    obtain ⟨kr, hkr⟩ : ∃ q, w.heap.size + 1 = q := ⟨_, rfl⟩
    obtain ⟨kb, hkb⟩ : ∃ q, w.heap.size = q := ⟨_, rfl⟩
    have HKX := hide (show w.heap.size ≤ kr by omega)
    rw [hkr] at HX2 ⊢
    rw [hkb] at HX1 ⊢
    clear hkr hkb
    generalize World.alloc (World.alloc w _) _ = w1 at *
    have KCT := hide (fun (V : World) (hV : Below w1.heap.size w1 V) => count_any d w0.heap.size V (HDI.out.below hV) (by have := HB.out; omega))
    have KRM := hide (fun (V : World) (hV : Below w1.heap.size w1 V) => room_any (W := W) (gm := gm) (most := most) (U := U) (A := A) (w := V) ⟨ga, (HS1.out.below hV).map, (HS1.out.below hV).az, HGM.out⟩ (by have := HB.out; omega))
    have KSE := hide (fun (V : World) (hV : Below w1.heap.size w1 V) (hc : A.live + d.cnt ≤ most) => settle_any d U A [] (.slice none 0 0) V (HS1.out.below hV) (HDI.out.below hV) HOK.out hc (by have := HB.out; omega) (by have := HB.out; simp; omega))
    unfold bvv pv at KCT KSE
    rw [HBV.out] at KCT KSE
    simp only at KCT KSE
    rw [HMO2.out] at KCT KSE
    have A2 := hide (fun (V : World) (hV : Below w1.heap.size w1 V) => show V.cell? ⟨kb, 0, none⟩ = some (.pointer mo) ∧ V.cell? ⟨kb, 1, none⟩ = some (.int .i64 bs') ∧ V.cell? ⟨kb, 2, none⟩ = some (.int .i64 bt) ∧ V.cell? ⟨gd, 0, none⟩ = some (.pointer (some ⟨gm, 0, none⟩)) from by
      obtain ⟨q0, q1, q2⟩ := (HX1.out.below hV).three
      unfold pv at q0
      simp only [HMO2.out] at q0
      exact ⟨q0, q1, q2, cell_b hV (cell_of_row w1 gd 0 _ _ (0, 0) HS1.out.blk)⟩)
    rw [HN.out] at KCT
    rw [HM.out] at KRM
    have z := A2.out w1 (Below.refl _ _)
    have BD1 := hide ((Below.refl w1.heap.size w1).drew)
    go_region_held3 (fun w' => w'.cell? ⟨kb, 0, none⟩ = some (.pointer mo) ∧ w'.cell? ⟨kb, 1, none⟩ = some (.int .i64 bs') ∧ w'.cell? ⟨kb, 2, none⟩ = some (.int .i64 bt) ∧ w'.cell? ⟨gd, 0, none⟩ = some (.pointer (some ⟨gm, 0, none⟩)))
      (first | with_reducible exact hS2 | with_reducible exact hS1 | with_reducible exact z | go_keep)
      (first
        | (with_reducible refine (KCT.out _ BD1.out).mono ?_
           rintro e w3 ⟨rfl, hb⟩
           have B3 := hide (BD1.out.trans (hb.mono BD1.out.size))
           have hS1 := A2.out _ B3.out
           clear hb)
        | (with_reducible refine (KRM.out _ B3.out).mono ?_
           rintro e w4 ⟨rfl, hb⟩
           have B4 := hide (B3.out.trans (hb.mono B3.out.size))
           have hS2 := A2.out _ B4.out
           clear hb))
    clear z hS1 hS2 B3 KCT KRM BD1
  · have hc := HCC.out.1
    have d1 : decide (m < n) = false := decide_eq_false (by omega)
    have K9 := hide (KSE.out w4 B4.out (by rw [HN.out]; exact HCC.out.2))
    have S4 := hide (HS1.out.below B4.out)
    have X4 := hide ((B4.out.block _ (Array.getElem?_eq_some_iff.1 HX2.out).1).trans HX2.out)
    obtain ⟨c0, c1, c2, c3⟩ := A2.out _ B4.out
    clear KSE A2
    go_wp2_with fail
    refine K9.out.mono ?_
    rintro e w5 ⟨T', A', nw, vm', rfl, S5, R5, K5⟩
    have HS5 := hide S5
    have HR5 := hide R5
    have X5 := hide (K5.any (w0 := w5) (W := w5) S4.out.om X4.out (by decide) (by decide) (by decide) (by
      rintro rfl
      have e1 := X4.out
      have e2 := S4.out.blk
      rw [e1] at e2
      simp at e2) (by decide))
    have D6 := (Below.refl w5.heap.size w5).alloc (Nat.le_refl _) (.cells #[.int .i64 T'.root.1, .int .i64 T'.root.2] 28)
    have K6 := hide (((Kx.of_below (B.out.trans (B4.out.mono B.out.size))).trans K5).trans (Kx.of_below D6))
    have HH6 := hide (Hb.new w5 T'.root.1 T'.root.2)
    have S6 := hide (S5.below D6)
    have X6 := hide ((D6.block _ (Array.getElem?_eq_some_iff.1 X5.out).1).trans X5.out)
    have NEK := hide (show w5.heap.size ≠ kr from by have := (Array.getElem?_eq_some_iff.1 X5.out).1; omega)
    clear c0 c1 c2 c3 S5 R5 K5 D6 K9 X5 HS5
    go_upto_region 4 with (fail)
    generalize w5.heap.size = kh at *
    generalize World.alloc w5 _ = w6 at *
    obtain ⟨x0, x1⟩ := HH6.out.two
    simp only [List.nil_append] at S6
    obtain ⟨ag, cg, rfl⟩ := row_form S6.out.og
    obtain ⟨am, cm, rfl⟩ := row_form S6.out.om
    have c1 : w6.cell? ⟨gd, 1, none⟩ = some (.slice ag gn.length cg) := cell_of_row w6 gd 1 _ _ (0, 0) S6.out.blk
    have c2 : w6.cell? ⟨gd, 2, none⟩ = some (.slice am nw.length cm) := cell_of_row w6 gd 2 _ _ (0, 0) S6.out.blk
    obtain ⟨b0, b1, b2, b3, g0, g1, g2, g3⟩ := ed_cells X6.out
    have hk1 := NEK.out
    have hk2 : gd ≠ kr := by
      rintro rfl
      have e1 := X6.out
      have e2 := S6.out.blk
      rw [e1] at e2
      simp at e2
    generalize hl1 : gn.length = l1 at *
    generalize hl2 : nw.length = l2 at *
    have HL := hide (And.intro hl1 hl2)
    clear hl1 hl2
    go_region
    all_goals
      have M := (mod4 w6 kr (.int .i64 T'.root.1) (.int .i64 T'.root.2) (.slice am l2 cm) (.slice ag l1 cg)).drew
      have SF := hide (S6.out.mod X6.out (by decide) (by decide) (by decide) (by decide) (by decide) (Nat.le_trans HSZ.out HKX.out) (row_ne S6.out.og X6.out (by decide)) (row_ne S6.out.om X6.out (by decide)) M)
      go_wp2_with fail
      refine bodyPost_ret (v := .tuple #[.agg #[.int .i64 T'.root.1, .int .i64 T'.root.2, .slice am l2 cm, .slice ag l1 cg], .bool true]) ?_ rfl ⟨T', A', nw, .slice am l2 cm, .slice ag l1 cg, rfl, SF.out, HR5.out, K6.out.mod M HKX.out⟩
      rw [results_cell_tmp rfl]
      go_simp
  · have hc := HCC.out.1
    have d1 : decide (m < n) = true := decide_eq_true (by omega)
    have X4 := hide ((B4.out.block _ (Array.getElem?_eq_some_iff.1 HX2.out).1).trans HX2.out)
    obtain ⟨b0, b1, b2, b3, g0, g1, g2, g3⟩ := ed_cells X4.out
    go_wp2_with fail
    refine bodyPost_ret (v := .tuple #[.agg #[.int .i64 0, .int .i64 0, .slice none 0 0, .slice none 0 0], .bool false]) ?_ rfl ⟨rfl, (B.out.trans (B4.out.mono B.out.size)).trans ((mod4 w4 kr (.int .i64 0) (.int .i64 0) (.slice none 0 0) (.slice none 0 0)).below (B := w.heap.size) (Nat.le_trans B.out.size B4.out.size) (by simpa using HKX.out))⟩
    rw [results_cell_tmp rfl]
    go_simp
end Go.Proofs.Ytcckamajiebgeaa
