/-
  The law's walk through a version: its pairs, its handles, its height. Conditions: its nodes can be loaded, it is balanced, and not of more than ten thousand nodes, nor higher than is looked.
-/
import Derived.Test.YtcckamajiebgeaaPTree
import Derived.Deep.RegionHeld3
namespace Go.Proofs.Ytcckamajiebgeaa
open Go.RowKit Go.Maps
set_option linter.unusedVariables false
set_option linter.unusedSimpArgs false
set_option maxRecDepth 100000

/-- What Load tells, in each world that has all that this one has. -/
def LoadOk (gm : Nat) (F : Int → Int → Option Nd) (w : World) : Prop := ∀ (V : World) (s t : Int), Below w.heap.size w V → i64B s → i64B t → Calls Try.prog 27 #[.pointer (some ⟨gm, 0, none⟩), .agg #[.int .i64 s, .int .i64 t]] V (GetRet (F s t) V)
theorem LoadOk.below {gm : Nat} {F : Int → Int → Option Nd} {w w' : World} (h : LoadOk gm F w) (hb : Below w.heap.size w w') : LoadOk gm F w' := fun V s t hV => h V s t (hb.trans (hV.mono hb.size))
theorem row_base {w : World} {base base' size n : Nat} {e : TypeId} {v : Value} {xs : List Value} (h : w.ownsRow base e size v n xs) (hb : base' ≤ base) : w.ownsRow base' e size v n xs :=
  ⟨h.1, h.2.imp_right fun ⟨g, cap, cur, e, h2, h⟩ => ⟨g, cap, cur, e, Nat.le_trans hb h2, h⟩⟩
/-- Two rows of pairs, two of handles, apart, behind a world. -/
structure Wk (w W : World) (va : Value) (pa : List Pp) (vb : Value) (pb : List Pp) (xa : Value) (ha : List (Int × Int)) (xb : Value) (hb : List (Int × Int)) : Prop where
  bel : Below w.heap.size w W
  a : OwnP W w.heap.size va pa
  b : OwnP W w.heap.size vb pb
  x : OwnH W w.heap.size xa ha
  y : OwnH W w.heap.size xb hb
  ne : ∀ k, va.ownBlock = some k → vb.ownBlock ≠ some k
  nx : ∀ k, xa.ownBlock = some k → xb.ownBlock ≠ some k
theorem Wk.below {w W W' : World} {va vb xa xb : Value} {pa pb : List Pp} {ha hb : List (Int × Int)} (h : Wk w W va pa vb pb xa ha xb hb) (hB : Below W.heap.size W W') : Wk w W' va pa vb pb xa ha xb hb :=
  ⟨h.bel.trans (hB.mono h.bel.size), h.a.below hB, h.b.below hB, h.x.below hB, h.y.below hB, h.ne, h.nx⟩
theorem Wk.growP {w W W' : World} {va vb xa xb va' : Value} {pa pb pa' : List Pp} {ha hb : List (Int × Int)} (h : Wk w W va pa vb pb xa ha xb hb) (ho : OwnP W' w.heap.size va' pa') (hg : W.grownBy W' va.ownBlock) (hat : va'.ownBlock = va.ownBlock ∨ va'.ownBlock = some W.heap.size) : Wk w W' va' pa' vb pb xa ha xb hb := by
  refine ⟨h.bel.grown hg h.bel.size fun k hk => (World.ownsRow.lt h.a k hk).1, ho, row_kept h.b fun k hk => hg.block k (row_lt h.b hk) fun e => h.ne k e.symm hk, row_kept h.x fun k hk => hg.block k (row_lt h.x hk) fun e => ?_, row_kept h.y fun k hk => hg.block k (row_lt h.y hk) fun e => ?_, fun k hk hk2 => ?_, h.nx⟩
  · obtain ⟨cur, hc⟩ := row_block h.x hk
    exact row_ne h.a hc (by decide) e.symm
  · obtain ⟨cur, hc⟩ := row_block h.y hk
    exact row_ne h.a hc (by decide) e.symm
  · rcases hat with e | e
    · exact h.ne k (e.symm.trans hk) hk2
    · rw [e] at hk
      have := row_lt h.b hk2
      have := Option.some.inj hk
      omega
theorem Wk.growH {w W W' : World} {va vb xa xb xa' : Value} {pa pb : List Pp} {ha hb ha' : List (Int × Int)} (h : Wk w W va pa vb pb xa ha xb hb) (ho : OwnH W' w.heap.size xa' ha') (hg : W.grownBy W' xa.ownBlock) (hat : xa'.ownBlock = xa.ownBlock ∨ xa'.ownBlock = some W.heap.size) : Wk w W' va pa vb pb xa' ha' xb hb := by
  refine ⟨h.bel.grown hg h.bel.size fun k hk => (World.ownsRow.lt h.x k hk).1, row_kept h.a fun k hk => hg.block k (row_lt h.a hk) fun e => ?_, row_kept h.b fun k hk => hg.block k (row_lt h.b hk) fun e => ?_, ho, row_kept h.y fun k hk => hg.block k (row_lt h.y hk) fun e => h.nx k e.symm hk, h.ne, fun k hk hk2 => ?_⟩
  · obtain ⟨cur, hc⟩ := row_block h.a hk
    exact row_ne h.x hc (by decide) e.symm
  · obtain ⟨cur, hc⟩ := row_block h.b hk
    exact row_ne h.x hc (by decide) e.symm
  · rcases hat with e | e
    · exact h.nx k (e.symm.trans hk) hk2
    · rw [e] at hk
      have := row_lt h.y hk2
      have := Option.some.inj hk
      omega
theorem OwnP.at {w : World} {base m c : Nat} {A : Option Addr} {l : List Pp} (h : OwnP w base (.slice A m c) l) : Hs w A c l := by
  obtain ⟨A', c', e, h'⟩ := h.hs
  injection e with e1 e2 e3
  subst e1 e3
  exact h'
theorem OwnH.at {w : World} {base m c : Nat} {A : Option Addr} {l : List (Int × Int)} (h : OwnH w base (.slice A m c) l) : Hs w A c l := by
  obtain ⟨A', c', e, h'⟩ := h.hs
  injection e with e1 e2 e3
  subst e1 e3
  exact h'
/-- What walk answers of a version. -/
def WkRet (T : Tr) (w : World) (e : Ending) (w' : World) : Prop := ∃ vp vh, e = .returned (.tuple #[vp, vh, .int .i64 (T.high : Int), .bool true]) ∧ OwnP w' w.heap.size vp T.prs ∧ OwnH w' w.heap.size vh T.hds ∧ Below w.heap.size w w'
theorem results_tmp4 {fn : Func} {t u v x : Tmp} (h : fn.results = #[.tmp t, .tmp u, .tmp v, .tmp x]) (tmps : Array Value) (P : Program) (w : World) :
    (results fn tmps).run P w = .ok (.tuple #[tmps.getD t undef, tmps.getD u undef, tmps.getD v undef, tmps.getD x undef]) w := by
  simp [results, h, Sem.run_bind, Result.andThen]
theorem walk_nil (gm : Nat) (deep : Int) (w : World) : Calls Try.prog 16 #[.pointer (some ⟨gm, 0, none⟩), .agg #[.int .i64 0, .int .i64 0], .int .i64 deep] w (WkRet .nil w) := by
  have B := hide ((Below.refl w.heap.size w).alloc (Nat.le_refl _) (.cells #[.int .i64 0, .int .i64 0] 28))
  have hq := fun V => handle_eql 0 0 0 0 V
  simp only [decide_true] at hq
  go_enter Try.func16, Try.ntmps16
  go_wp2_with fail
  refine bodyPost_ret (results_tmp4 rfl _ _ _) rfl ?_
  exact ⟨_, _, rfl, OwnP.nil _ _, OwnH.nil _ _, B.out⟩
set_option maxHeartbeats 4000000 in
theorem walk_any (gm : Nat) (F : Int → Int → Option Nd) : ∀ (T : Tr) (hT : T.Lies F) (hB : T.Bal) (hn : T.prs.length ≤ 10000) (deep : Nat) (hd : T.high ≤ deep) (hd2 : deep ≤ 100) (w : World) (hL : LoadOk gm F w),
    Calls Try.prog 16 #[.pointer (some ⟨gm, 0, none⟩), .agg #[.int .i64 T.root.1, .int .i64 T.root.2], .int .i64 (deep : Int)] w (WkRet T w) := by
  intro T
  induction T with
  | nil =>
    intro hT hB hn deep hd hd2 w hL
    exact walk_nil gm deep w
  | node h k v l r ihl ihr =>
    intro hT hB hn deep hd hd2 w hL
    obtain ⟨hs, ht⟩ := h
    obtain ⟨f1, f2, f3, f4, f5, f6⟩ := hT
    simp only at f1 f2 f3 f4
    simp only [Tr.root]
    obtain ⟨b1, b2, b3, b4⟩ := hB
    simp only [Tr.prs, List.length_append, List.length_cons] at hn
    simp only [Tr.high] at hd
    have D0 := (Below.refl w.heap.size w).alloc (Nat.le_refl _) (.cells #[.int .i64 hs, .int .i64 ht] 28)
    have X := hide (Hb.new w hs ht)
    have B0 := hide D0
    have HL := hide (hL.below D0)
    have hq := fun V => handle_eql hs ht 0 0 V
    rw [decide_eq_false (show ¬ (hs, ht) = (0, 0) from f2)] at hq
    have lx : w.heap.size < (w.alloc (.cells #[.int .i64 hs, .int .i64 ht] 28)).heap.size := by simp
    have KL := hide (hL.below D0 _ hs ht (Below.refl _ _) f3 f4)
    rw [f1] at KL
    have HF := hide f1
    have HT5 := hide f5
    have HT6 := hide f6
    obtain ⟨d', rfl⟩ : ∃ d', deep = d' + 1 := ⟨deep - 1, by omega⟩
    have wd : IntKind.i64.wrap (((d' + 1 : Nat) : Int) - 1) = (d' : Int) := by rw [wrap_in _ (by omega) (by omega)]; omega
    have dd : decide (((d' + 1 : Nat) : Int) ≤ 0) = false := decide_eq_false (by omega)
    have hll : l.prs.length ≤ 10000 ∧ r.prs.length ≤ 10000 ∧ l.high ≤ d' ∧ r.high ≤ d' := by omega
    have KA := hide (fun (V : World) (hV : LoadOk gm F V) => ihl HT5.out b3 hll.1 d' hll.2.2.1 (by omega) V hV)
    have KB := hide (fun (V : World) (hV : LoadOk gm F V) => ihr HT6.out b4 hll.2.1 d' hll.2.2.2 (by omega) V hV)
    have hhl := l.high_le
    have hhr := r.high_le
    have HLH := hide l.hds_prs
    have HRH := hide r.hds_prs
    have HHI := hide (show ((Tr.node (hs, ht) k v l r).high : Int) = ((1 + max l.high r.high : Nat) : Int) from rfl)
    have HPR := hide (show (Tr.node (hs, ht) k v l r).prs = l.prs ++ [(k, v)] ++ r.prs by simp [Tr.prs])
    have HHD := hide (show (Tr.node (hs, ht) k v l r).hds = l.hds ++ [(hs, ht)] ++ r.hds by simp [Tr.hds])
    clear f1 f2 D0 hL f5 f6 ihl ihr
    simp only [Tr.nd] at KL
    obtain ⟨⟨l1, l2⟩, hlr⟩ : ∃ x, l.root = x := ⟨_, rfl⟩
    obtain ⟨⟨r1, r2⟩, hrr⟩ : ∃ x, r.root = x := ⟨_, rfl⟩
    rw [hlr, hrr] at KL
    rw [hlr] at KA
    rw [hrr] at KB
    simp only at KA KB
    clear hlr hrr
    obtain ⟨hh, hhe⟩ : ∃ hh, 1 + max l.high r.high = hh := ⟨_, rfl⟩
    rw [hhe] at KL HHI hd
    have HHE := hide hhe
    have hhb : hh ≤ 100 := by omega
    go_enter Try.func16, Try.ntmps16
    go_upto_region 1 with (fail)
    generalize w.alloc (.cells #[.int .i64 hs, .int .i64 ht] 28) = w1 at *
    obtain ⟨x0, x1⟩ := X.out.two
    go_wp2_with fail
    refine KL.out.mono ?_
    unfold GetRet
    simp only [Option.getD_some, Option.isSome_some, ndv]
    rintro e w2 ⟨rfl, hb2⟩
    have B2 := hide (B0.out.trans (hb2.mono B0.out.size))
    have X2 := hide (X.out.below hb2)
    have HL2 := hide (HL.out.below hb2)
    clear hb2 B0 X HL KL x0 x1 lx
    go_upto_region 4 with (fail)
    have D := (Below.refl w2.heap.size w2).alloc (Nat.le_refl _) (.cells #[.int .i64 k, .int .i64 v, .int .i64 l1, .int .i64 l2, .int .i64 r1, .int .i64 r2, .int .i64 (hh : Int)] 60)
    have HZ := heap_alloc_new w2 (.cells #[.int .i64 k, .int .i64 v, .int .i64 l1, .int .i64 l2, .int .i64 r1, .int .i64 r2, .int .i64 (hh : Int)] 60)
    have X3 := hide (X2.out.below D)
    have B3 := hide (B2.out.trans (D.mono B2.out.size))
    have HL3 := hide (HL2.out.below D)
    have lz : w2.heap.size < (w2.alloc (.cells #[.int .i64 k, .int .i64 v, .int .i64 l1, .int .i64 l2, .int .i64 r1, .int .i64 r2, .int .i64 (hh : Int)] 60)).heap.size := by simp
    have lx := X3.out
    have lx : w.heap.size < (w2.alloc (.cells #[.int .i64 k, .int .i64 v, .int .i64 l1, .int .i64 l2, .int .i64 r1, .int .i64 r2, .int .i64 (hh : Int)] 60)).heap.size := (Array.getElem?_eq_some_iff.1 X3.out).1
    clear D X2 B2 HL2
    generalize w2.heap.size = bz at *
    generalize w2.alloc (.cells #[.int .i64 k, .int .i64 v, .int .i64 l1, .int .i64 l2, .int .i64 r1, .int .i64 r2, .int .i64 (hh : Int)] 60) = w3 at *
    have HZ3 := hide HZ
    have KZ := hide (fun (V : World) (hV : Below w3.heap.size w3 V) => nd_cells ((hV.block _ lz).trans HZ))
    have KY := hide (fun (V : World) (hV : Below w3.heap.size w3 V) => (X3.out.below hV).two)
    obtain ⟨z0, z1, z2, z3, z4, z5, z6, -⟩ := KZ.out w3 (Below.refl _ _)
    have K1 := hide (KA.out w3 HL3.out)
    clear HZ
    go_wp2_with fail
    refine K1.out.mono ?_
    rintro e w4 ⟨va, xa, rfl, hpa, hxa, hb4⟩
    have K2 := hide (KB.out w4 (HL3.out.below hb4))
    obtain ⟨z0, z1, z2, z3, z4, z5, z6, -⟩ := KZ.out w4 hb4
    have HA4 := hide hpa
    have HX4 := hide hxa
    have B4 := hide hb4
    obtain ⟨a4, c4, rfl⟩ := row_form hpa
    obtain ⟨x4, d4, rfl⟩ := row_form hxa
    clear hpa hxa hb4 K1
    go_wp2_with fail
    refine K2.out.mono ?_
    rintro e w5 ⟨vb, xb, rfl, hpb, hxb, hb5⟩
    have hs34 := B4.out.size
    have W5 := hide (show Wk w3 w5 (.slice a4 l.prs.length c4) l.prs vb r.prs (.slice x4 l.hds.length d4) l.hds xb r.hds from ⟨B4.out.trans (hb5.mono hs34), HA4.out.below hb5, row_base hpb hs34, HX4.out.below hb5, row_base hxb hs34,
      fun k hk hk2 => by have h1 := row_lt HA4.out hk; have h2 := (World.ownsRow.lt hpb k hk2).1; omega, fun k hk hk2 => by have h1 := row_lt HX4.out hk; have h2 := (World.ownsRow.lt hxb k hk2).1; omega⟩)
    obtain ⟨a5, c5, rfl⟩ := row_form hpb
    obtain ⟨x5, d5, rfl⟩ := row_form hxb
    clear hpb hxb hb5 K2 HA4 HX4 B4 z0 z1 z2 z3 z4 z5 z6
    obtain ⟨z0, z1, z2, z3, z4, z5, z6, -⟩ := KZ.out w5 W5.out.bel
    have HLE := hide (show l.hds.length ≤ 10000 ∧ r.hds.length ≤ 10000 by rw [HLH.out, HRH.out]; omega)
    have KW := hide (fun (V : World) (P : List Pp) (H : List (Int × Int)) (va vh : Value) (eP : P = l.prs ++ [(k, v)] ++ r.prs) (eH : H = l.hds ++ [(hs, ht)] ++ r.hds) (oP : OwnP V w3.heap.size va P) (oH : OwnH V w3.heap.size vh H) (hB : Below w3.heap.size w3 V) =>
      show WkRet (Tr.node (hs, ht) k v l r) w (.returned (.tuple #[va, vh, .int .i64 (hh : Int), .bool true])) V from
        ⟨va, vh, by rw [HHI.out], by rw [HPR.out, ← eP]; exact row_base oP B3.out.size, by rw [HHD.out, ← eH]; exact row_base oH B3.out.size, B3.out.trans (hB.mono B3.out.size)⟩)
    have hpl : l.prs.length ≤ 10000 ∧ r.prs.length ≤ 10000 := ⟨hll.1, hll.2.1⟩
    have hhl2 : l.high ≤ 100 ∧ r.high ≤ 100 := by omega
    have HLE2 := HLE.out
    clear HLE HLH HRH HHI HPR HHD KA KB hll hd HL3 hq hn hhl hhr
    generalize l.prs = pa at *
    generalize r.prs = pb at *
    generalize l.hds = ha at *
    generalize r.hds = hb at *
    generalize l.high = il at *
    generalize r.high = ir at *
    obtain ⟨hpl, hpr⟩ := hpl
    obtain ⟨hal, hbl⟩ := HLE2
    have wB : IntKind.i64.wrap ((il : Int) - (ir : Int)) = (il : Int) - (ir : Int) := wrap_in _ (by omega) (by omega)
    have wC : IntKind.i64.wrap ((ir : Int) - (il : Int)) = (ir : Int) - (il : Int) := wrap_in _ (by omega) (by omega)
    have q2 : decide ((il : Int) - (ir : Int) > 1) = false := decide_eq_false (by omega)
    have q3 : decide ((ir : Int) - (il : Int) > 1) = false := decide_eq_false (by omega)
    have hcs : (il < ir ∧ (hh : Int) = 1 + (ir : Int)) ∨ (¬ il < ir ∧ (hh : Int) = 1 + (il : Int)) := by omega
    have wA : IntKind.i64.wrap (1 + (ir : Int)) = 1 + (ir : Int) := wrap_in _ (by omega) (by omega)
    have wA2 : IntKind.i64.wrap (1 + (il : Int)) = 1 + (il : Int) := wrap_in _ (by omega) (by omega)
    clear hhe
    rcases hcs with ⟨hm, he⟩ | ⟨hm, he⟩
    case' inl =>
      have q1 : ((hh : Int) != 1 + (ir : Int)) = false := by simpa using he
      have E1 := hide he
      clear he
      go_upto_region 10 with (fail)
    case' inr =>
      have q1 : ((hh : Int) != 1 + (il : Int)) = false := by simpa using he
      have E1 := hide he
      clear he
      go_upto_region 10 with (fail)
    all_goals
      clear hm
      have W6 := hide (W5.out.below ((Below.refl w5.heap.size w5).alloc (Nat.le_refl _) (.cells #[.int .i64 k, .int .i64 v] 65)))
      have NB := hide (Pb.new w5 k v).hs
      have hbs := W6.out.bel.size
      go_upto_region 11 with (at_builtin; refine wpList_append_p _ rfl _ _ rfl w3.heap.size (.slice a4 pa.length c4) pa rfl W6.out.a (some ⟨w5.heap.size, 0, none⟩) 1 [(k, v)] rfl NB.out (by simp only [List.length_singleton]; omega) hbs ?_; intro a7 c7 w7 hown7 hg7 hat7; have W7 := hide (W6.out.growP hown7 hg7 hat7); clear hown7 hg7 hat7)
      clear W5 W6 NB hbs z0 z1 z2 z3 z4 z5 z6
      have hpl2 : (pa ++ [(k, v)]).length ≤ 10001 := by simp; omega
      have EP := hide (show pa ++ [(k, v)] ++ pb = (pa ++ [(k, v)]) ++ pb from rfl)
      rw [show (pa ++ [(k, v)]).length = pa.length + 1 by simp] at W7
      obtain ⟨y0, y1⟩ := KY.out w7 W7.out.bel
      generalize pa ++ [(k, v)] = pa2 at *
      generalize pa.length + 1 = n2 at *
      have W8 := hide (W7.out.below ((Below.refl w7.heap.size w7).alloc (Nat.le_refl _) (.cells #[.int .i64 hs, .int .i64 ht] 28)))
      have NB := hide (Hb.new w7 hs ht).hs
      have hbs := W8.out.bel.size
      go_upto_region 12 with (at_builtin; refine wpList_append_h _ rfl _ _ rfl w3.heap.size (.slice x4 ha.length d4) ha rfl W8.out.x (some ⟨w7.heap.size, 0, none⟩) 1 [(hs, ht)] rfl NB.out (by simp only [List.length_singleton]; omega) hbs ?_; intro a9 c9 w9 hown9 hg9 hat9; have W9 := hide (W8.out.growH hown9 hg9 hat9); clear hown9 hg9 hat9)
      clear W7 W8 NB hbs y0 y1
      have hal2 : (ha ++ [(hs, ht)]).length ≤ 10001 := by simp; omega
      rw [show (ha ++ [(hs, ht)]).length = ha.length + 1 by simp] at W9
      generalize ha ++ [(hs, ht)] = ha2 at *
      generalize ha.length + 1 = m2 at *
      have hS0 := (KZ.out w9 W9.out.bel).2.2.2.2.2.2.1
      have KS := hide (fun (V : World) (hV : Below w3.heap.size w3 V) => (KZ.out V hV).2.2.2.2.2.2.1)
      have WD := hide (W9.out.below ((Below.refl w9.heap.size w9).drew))
      have bs9 : w3.heap.size ≤ w9.drew.heap.size := W9.out.bel.size
      have HPb := hide (WD.out.b.at)
      have lp : pa2.length + pb.length ≤ 1000000 := by omega
      have lh : ha2.length + hb.length ≤ 1000000 := by omega
      go_wp2_with fail
      go_region_held3 (fun w' => w'.cell? ⟨bz, 6, none⟩ = some (.int .i64 (hh : Int)))
        (first | with_reducible exact hS2 | with_reducible exact hS1 | with_reducible exact hS0 | go_keep)
        (first
          | (refine step_append_p _ (by rfl) _ _ (by rfl) w3.heap.size (.slice a7 n2 c7) pa2 (by rfl) WD.out.a a5 c5 pb (by rfl) HPb.out lp bs9 ?_
             intro A10 c10 w10 hown10 hg10 hat10
             have W10 := hide (WD.out.growP hown10 hg10 hat10)
             have HHb := hide (W10.out.y.at)
             have bs10 := W10.out.bel.size
             have hS1 := KS.out w10 W10.out.bel
             generalize hot : pa2 ++ pb = ot at hown10 W10 ⊢
             have HOT := hide hot
             clear hg10 hat10 hown10 hot)
          | (refine step_append_h _ (by rfl) _ _ (by rfl) w3.heap.size (.slice a9 m2 c9) ha2 (by rfl) W10.out.x x5 d5 hb (by rfl) HHb.out lh bs10 ?_
             intro A11 c11 w11 hown11 hg11 hat11
             have W11 := hide (W10.out.growH hown11 hg11 hat11)
             have hS2 := KS.out w11 W11.out.bel
             generalize hzz : ha2 ++ hb = zz at hown11 W11 ⊢
             have HZZ := hide hzz
             clear hg11 hat11 hown11 hzz))
      all_goals
        go_wp2_with fail
        refine bodyPost_ret (results_tmp4 rfl _ _ _) rfl ?_
        exact KW.out _ _ _ _ _ HOT.out.symm HZZ.out.symm W11.out.a W11.out.x W11.out.bel
end Go.Proofs.Ytcckamajiebgeaa
