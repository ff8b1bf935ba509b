/-
  Contracts over drafts: how keys stand, which side, a branch's height, a node's being closed. Conditions: the draft is in memory, its trees lie.
-/
import Derived.Test.YtcckamajiebgeaaRMem
import Derived.LoopTactic
import Derived.RegionTactic
import Derived.Laws.ResultCell
import Derived.Deep.QuietTactic
import Derived.BigQuiet
import Derived.Deep.CutRange
import Derived.Deep.RegionLaw
import Derived.Deep.RegionHeld3
import Derived.Deep.DeepCutAuto
namespace Go.Proofs.Ytcckamajiebgeaa
open Go.RowKit
set_option linter.unusedVariables false
set_option linter.unusedSimpArgs false
set_option maxRecDepth 100000
open Dt

/-- How two keys stand. -/
def cmZ (a b : Int) : Int := if a < b then -1 else if b < a then 1 else 0
theorem nan_any (n : Int) (w : World) : Calls Try.prog 30 #[.int .i64 n] w (fun e w' => e = .returned (.bool false) ∧ w' = w) := by
  go_enter Try.func30, Try.ntmps30
  go_wp2
  go_ret
  exact ⟨rfl, rfl⟩
theorem compare_any (a b : Int) (w : World) : Calls Try.prog 11 #[.int .i64 a, .int .i64 b] w (fun e w' => e = .returned (.int .i64 (cmZ a b)) ∧ w' = w) := by
  go_enter Try.func11, Try.ntmps11
  go_wp2_with fail
  refine (nan_any a w).mono ?_
  rintro e w' ⟨rfl, rfl⟩
  go_wp2_with fail
  refine (nan_any b _).mono ?_
  rintro e w' ⟨rfl, rfl⟩
  by_cases h1 : a < b
  · have E := hide (show cmZ a b = -1 by simp [cmZ, h1])
    go_wp2
    go_ret
    rw [E.out]
    exact ⟨rfl, rfl⟩
  · by_cases h2 : b < a
    · have E := hide (show cmZ a b = 1 by simp [cmZ, h1, h2])
      go_wp2
      go_ret
      rw [E.out]
      exact ⟨rfl, rfl⟩
    · have E := hide (show cmZ a b = 0 by simp [cmZ, h1, h2])
      go_wp2
      go_ret
      rw [E.out]
      exact ⟨rfl, rfl⟩
theorem side_any (c : Int) (w : World) : Calls Try.prog 41 #[.int .i64 c] w (fun e w' => e = .returned (.int .i64 (if c < 0 then 0 else 1)) ∧ w' = w) := by
  by_cases h : c < 0
  · rw [if_pos h]
    go_enter Try.func41, Try.ntmps41
    go_wp2
    go_ret
    exact ⟨rfl, rfl⟩
  · rw [if_neg h]
    go_enter Try.func41, Try.ntmps41
    go_wp2
    go_ret
    exact ⟨rfl, rfl⟩
/-- A branch in a box. -/
def Bxb (w : World) (k : Nat) (b : Option Nat × Int × Int) : Prop := w.heap[k]? = some (.cells #[pv b.1, .int .i64 b.2.1, .int .i64 b.2.2] 76 (0, 0))
theorem Bxb.new (w : World) (b : Option Nat × Int × Int) : Bxb (w.alloc (.cells #[pv b.1, .int .i64 b.2.1, .int .i64 b.2.2] 76)) w.heap.size b := heap_alloc_new w _
theorem Bxb.three {w : World} {k : Nat} {b : Option Nat × Int × Int} (h : Bxb w k b) : w.cell? ⟨k, 0, none⟩ = some (pv b.1) ∧ w.cell? ⟨k, 1, none⟩ = some (.int .i64 b.2.1) ∧ w.cell? ⟨k, 2, none⟩ = some (.int .i64 b.2.2) :=
  ⟨cell_of_row _ _ 0 _ _ (0, 0) h, cell_of_row _ _ 1 _ _ (0, 0) h, cell_of_row _ _ 2 _ _ (0, 0) h⟩
theorem Bxb.fz {w : World} {k : Nat} {b : Option Nat × Int × Int} (h : Bxb w k b) (i : Nat) : w.frozen? ⟨k, i, none⟩ = false := Joins.unfrozen_of_block h i
theorem Bxb.lt {w : World} {k : Nat} {b : Option Nat × Int × Int} (h : Bxb w k b) : k < w.heap.size := (Array.getElem?_eq_some_iff.1 h).1
theorem Bxb.below {w w' : World} {k : Nat} {b : Option Nat × Int × Int} (h : Bxb w k b) (hb : Below w.heap.size w w') : Bxb w' k b := (hb.block k h.lt).trans h
theorem Bxb.set {w : World} {k : Nat} {b : Option Nat × Int × Int} (h : Bxb w k b) (c : Option Nat × Int × Int) : Bxb (((w.setCell ⟨k, 0, none⟩ (pv c.1)).setCell ⟨k, 1, none⟩ (.int .i64 c.2.1)).setCell ⟨k, 2, none⟩ (.int .i64 c.2.2)) k c := by
  have e := Joins.block_setCell (i := 2) (Joins.block_setCell (i := 1) (Joins.block_setCell (i := 0) h (pv c.1)) (.int .i64 c.2.1)) (.int .i64 c.2.2)
  unfold Bxb
  simpa using e
/-- A box that was made behind a step's begin is written. -/
theorem Stp.box {w0 w w1 : World} {gm gd : Nat} {gn gn' : List (Int × Int)} {fs fs' ks : List Nat} (h : Stp w0 gm gd gn fs ks w w1 gn' fs') {kx : Nat} {c : Option Nat × Int × Int} (hb : Bxb w1 kx c) (hk : w.heap.size ≤ kx) (x y z : Value) : Stp w0 gm gd gn fs ks w (((w1.setCell ⟨kx, 0, none⟩ x).setCell ⟨kx, 1, none⟩ y).setCell ⟨kx, 2, none⟩ z) gn' fs' := by
  have hn : kx ∉ fs' := h.dr.not hb (by decide) (by decide)
  have M := mod3 w1 kx 0 1 2 x y z
  refine ⟨h.pre, h.dr.mod M (fun k hk' => ?_) (fun k hk' => ?_), h.mod.trans M fun k hk' => ?_, h.new⟩
  · simp
    rintro rfl
    exact hn hk'
  · rw [List.mem_singleton.1 hk']
    exact Nat.le_trans h.pre.bel.size hk
  · rw [List.mem_singleton.1 hk']
    exact .inr hk
theorem DIn.nobox {n : Nat} {w : World} {d : Dt} (h : DIn n w d) {kx : Nat} {c : Option Nat × Int × Int} (hb : Bxb w kx c) : kx ∉ d.fp := by
  intro hk
  obtain ⟨_, cs, e⟩ := h.kind kx hk
  unfold Bxb at hb
  rw [hb] at e
  simp at e
theorem Stp.boxed {w0 a b : World} {gm gd : Nat} {gn gn' : List (Int × Int)} {fs fs' ks : List Nat} (h : Stp w0 gm gd gn fs ks a b gn' fs') {k : Nat} {c : Option Nat × Int × Int} (hk : Bxb a k c) (hn : k ∉ ks) : Bxb b k c := h.block hk (by decide) (by decide) hn
theorem box_ne {w : World} {kx k : Nat} {c : Option Nat × Int × Int} (hb : Bxb w kx c) {cs : Array Value} {t : TypeId} {z : Nat × Nat} (hk : w.heap[k]? = some (.cells cs t z)) (ht : t ≠ 76) : k ≠ kx := by
  rintro rfl
  unfold Bxb at hb
  rw [hb] at hk
  simp at hk
  exact ht hk.2.1.symm
theorem box_block {w : World} {kx k : Nat} {c : Option Nat × Int × Int} (hb : Bxb w kx c) {cs : Array Value} {t : TypeId} {z : Nat × Nat} (hk : w.heap[k]? = some (.cells cs t z)) (ht : t ≠ 76) (x y v : Value) : (((w.setCell ⟨kx, 0, none⟩ x).setCell ⟨kx, 1, none⟩ y).setCell ⟨kx, 2, none⟩ v).heap[k]? = some (.cells cs t z) := by
  have hn := box_ne hb hk ht
  exact ((Below.heap_setCell _ _ _ _ hn).trans ((Below.heap_setCell _ _ _ _ hn).trans (Below.heap_setCell _ _ _ _ hn))).trans hk
theorem Fb.box {w : World} {kx : Nat} {c : Option Nat × Int × Int} (hb : Bxb w kx c) {p : Nat} {k v : Int} {a b : Option Nat × Int × Int} {h : Nat} (H : Fb w p k v a b h) (x y z : Value) : Fb (((w.setCell ⟨kx, 0, none⟩ x).setCell ⟨kx, 1, none⟩ y).setCell ⟨kx, 2, none⟩ z) p k v a b h := box_block hb H (by decide) x y z
theorem DIn.box {w : World} {kx : Nat} {c : Option Nat × Int × Int} (hb : Bxb w kx c) {n : Nat} {d : Dt} (H : DIn n w d) (x y z : Value) : DIn n (((w.setCell ⟨kx, 0, none⟩ x).setCell ⟨kx, 1, none⟩ y).setCell ⟨kx, 2, none⟩ z) d := H.kept fun k hk => by
  obtain ⟨_, cs, e⟩ := H.kind k hk
  rw [e]
  exact box_block hb e (by decide) x y z
theorem Bxb.other {w : World} {kx : Nat} {c : Option Nat × Int × Int} (hb : Bxb w kx c) {p : Nat} {cs : Array Value} {t : TypeId} {z : Nat × Nat} (hp : w.heap[p]? = some (.cells cs t z)) (ht : t ≠ 76) (i : Nat) (v : Value) : Bxb (w.setCell ⟨p, i, none⟩ v) kx c :=
  (Below.heap_setCell _ _ _ _ (box_ne hb hp ht).symm).trans hb
set_option maxHeartbeats 1000000 in
theorem high_new {w0 w : World} {gm gd : Nat} (p : Nat) (k v : Int) (h : Nat) (l r : Dt) (hd : DIn w0.heap.size w (new p k v h l r)) : Calls Try.prog 47 #[.pointer (some ⟨gd, 0, none⟩), bvv (new p k v h l r).bv] w (IntRet .i64 h w) := by
  have D := (Below.refl w.heap.size w).alloc (Nat.le_refl _) (.cells #[pv (some p), .int .i64 0, .int .i64 0] 76)
  have X := hide (Bxb.new w (some p, 0, 0))
  have z8 := (hd.1.nine).2.2.2.2.2.2.2.2
  have z8 := cell_b D z8
  have B := hide D
  clear hd D
  unfold bvv bv pv at *
  simp only [Option.map_some] at *
  go_enter Try.func47, Try.ntmps47
  go_upto_region 1 with (fail)
  generalize w.alloc _ = w1 at *
  obtain ⟨x0, x1, x2⟩ := X.out.three
  unfold pv at x0
  simp only [Option.map_some] at x0
  go_wp2
  go_ret
  exact ⟨rfl, B.out⟩
theorem results_one {fn : Func} {p : Tmp} {ty : TypeId} (h : fn.results = #[.cell p ty]) (tmps : Array Value) (P : Program) (w : World) :
    (results fn tmps).run P w = ((asAddr (tmps.getD p undef)).run P w).andThen fun a w₁ => (loadVar ty a).run P w₁ := by
  simp only [results, h]
  simp [Sem.run_bind, Result.andThen]
set_option maxHeartbeats 1000000 in
theorem high_old {w0 w : World} {gm gd : Nat} {F : Int → Int → Option Nd} {gn : List (Int × Int)} {fs : List Nat} (C : Ctx w0 gm F) (hD : Dr w0 w gm gd gn fs) (T : Tr) (hT : T.Lies F) : Calls Try.prog 47 #[.pointer (some ⟨gd, 0, none⟩), bvv (old T).bv] w (IntRet .i64 T.high w) := by
  obtain ⟨nd, hn, hnh⟩ : ∃ nd, (F T.root.1 T.root.2).getD ndz = nd ∧ nd.h = (T.high : Int) := by
    cases T with
    | nil => exact ⟨_, rfl, by simp [Tr.root, C.zero, ndz, Tr.high]⟩
    | node g k v l r =>
      refine ⟨_, rfl, ?_⟩
      simp only [Tr.root, hT.1, Option.getD_some, Tr.nd, Tr.high]
  have hi : i64B T.root.1 ∧ i64B T.root.2 := by
    cases T with
    | nil => simp [Tr.root, i64B]
    | node g k v l r => exact ⟨hT.2.2.1, hT.2.2.2.1⟩
  have D := (Below.refl w.heap.size w).alloc (Nat.le_refl _) (.cells #[pv none, .int .i64 T.root.1, .int .i64 T.root.2] 76)
  have X := hide (Bxb.new w (none, T.root.1, T.root.2))
  have y0 := cell_b D hD.cell0
  have K := hide (fun (V : World) (hV : Below w.heap.size w V) => C.load V T.root.1 T.root.2 (hD.bel.trans (hV.mono hD.bel.size)) hi.1 hi.2)
  have B := hide D
  have HN := hide hn
  have HH := hide hnh
  clear hD D C hT hi hn hnh
  unfold bvv bv pv at *
  simp only [Option.map_none] at *
  generalize T.root = rt at *
  generalize T.high = hh at *
  obtain ⟨s, t⟩ := rt
  simp only at *
  unfold GetRet at K
  generalize (F s t).isSome = bo at *
  generalize (F s t).getD ndz = nx at *
  obtain ⟨n0, n1, ⟨n2, n3⟩, ⟨n4, n5⟩, n6⟩ := nx
  unfold ndv at K
  simp only at K
  have HG := hide (show (n6 : Int) = (hh : Int) by rw [← HH.out, ← HN.out])
  clear HN HH
  go_enter Try.func47, Try.ntmps47
  go_upto_region 1 with (fail)
  generalize w.heap.size = kx at X ⊢
  generalize w.alloc (.cells #[.pointer none, .int .i64 s, .int .i64 t] 76) = w1 at *
  obtain ⟨x0, x1, x2⟩ := X.out.three
  unfold pv at x0
  simp only [Option.map_none] at x0 x1 x2
  have BD1 := hide B.out.drew
  have D2 := (Below.refl w1.heap.size w1).alloc (Nat.le_refl _) (.cells #[.int .i64 0, .int .i64 0, .int .i64 0, .int .i64 0, .int .i64 0, .int .i64 0, .int .i64 0] 60)
  have BD2 := hide ((B.out.trans (D2.mono B.out.size)).drew)
  have KS := hide (fun (V : World) (hV : Below w1.heap.size w1 V) => show V.cell? ⟨gd, 0, none⟩ = some (.pointer (some ⟨gm, 0, none⟩)) ∧ V.cell? ⟨kx, 1, none⟩ = some (.int .i64 s) ∧ V.cell? ⟨kx, 2, none⟩ = some (.int .i64 t) from ⟨cell_b hV y0, cell_b hV x1, cell_b hV x2⟩)
  have y1 := cell_b D2 y0
  have x11 := cell_b D2 x1
  have x12 := cell_b D2 x2
  have D3 := hide D2
  clear D2
  go_upto_region 3 with (fail)
  go_region_held3 (fun w' => w'.cell? ⟨gd, 0, none⟩ = some (.pointer (some ⟨gm, 0, none⟩)) ∧ w'.cell? ⟨kx, 1, none⟩ = some (.int .i64 s) ∧ w'.cell? ⟨kx, 2, none⟩ = some (.int .i64 t))
    (first | with_reducible exact hS2 | with_reducible exact hS1 | with_reducible exact ⟨y0, x1, x2⟩ | with_reducible exact ⟨y1, x11, x12⟩ | go_keep)
    (first
      | (with_reducible refine (K.out _ BD1.out).mono ?_
         rintro e w5 ⟨rfl, hb⟩
         have hb' : Below w1.heap.size w1 w5 := ⟨hb.os, hb.tape, hb.output, hb.size, hb.block⟩
         have hS1 := KS.out _ hb'
         have HB := hide (BD1.out.trans (hb.mono BD1.out.size))
         have HX := hide (heap_alloc_new w5 (.cells #[.int .i64 n0, .int .i64 n1, .int .i64 n2, .int .i64 n3, .int .i64 n4, .int .i64 n5, .int .i64 n6] 60))
         have HL := hide (HB.out.alloc HB.out.size (.cells #[.int .i64 n0, .int .i64 n1, .int .i64 n2, .int .i64 n3, .int .i64 n4, .int .i64 n5, .int .i64 n6] 60))
         clear hb hb')
      | (with_reducible refine (K.out _ BD2.out).mono ?_
         rintro e w5 ⟨rfl, hb⟩
         have hb' : Below w1.heap.size w1 w5 := D3.out.trans (Below.mono (B := (w1.alloc (.cells #[.int .i64 0, .int .i64 0, .int .i64 0, .int .i64 0, .int .i64 0, .int .i64 0, .int .i64 0] 60)).heap.size) ⟨hb.os, hb.tape, hb.output, hb.size, hb.block⟩ D3.out.size)
         have hS1 := KS.out _ hb'
         have HB := hide (BD2.out.trans (hb.mono BD2.out.size))
         have hZ : w5.heap[w1.heap.size]? = some (.cells #[.int .i64 0, .int .i64 0, .int .i64 0, .int .i64 0, .int .i64 0, .int .i64 0, .int .i64 0] 60 (0, 0)) := (hb.block w1.heap.size (by simp [World.drew])).trans (heap_alloc_new w1 _)
         obtain ⟨c0, c1, c2, c3, c4, c5, c6, g0, g1, g2, g3, g4, g5, g6⟩ := nd_cells hZ
         have HST := nd_stored hZ ⟨n0, n1, (n2, n3), (n4, n5), n6⟩
         have hS2 := KS.out _ (HST.2.below hb' (Nat.le_refl _))
         simp only at hS2
         have HX := hide HST.1
         have HL := hide (HST.2.below HB.out (by have := B.out.size; omega))
         clear hb hb' HST hZ))
  case' _ =>
    clear hS1 y0 x0 x1 x2 y1 x11 x12 K KS BD1 BD2 D3 B X HB
    generalize (World.alloc _ _) = w6 at HX HL ⊢
    generalize w5.heap.size = kn at HX ⊢
  rotate_left
  case' _ =>
    clear hS1 y0 x0 x1 x2 y1 x11 x12 K KS BD1 BD2 D3 B X HB
    clear hS2 c0 c1 c2 c3 c4 c5 c6 g0 g1 g2 g3 g4 g5 g6
    generalize (World.setCell _ _ _) = w6 at HX HL ⊢
    generalize w1.heap.size = kn at HX ⊢
  all_goals
    obtain ⟨z0, z1, z2, z3, z4, z5, z6, -⟩ := nd_cells HX.out
    go_wp2
    go_ret
    exact ⟨ret_int HG.out, HL.out⟩
/-- A branch's height. -/
theorem high_any {w0 w : World} {gm gd : Nat} {F : Int → Int → Option Nd} {gn : List (Int × Int)} {fs : List Nat} (C : Ctx w0 gm F) (hD : Dr w0 w gm gd gn fs) (d : Dt) (hd : DIn w0.heap.size w d) (hl : d.Li F) : Calls Try.prog 47 #[.pointer (some ⟨gd, 0, none⟩), bvv d.bv] w (IntRet .i64 d.high w) := by
  cases d with
  | old T => exact high_old C hD T hl
  | new p k v h l r => exact high_new (w0 := w0) (gm := gm) p k v h l r hd
end Go.Proofs.Ytcckamajiebgeaa
