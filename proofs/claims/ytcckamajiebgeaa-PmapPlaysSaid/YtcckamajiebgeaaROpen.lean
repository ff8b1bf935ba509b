/-
  A draft's branch is opened: a fresh node as it is, an old one as a new one, that is gone then. Conditions: the draft is in memory, its trees lie.
-/
import Derived.Test.YtcckamajiebgeaaRSmall
namespace Go.Proofs.Ytcckamajiebgeaa
open Go.RowKit
set_option linter.unusedVariables false
set_option linter.unusedSimpArgs false
set_option maxRecDepth 100000
open Dt

/-- What open leaves. -/
def OpRet (w0 : World) (gm gd : Nat) (gn : List (Int × Int)) (fs : List Nat) (d : Dt) (w : World) (e : Ending) (w' : World) : Prop :=
  ∃ p k v h a b op fs', e = .returned (.pointer (some ⟨p, 0, none⟩)) ∧ Opn w.heap.size d p k v h a b op ∧ Stp w0 gm gd gn fs [] w w' (gn ++ op) fs' ∧ DIn w0.heap.size w' (new p k v h a b)
set_option maxHeartbeats 1000000 in
theorem open_new {w0 w : World} {gm gd : Nat} {gn : List (Int × Int)} {fs : List Nat} (hD : Dr w0 w gm gd gn fs) (p : Nat) (k v : Int) (h : Nat) (l r : Dt) (hd : DIn w0.heap.size w (new p k v h l r)) : Calls Try.prog 39 #[.pointer (some ⟨gd, 0, none⟩), bvv (new p k v h l r).bv] w (OpRet w0 gm gd gn fs (new p k v h l r) w) := by
  have D := (Below.refl w.heap.size w).alloc (Nat.le_refl _) (.cells #[.pointer (some ⟨p, 0, none⟩), .int .i64 0, .int .i64 0] 76)
  have X := hide (show Bxb (w.alloc (.cells #[.pointer (some ⟨p, 0, none⟩), .int .i64 0, .int .i64 0] 76)) w.heap.size (some p, 0, 0) from Bxb.new w (some p, 0, 0))
  have R := hide (show ∀ w', Below w.heap.size w w' → OpRet w0 gm gd gn fs (new p k v h l r) w (.returned (.pointer (some ⟨p, 0, none⟩))) w' from fun w' hb => ⟨p, k, v, h, l, r, [], fs, rfl, .inl ⟨rfl, rfl⟩, by rw [List.append_nil]; exact Stp.of_below hD hb [], hd.below hb⟩)
  have B := hide D
  clear hd D hD
  unfold bvv bv pv at *
  simp only [Option.map_some] at *
  go_enter Try.func39, Try.ntmps39
  go_upto_region 1 with (fail)
  generalize w.alloc (.cells #[.pointer (some ⟨p, 0, none⟩), .int .i64 0, .int .i64 0] 76) = w1 at *
  obtain ⟨x0, x1, x2⟩ := X.out.three
  unfold pv at x0
  simp only [Option.map_some] at x0
  go_wp2
  go_ret
  exact R.out _ B.out
set_option maxHeartbeats 1000000 in
theorem open_nil {w0 w : World} {gm gd : Nat} {F : Int → Int → Option Nd} {gn : List (Int × Int)} {fs : List Nat} (C : Ctx w0 gm F) (hD : Dr w0 w gm gd gn fs) : Calls Try.prog 39 #[.pointer (some ⟨gd, 0, none⟩), bvv (old .nil).bv] w (fun e w' => e = .returned (.pointer none) ∧ Below w.heap.size w w') := by
  obtain ⟨s, hs⟩ : ∃ s : Int, s = 0 := ⟨_, rfl⟩
  obtain ⟨t, ht⟩ : ∃ t : Int, t = 0 := ⟨_, rfl⟩
  have hF : F s t = none := by rw [hs, ht]; exact C.zero
  have hi : i64B s ∧ i64B t := by subst hs ht; simp [i64B]
  rw [show (old .nil).bv = (none, s, t) by simp [bv, Tr.root, hs, ht]]
  clear hs ht
  have D := (Below.refl w.heap.size w).alloc (Nat.le_refl _) (.cells #[.pointer none, .int .i64 s, .int .i64 t] 76)
  have X := hide (show Bxb (w.alloc (.cells #[.pointer none, .int .i64 s, .int .i64 t] 76)) w.heap.size (none, s, t) from Bxb.new w (none, s, t))
  have y0 := cell_b D hD.cell0
  have K := hide (fun (V : World) (hV : Below w.heap.size w V) => C.load V s t (hD.bel.trans (hV.mono hD.bel.size)) hi.1 hi.2)
  have B := hide D
  clear D C hi hD
  unfold GetRet at K
  rw [hF] at K
  simp only [Option.getD_none, Option.isSome_none, ndv, ndz] at K
  unfold bvv pv at *
  simp only [Option.map_none] at *
  go_enter Try.func39, Try.ntmps39
  go_upto_region 1 with (fail)
  obtain ⟨kx, hkx⟩ : ∃ q, w.heap.size = q := ⟨_, rfl⟩
  rw [hkx] at X ⊢
  clear hkx
  generalize w.alloc (.cells #[.pointer none, .int .i64 s, .int .i64 t] 76) = w1 at *
  obtain ⟨x0, x1, x2⟩ := X.out.three
  unfold pv at x0
  simp only [Option.map_none] at x0 x1 x2
  have BD1 := hide B.out.drew
  have D2 := (Below.refl w1.heap.size w1).alloc (Nat.le_refl _) (.cells #[.int .i64 0, .int .i64 0, .int .i64 0, .int .i64 0, .int .i64 0, .int .i64 0, .int .i64 0] 60)
  have BD2 := hide ((B.out.trans (D2.mono B.out.size)).drew)
  have KS := hide (fun (V : World) (hV : Below w1.heap.size w1 V) => show V.cell? ⟨gd, 0, none⟩ = some (.pointer (some ⟨gm, 0, none⟩)) ∧ V.cell? ⟨kx, 1, none⟩ = some (.int .i64 s) ∧ V.cell? ⟨kx, 2, none⟩ = some (.int .i64 t) from ⟨cell_b hV y0, cell_b hV x1, cell_b hV x2⟩)
  have y1 := cell_b D2 y0
  have x11 := cell_b D2 x1
  have x12 := cell_b D2 x2
  have D3 := hide D2
  clear D2
  go_upto_region 3 with (fail)
  go_region_held3 (fun w' => w'.cell? ⟨gd, 0, none⟩ = some (.pointer (some ⟨gm, 0, none⟩)) ∧ w'.cell? ⟨kx, 1, none⟩ = some (.int .i64 s) ∧ w'.cell? ⟨kx, 2, none⟩ = some (.int .i64 t))
    (first | with_reducible exact hS2 | with_reducible exact hS1 | with_reducible exact ⟨y0, x1, x2⟩ | with_reducible exact ⟨y1, x11, x12⟩ | go_keep)
    (first
      | (with_reducible refine (K.out _ BD1.out).mono ?_
         rintro e w5 ⟨rfl, hb⟩
         have hb' : Below w1.heap.size w1 w5 := ⟨hb.os, hb.tape, hb.output, hb.size, hb.block⟩
         have hS1 := KS.out _ hb'
         have HX := hide (heap_alloc_new w5 (.cells #[.int .i64 0, .int .i64 0, .int .i64 0, .int .i64 0, .int .i64 0, .int .i64 0, .int .i64 0] 60))
         have HL := hide (hb'.alloc hb'.size (.cells #[.int .i64 0, .int .i64 0, .int .i64 0, .int .i64 0, .int .i64 0, .int .i64 0, .int .i64 0] 60))
         clear hb hb')
      | (with_reducible refine (K.out _ BD2.out).mono ?_
         rintro e w5 ⟨rfl, hb⟩
         have hb' : Below w1.heap.size w1 w5 := D3.out.trans (Below.mono (B := (w1.alloc (.cells #[.int .i64 0, .int .i64 0, .int .i64 0, .int .i64 0, .int .i64 0, .int .i64 0, .int .i64 0] 60)).heap.size) ⟨hb.os, hb.tape, hb.output, hb.size, hb.block⟩ D3.out.size)
         have hS1 := KS.out _ hb'
         have hZ : w5.heap[w1.heap.size]? = some (.cells #[.int .i64 0, .int .i64 0, .int .i64 0, .int .i64 0, .int .i64 0, .int .i64 0, .int .i64 0] 60 (0, 0)) := (hb.block w1.heap.size (by simp [World.drew])).trans (heap_alloc_new w1 _)
         obtain ⟨c0, c1, c2, c3, c4, c5, c6, g0, g1, g2, g3, g4, g5, g6⟩ := nd_cells hZ
         have HST := nd_stored hZ ⟨0, 0, (0, 0), (0, 0), 0⟩
         have hS2 := KS.out _ (HST.2.below hb' (Nat.le_refl _))
         simp only at hS2
         have HX := hide HST.1
         have HL := hide (HST.2.below hb' (Nat.le_refl _))
         clear hb hb' HST hZ))
  case' _ =>
    clear hS1 y0 x0 x1 x2 y1 x11 x12 K KS BD1 BD2 D3
    generalize (World.alloc _ _) = w6 at HX HL ⊢
    generalize w5.heap.size = kn at HX ⊢
  rotate_left
  case' _ =>
    clear hS1 y0 x0 x1 x2 y1 x11 x12 K KS BD1 BD2 D3
    clear hS2 c0 c1 c2 c3 c4 c5 c6 g0 g1 g2 g3 g4 g5 g6
    generalize (World.setCell _ _ _) = w6 at HX HL ⊢
    generalize w1.heap.size = kn at HX ⊢
  all_goals
    obtain ⟨z0, z1, z2, z3, z4, z5, z6, -⟩ := nd_cells HX.out
    go_wp2
    go_ret
    exact ⟨rfl, B.out.trans (HL.out.mono B.out.size)⟩
/-- Behind the append to what is gone. -/
def OpMid (w0 : World) (gm gd : Nat) (gn : List (Int × Int)) (fs : List Nat) (w : World) (s t : Int) (kn : Nat) (x : Nd) (wx : World) : Prop :=
  ∃ fs', Stp w0 gm gd gn fs [] w wx (gn ++ [(s, t)]) fs' ∧ wx.heap[kn]? = some (.cells #[.int .i64 x.k, .int .i64 x.v, .int .i64 x.l.1, .int .i64 x.l.2, .int .i64 x.r.1, .int .i64 x.r.2, .int .i64 x.h] 60 (0, 0))
theorem fb_set4 {w : World} {p : Nat} {k v : Int} (H : Fb w p k v (none, 0, 0) (none, 0, 0) 0) (a b c d : Int) : Fb ((((w.setCell ⟨p, 3, none⟩ (.int .i64 a)).setCell ⟨p, 4, none⟩ (.int .i64 b)).setCell ⟨p, 6, none⟩ (.int .i64 c)).setCell ⟨p, 7, none⟩ (.int .i64 d)) p k v (none, a, b) (none, c, d) 0 := by
  have e := Joins.block_setCell (i := 7) (Joins.block_setCell (i := 6) (Joins.block_setCell (i := 4) (Joins.block_setCell (i := 3) H (.int .i64 a)) (.int .i64 b)) (.int .i64 c)) (.int .i64 d)
  unfold Fb
  simpa [frv] using e
theorem step_append_hn (w : World) {ops : Array Oper} {o : Oper} {a : Act} {K : Act → World → Prop} {Q : Exit → Act → World → Prop} {E : Prop} (hgd : o.guard = none) (s x : Operand)
    (ho : o.op = .call { callee := .builtin .append, args := #[s, x], argTypes := #[29, 29] })
    (base : Nat) (v : Value) (os : List (Int × Int)) (hs : a.eval s = v) (hown : OwnH w base v os) (A : Option Addr) (c : Nat) (l : List (Int × Int)) (m n : Nat) (hm : l.length = m) (hn : (os ++ l).length = n) (hx : a.eval x = .slice A m c) (hO : Hs w A c l) (h63 : os.length + l.length ≤ 1000000) (hbase : base ≤ w.heap.size)
    (h : ∀ A' c' w', OwnH w' base (.slice A' n c') (os ++ l) → w.grownBy w' v.ownBlock → ((Value.slice A' n c').ownBlock = v.ownBlock ∨ (Value.slice A' n c').ownBlock = some w.heap.size) → K (a.put o.dst (.slice A' n c')) w') :
    if Region.wanted o (yielded ops a.tmps) = true then Oper.wp Try.prog o a w K Q else E := by
  subst hm hn
  exact step_append_h w hgd s x ho base v os hs hown A c l hx hO h63 hbase h
set_option maxHeartbeats 2000000 in
theorem open_old {w0 w : World} {gm gd : Nat} {F : Int → Int → Option Nd} {gn : List (Int × Int)} {fs : List Nat} (C : Ctx w0 gm F) (hD : Dr w0 w gm gd gn fs) (hgn : gn.length ≤ 900) (g : Int × Int) (k v : Int) (L R : Tr) (hT : (Tr.node g k v L R).Lies F) : Calls Try.prog 39 #[.pointer (some ⟨gd, 0, none⟩), bvv (old (.node g k v L R)).bv] w (OpRet w0 gm gd gn fs (old (.node g k v L R)) w) := by
  obtain ⟨s, t⟩ := g
  have hF := hT.1
  have hi := And.intro hT.2.2.1 hT.2.2.2.1
  simp only at hF hi
  have FIN := hide (fun (w' : World) (p : Nat) (fs' : List Nat) (hp : w.heap.size ≤ p) (hS : Stp w0 gm gd gn fs [] w w' (gn ++ [(s, t)]) fs') (hp' : Fb w' p k v (none, L.root.1, L.root.2) (none, R.root.1, R.root.2) 0) =>
    show OpRet w0 gm gd gn fs (old (.node (s, t) k v L R)) w (.returned (.pointer (some ⟨p, 0, none⟩))) w' from
      ⟨p, k, v, 0, old L, old R, [(s, t)], fs', rfl, .inr ⟨_, L, R, rfl, rfl, rfl, rfl, rfl, hp⟩, hS, hp', trivial, trivial, by simp [fp], by simp [fp], by simp [fp], Nat.le_trans hD.bel.size hp⟩)
  rw [show (old (.node (s, t) k v L R)).bv = (none, s, t) from rfl]
  clear hT
  unfold Tr.nd at hF
  generalize L.root = rl at *
  generalize R.root = rr at *
  obtain ⟨n2, n3⟩ := rl
  obtain ⟨n4, n5⟩ := rr
  generalize ((1 + max L.high R.high : Nat) : Int) = n6 at *
  generalize k = n0 at *
  generalize v = n1 at *
  have HD := hide hD
  have D := (Below.refl w.heap.size w).alloc (Nat.le_refl _) (.cells #[.pointer none, .int .i64 s, .int .i64 t] 76)
  have X := hide (show Bxb (w.alloc (.cells #[.pointer none, .int .i64 s, .int .i64 t] 76)) w.heap.size (none, s, t) from Bxb.new w (none, s, t))
  have y0 := cell_b D hD.cell0
  have K := hide (fun (V : World) (hV : Below w.heap.size w V) => C.load V s t (hD.bel.trans (hV.mono hD.bel.size)) hi.1 hi.2)
  have B := hide D
  clear D C hi hD
  unfold GetRet at K
  rw [hF] at K
  simp only [Option.getD_some, Option.isSome_some, ndv] at K
  unfold bvv pv at *
  simp only [Option.map_none] at *
  go_enter Try.func39, Try.ntmps39
  go_upto_region 1 with (fail)
  obtain ⟨kx, hkx⟩ : ∃ q, w.heap.size = q := ⟨_, rfl⟩
  have HKX := hide (Nat.le_of_eq hkx)
  rw [hkx] at X ⊢
  clear hkx
  generalize w.alloc (.cells #[.pointer none, .int .i64 s, .int .i64 t] 76) = w1 at *
  obtain ⟨x0, x1, x2⟩ := X.out.three
  unfold pv at x0
  simp only [Option.map_none] at x0 x1 x2
  have BD1 := hide B.out.drew
  have D2 := (Below.refl w1.heap.size w1).alloc (Nat.le_refl _) (.cells #[.int .i64 0, .int .i64 0, .int .i64 0, .int .i64 0, .int .i64 0, .int .i64 0, .int .i64 0] 60)
  have BD2 := hide ((B.out.trans (D2.mono B.out.size)).drew)
  have KS := hide (fun (V : World) (hV : Below w1.heap.size w1 V) => show V.cell? ⟨gd, 0, none⟩ = some (.pointer (some ⟨gm, 0, none⟩)) ∧ V.cell? ⟨kx, 1, none⟩ = some (.int .i64 s) ∧ V.cell? ⟨kx, 2, none⟩ = some (.int .i64 t) from ⟨cell_b hV y0, cell_b hV x1, cell_b hV x2⟩)
  have y1 := cell_b D2 y0
  have x11 := cell_b D2 x1
  have x12 := cell_b D2 x2
  have D3 := hide D2
  clear D2
  go_upto_region 3 with (fail)
  go_region_held3 (fun w' => w'.cell? ⟨gd, 0, none⟩ = some (.pointer (some ⟨gm, 0, none⟩)) ∧ w'.cell? ⟨kx, 1, none⟩ = some (.int .i64 s) ∧ w'.cell? ⟨kx, 2, none⟩ = some (.int .i64 t))
    (first | with_reducible exact hS2 | with_reducible exact hS1 | with_reducible exact ⟨y0, x1, x2⟩ | with_reducible exact ⟨y1, x11, x12⟩ | go_keep)
    (first
      | (with_reducible refine (K.out _ BD1.out).mono ?_
         rintro e w5 ⟨rfl, hb⟩
         have hb' : Below w1.heap.size w1 w5 := ⟨hb.os, hb.tape, hb.output, hb.size, hb.block⟩
         have hS1 := KS.out _ hb'
         have HX := hide (heap_alloc_new w5 (.cells #[.int .i64 n0, .int .i64 n1, .int .i64 n2, .int .i64 n3, .int .i64 n4, .int .i64 n5, .int .i64 n6] 60))
         have HL := hide (hb'.alloc hb'.size (.cells #[.int .i64 n0, .int .i64 n1, .int .i64 n2, .int .i64 n3, .int .i64 n4, .int .i64 n5, .int .i64 n6] 60))
         clear hb hb')
      | (with_reducible refine (K.out _ BD2.out).mono ?_
         rintro e w5 ⟨rfl, hb⟩
         have hb' : Below w1.heap.size w1 w5 := D3.out.trans (Below.mono (B := (w1.alloc (.cells #[.int .i64 0, .int .i64 0, .int .i64 0, .int .i64 0, .int .i64 0, .int .i64 0, .int .i64 0] 60)).heap.size) ⟨hb.os, hb.tape, hb.output, hb.size, hb.block⟩ D3.out.size)
         have hS1 := KS.out _ hb'
         have hZ : w5.heap[w1.heap.size]? = some (.cells #[.int .i64 0, .int .i64 0, .int .i64 0, .int .i64 0, .int .i64 0, .int .i64 0, .int .i64 0] 60 (0, 0)) := (hb.block w1.heap.size (by simp [World.drew])).trans (heap_alloc_new w1 _)
         obtain ⟨c0, c1, c2, c3, c4, c5, c6, g0, g1, g2, g3, g4, g5, g6⟩ := nd_cells hZ
         have HST := nd_stored hZ ⟨n0, n1, (n2, n3), (n4, n5), n6⟩
         have hS2 := KS.out _ (HST.2.below hb' (Nat.le_refl _))
         simp only at hS2
         have HX := hide HST.1
         have HL := hide (HST.2.below hb' (Nat.le_refl _))
         clear hb hb' HST hZ))
  case' _ =>
    clear hS1 y0 x0 x1 x2 y1 x11 x12 K KS BD1 BD2 D3
    generalize (World.alloc _ _) = w6 at HX HL ⊢
    generalize w5.heap.size = kn at HX ⊢
  rotate_left
  case' _ =>
    clear hS1 y0 x0 x1 x2 y1 x11 x12 K KS BD1 BD2 D3
    clear hS2 c0 c1 c2 c3 c4 c5 c6 g0 g1 g2 g3 g4 g5 g6
    generalize (World.setCell _ _ _) = w6 at HX HL ⊢
    generalize w1.heap.size = kn at HX ⊢
  all_goals
    have B6 := hide (B.out.trans (HL.out.mono B.out.size))
    have X6 := X.out.below HL.out
    obtain ⟨x0, x1, x2⟩ := X6.three
    simp only at x1 x2
    have hD6 := HD.out.below B6.out
    have S6 := Stp.of_below HD.out B6.out []
    obtain ⟨vg, h1, h2, hfs⟩ := hD6.mem
    obtain ⟨ag, cg, rfl⟩ := row_form h2
    have c1 : w6.cell? ⟨gd, 1, none⟩ = some (.slice ag gn.length cg) := cell_of_row w6 gd 1 _ _ (0, 0) h1
    have HP := hide (show OwnH w6.drew w0.heap.size (.slice ag gn.length cg) gn from h2)
    have HNW := hide (Hb.new w6.drew s t).hs
    have hle : (gn ++ [(s, t)]).length = gn.length + 1 := by simp
    have Dl := ((Below.refl w6.heap.size w6).drew).alloc (Nat.le_refl _) (.cells #[.int .i64 s, .int .i64 t] 28)
    have c1a := cell_b ((Below.refl w6.heap.size w6).alloc (Nat.le_refl _) (.cells #[.int .i64 s, .int .i64 t] 28)) c1
    have x1a := cell_b ((Below.refl w6.heap.size w6).alloc (Nat.le_refl _) (.cells #[.int .i64 s, .int .i64 t] 28)) x1
    have x2a := cell_b ((Below.refl w6.heap.size w6).alloc (Nat.le_refl _) (.cells #[.int .i64 s, .int .i64 t] 28)) x2
    have hbs : w0.heap.size ≤ (w6.drew.alloc (.cells #[.int .i64 s, .int .i64 t] 28)).heap.size := Nat.le_trans hD6.bel.size Dl.size
    have hgl : gn.length + 1 ≤ 1000000 := by omega
    have KE := hide (fun (w2 : World) (A' : Option Addr) (c' : Nat) (ho : OwnH w2 w0.heap.size (.slice A' (gn.length + 1) c') (gn ++ [(s, t)])) (hg : (w6.drew.alloc (.cells #[.int .i64 s, .int .i64 t] 28)).grownBy w2 (Value.slice ag gn.length cg).ownBlock) hat => show w2.cell? ⟨gd, 1, none⟩ = some (.slice ag gn.length cg) ∧ w2.frozen? ⟨gd, 1, none⟩ = false ∧ OpMid w0 gm gd gn fs w s t kn ⟨n0, n1, (n2, n3), (n4, n5), n6⟩ (w2.setCell ⟨gd, 1, none⟩ (.slice A' (gn.length + 1) c')) from by
      obtain ⟨q1, q2, q3⟩ := dr_push (by rw [← hfs]; exact hD6) h1 h2 Dl ho hg hat
      exact ⟨q1, q2, _, S6.trans (by rw [hfs]; exact q3) (by simp), q3.block HX.out (by decide) (by decide) (by simp)⟩)
    clear S6 X6 hD6 h2 h1 hfs Dl
    have hll : gn.length = gn.length := rfl
    generalize hm : gn.length = m at *
    go_upto_region 6 with (fail)
    go_cut [] (fun wx => OpMid w0 gm gd gn fs w s t kn ⟨n0, n1, (n2, n3), (n4, n5), n6⟩ wx)
    case first =>
      go_region_law (refine step_append_hn _ (by rfl) _ _ (by rfl) w0.heap.size (.slice ag m cg) gn (by rfl) (HP.out.alloc _) (some ⟨w6.heap.size, 0, none⟩) 1 [(s, t)] 1 (m + 1) rfl hle (by rfl) HNW.out (by simp; omega) hbs ?_
                     intro A' c' w7 hown hg hat
                     obtain ⟨k2, fk, e3⟩ := KE.out _ _ _ hown hg hat
                     have E3 := hide e3
                     clear hown hg hat e3)
      all_goals
        go_wp2_with fail
        go_meet
        exact E3.out
    case rest =>
      obtain ⟨fs', hS, hZ⟩ := hcut
      have HS := hide hS
      have HZ := hide hZ
      clear hS hZ KE c1a hgl hle HP c1 hgn hbs x2a x1a HNW x0 x1 x2 B6 HX HL X B
      obtain ⟨z0, z1, z2, z3, z4, z5, z6, -⟩ := nd_cells HZ.out
      simp only at z0 z1 z2 z3 z4 z5 z6
      have D := (Below.refl wc.heap.size wc).alloc (Nat.le_refl _) (.cells #[.int .i64 n0, .int .i64 n1, .pointer none, .int .i64 0, .int .i64 0, .pointer none, .int .i64 0, .int .i64 0, .int .i64 0] 90)
      have FB := hide (show Fb (wc.alloc (.cells #[.int .i64 n0, .int .i64 n1, .pointer none, .int .i64 0, .int .i64 0, .pointer none, .int .i64 0, .int .i64 0, .int .i64 0] 90)) wc.heap.size n0 n1 (none, 0, 0) (none, 0, 0) 0 from heap_alloc_new wc _)
      have KZ := hide (nd_cells ((D.block _ (Array.getElem?_eq_some_iff.1 HZ.out).1).trans HZ.out))
      have SA := hide (HS.out.trans (Stp.of_below HS.out.dr D []) (by simp))
      have HPW := hide HS.out.mod.size
      have hkp : kn ≠ wc.heap.size := by have := (Array.getElem?_eq_some_iff.1 HZ.out).1; omega
      clear D
      go_upto_region 8 with (fail)
      generalize wc.alloc _ = w8 at *
      generalize wc.heap.size = p at *
      obtain ⟨z0, z1, z2, z3, z4, z5, z6, -⟩ := KZ.out
      simp only at z0 z1 z2 z3 z4 z5 z6
      obtain ⟨y0, y1, y2, y3, y4, y5, y6, y7, y8⟩ := FB.out.nine
      simp only at y0 y1 y2 y3 y4 y5 y6 y7 y8
      have f3 := FB.out.fz 3
      have f4 := FB.out.fz 4
      have f6 := FB.out.fz 6
      have f7 := FB.out.fz 7
      go_region
      all_goals
        go_wp2
        go_ret
        have M4 := ((((Mod.refl [p] w8).setCell (p := ⟨p, 3, none⟩) (.inl (by simp)) (.int .i64 n2)).setCell (p := ⟨p, 4, none⟩) (.inl (by simp)) (.int .i64 n3)).setCell (p := ⟨p, 6, none⟩) (.inl (by simp)) (.int .i64 n4)).setCell (p := ⟨p, 7, none⟩) (.inl (by simp)) (.int .i64 n5)
        exact FIN.out _ p fs' HPW.out (SA.out.trans (Stp.of_mod SA.out.dr FB.out (Nat.le_trans HD.out.bel.size HPW.out) M4.drew) (fun x hx => .inr (by rw [List.mem_singleton.1 hx]; exact HPW.out))) (fb_set4 FB.out n2 n3 n4 n5)
/-- A branch that has a node is opened. -/
theorem open_any {w0 w : World} {gm gd : Nat} {F : Int → Int → Option Nd} {gn : List (Int × Int)} {fs : List Nat} (C : Ctx w0 gm F) (hD : Dr w0 w gm gd gn fs) (hgn : gn.length ≤ 900) (d : Dt) (hd : DIn w0.heap.size w d) (hl : d.Li F) (hn : d ≠ old .nil) : Calls Try.prog 39 #[.pointer (some ⟨gd, 0, none⟩), bvv d.bv] w (OpRet w0 gm gd gn fs d w) := by
  cases d with
  | new p k v h l r => exact open_new hD p k v h l r hd
  | old T =>
    cases T with
    | nil => exact absurd rfl hn
    | node g k v L R => exact open_old C hD hgn g k v L R hl
end Go.Proofs.Ytcckamajiebgeaa
