/-
  Contracts of the document's small operations: Small (a stamp), Short (a name), Of. No conditions.
-/
import Derived.Test.YtimfeocaghccdaaGreatDoorORight
import Derived.Laws.ResultCell
import Derived.Deep.RegionHeld3
import Derived.Deep.CutRange
import Derived.IntWalk
import Derived.Test.YtimfeocaghccdaaGreatDoorOpArg
namespace Go.Proofs.YtimfeocaghccdaaGreatDoor
set_option maxRecDepth 100000
open Go.RowKit
set_option linter.unusedVariables false

theorem results_one {fn : Func} {p : Tmp} {ty : TypeId} (h : fn.results = #[.cell p ty]) (tmps : Array Value) (P : Program) (w : World) :
    (results fn tmps).run P w = ((asAddr (tmps.getD p undef)).run P w).andThen fun a w₁ => (loadVar ty a).run P w₁ := by
  simp only [results, h]
  simp [Sem.run_bind, Result.andThen]
theorem small_any (a b : Nat) (w : World) (ha : a < 256) (hb : b < 256) : Calls Tryz.prog 49 #[.int .u8 (a : Int), .int .u8 (b : Int)] w (fun e w' => e = .returned (.agg #[.int .i64 (1 + (a : Int) % 40), .int .i64 ((b : Int) % 4)]) ∧ Below w.heap.size w w') := by
  go_enter Tryz.func49, Tryz.ntmps49
  go_wp2
  (try simp only [Exit.inBlock, Exit.then])
  refine bodyPost_ret (v := .agg #[.int .i64 (1 + (a : Int) % 40), .int .i64 ((b : Int) % 4)]) ?_ rfl ⟨rfl, (Below.refl _ _).alloc (Nat.le_refl _) _⟩
  rw [results_one rfl]
  go_simp
theorem ext8 : ∀ i : Fin 8, (⟨#[97, 98, 99, 100, 101, 102, 103, 104]⟩ : ByteArray).extract i.val (i.val + 1) = bs [b8 (97 + i.val)] := by decide
theorem short8_any (f : Nat) (w : World) (hf : f < 256) : Calls Tryz.prog 50 #[.int .u8 (f : Int)] w (fun e w' => e = .returned (.string (bs [b8 (97 + f % 8)])) ∧ w' = w) := by
  have E := hide (ext8 ⟨f % 8, Nat.mod_lt _ (by decide)⟩)
  go_enter Tryz.func50, Tryz.ntmps50
  go_wp2
  go_ret
  exact ⟨congrArg (fun x => Ending.returned (.string x)) E.out, rfl⟩
def toOf (e : Nat) : Int := if e % 10 < 2 then ((e : Int) % 10) else 254 + (e : Int) % 10
/-- Where Of stands: the small operation, the answer's block. -/
structure OfS (w : World) (a b c e f : Nat) (wk : World) : Prop where
  tiny : wk.heap[w.heap.size]? = some (.cells #[.int .u8 (a : Int), .int .u8 (b : Int), .int .u8 (c : Int), .int .u8 (e : Int), .int .u8 (f : Int)] 58 (0, 0))
  res : wk.heap[w.heap.size + 1]? = some (.cells #[.int .i64 0, .int .i64 0, .int .i64 0, .int .i64 0, .string ⟨#[]⟩] 50 (0, 0))
theorem OfS.below {w wk w' : World} {a b c e f : Nat} (h : OfS w a b c e f wk) (hb : Below wk.heap.size wk w') : OfS w a b c e f w' :=
  ⟨(hb.block _ (Array.getElem?_eq_some_iff.1 h.tiny).1).trans h.tiny, (hb.block _ (Array.getElem?_eq_some_iff.1 h.res).1).trans h.res⟩
theorem OfS.flat {w w' : World} {a b c e f : Nat} (h : OfS w a b c e f w') : w'.cell? ⟨w.heap.size, 0, none⟩ = some (.int .u8 (a : Int)) ∧ w'.cell? ⟨w.heap.size, 1, none⟩ = some (.int .u8 (b : Int)) ∧ w'.cell? ⟨w.heap.size, 2, none⟩ = some (.int .u8 (c : Int)) ∧ w'.cell? ⟨w.heap.size, 3, none⟩ = some (.int .u8 (e : Int)) ∧ w'.cell? ⟨w.heap.size, 4, none⟩ = some (.int .u8 (f : Int)) ∧ w'.cell? ⟨w.heap.size + 1, 0, none⟩ = some (.int .i64 0) ∧ w'.cell? ⟨w.heap.size + 1, 1, none⟩ = some (.int .i64 0) ∧ w'.cell? ⟨w.heap.size + 1, 2, none⟩ = some (.int .i64 0) ∧ w'.cell? ⟨w.heap.size + 1, 3, none⟩ = some (.int .i64 0) ∧ w'.cell? ⟨w.heap.size + 1, 4, none⟩ = some (.string ⟨#[]⟩) ∧ w'.frozen? ⟨w.heap.size + 1, 0, none⟩ = false ∧ w'.frozen? ⟨w.heap.size + 1, 1, none⟩ = false ∧ w'.frozen? ⟨w.heap.size + 1, 2, none⟩ = false ∧ w'.frozen? ⟨w.heap.size + 1, 3, none⟩ = false ∧ w'.frozen? ⟨w.heap.size + 1, 4, none⟩ = false :=
  ⟨cell_of_row w' _ 0 _ _ (0, 0) h.tiny, cell_of_row w' _ 1 _ _ (0, 0) h.tiny, cell_of_row w' _ 2 _ _ (0, 0) h.tiny, cell_of_row w' _ 3 _ _ (0, 0) h.tiny, cell_of_row w' _ 4 _ _ (0, 0) h.tiny,
   cell_of_row w' _ 0 _ _ (0, 0) h.res, cell_of_row w' _ 1 _ _ (0, 0) h.res, cell_of_row w' _ 2 _ _ (0, 0) h.res, cell_of_row w' _ 3 _ _ (0, 0) h.res, cell_of_row w' _ 4 _ _ (0, 0) h.res,
   Joins.unfrozen_of_block h.res 0, Joins.unfrozen_of_block h.res 1, Joins.unfrozen_of_block h.res 2, Joins.unfrozen_of_block h.res 3, Joins.unfrozen_of_block h.res 4⟩
theorem OfS.start (w : World) (a b c e f : Nat) : OfS w a b c e f ((w.alloc (.cells #[.int .u8 (a : Int), .int .u8 (b : Int), .int .u8 (c : Int), .int .u8 (e : Int), .int .u8 (f : Int)] 58)).alloc (.cells #[.int .i64 0, .int .i64 0, .int .i64 0, .int .i64 0, .string ⟨#[]⟩] 50)) := by
  refine ⟨?_, ?_⟩
  · rw [Below.heap_alloc _ _ _ (by simp)]
    exact heap_alloc_new w _
  · have := heap_alloc_new (w.alloc (.cells #[.int .u8 (a : Int), .int .u8 (b : Int), .int .u8 (c : Int), .int .u8 (e : Int), .int .u8 (f : Int)] 58)) (.cells #[.int .i64 0, .int .i64 0, .int .i64 0, .int .i64 0, .string ⟨#[]⟩] 50)
    rwa [show (w.alloc (.cells #[.int .u8 (a : Int), .int .u8 (b : Int), .int .u8 (c : Int), .int .u8 (e : Int), .int .u8 (f : Int)] 58)).heap.size = w.heap.size + 1 by simp] at this
theorem set_res {w wk : World} {cs : Array Value} (hb : Below w.heap.size w wk) (h : wk.heap[w.heap.size + 1]? = some (.cells cs 50 (0, 0))) (j : Nat) (v : Value) :
    Below w.heap.size w (wk.setCell ⟨w.heap.size + 1, j, none⟩ v) ∧ (wk.setCell ⟨w.heap.size + 1, j, none⟩ v).heap[w.heap.size + 1]? = some (.cells (cs.setIfInBounds j v) 50 (0, 0)) := by
  refine ⟨⟨hb.os, hb.tape, hb.output, ?_, fun k hk => ?_⟩, Joins.block_setCell h v⟩
  · have := hb.size
    simpa [World.setCell] using this
  · rw [Below.heap_setCell wk _ v k (by show k ≠ w.heap.size + 1; omega)]
    exact hb.block k hk
theorem of_end {w wk : World} {cs : Array Value} (hs : cs.size = 5) (hb : Below w.heap.size w wk) (h : wk.heap[w.heap.size + 1]? = some (.cells cs 50 (0, 0))) (v0 v1 v2 v3 v4 : Value) (W : World)
    (hW : W = ((((wk.setCell ⟨w.heap.size + 1, 0, none⟩ v0).setCell ⟨w.heap.size + 1, 1, none⟩ v1).setCell ⟨w.heap.size + 1, 2, none⟩ v2).setCell ⟨w.heap.size + 1, 3, none⟩ v3).setCell ⟨w.heap.size + 1, 4, none⟩ v4) :
    Below w.heap.size w W ∧ W.cell? ⟨w.heap.size + 1, 0, none⟩ = some v0 ∧ W.cell? ⟨w.heap.size + 1, 1, none⟩ = some v1 ∧ W.cell? ⟨w.heap.size + 1, 2, none⟩ = some v2 ∧ W.cell? ⟨w.heap.size + 1, 3, none⟩ = some v3 ∧ W.cell? ⟨w.heap.size + 1, 4, none⟩ = some v4 := by
  obtain ⟨c0, c1, c2, c3, c4, rfl⟩ := array5 hs
  have p0 := set_res hb h 0 v0
  have p1 := set_res p0.1 p0.2 1 v1
  have p2 := set_res p1.1 p1.2 2 v2
  have p3 := set_res p2.1 p2.2 3 v3
  have p4 := set_res p3.1 p3.2 4 v4
  rw [← hW] at p4
  exact ⟨p4.1, cell_of_row W _ 0 _ _ (0, 0) p4.2, cell_of_row W _ 1 _ _ (0, 0) p4.2, cell_of_row W _ 2 _ _ (0, 0) p4.2, cell_of_row W _ 3 _ _ (0, 0) p4.2, cell_of_row W _ 4 _ _ (0, 0) p4.2⟩
set_option maxHeartbeats 4000000 in
set_option maxRecDepth 100000 in
theorem of_any (a b c e f : Nat) (w : World) (ha : a < 256) (hb : b < 256) (hc : c < 256) (he : e < 256) (hf : f < 256) :
    Calls Tryz.prog 26 #[.agg #[.int .u8 (a : Int), .int .u8 (b : Int), .int .u8 (c : Int), .int .u8 (e : Int), .int .u8 (f : Int)]] w
      (fun x w' => x = .returned (opv (1 + (a : Int) % 40) ((b : Int) % 4) (256 + (c : Int) % 8) (toOf e) [b8 (97 + f % 8)]) ∧ Below w.heap.size w w') := by
  have K1 := hide (fun W => small_any a b W ha hb)
  have K2 := hide (fun W => short8_any f W hf)
  have T0 := hide (OfS.start w a b c e f)
  have B0 := hide (below_two w (.cells #[.int .u8 (a : Int), .int .u8 (b : Int), .int .u8 (c : Int), .int .u8 (e : Int), .int .u8 (f : Int)] 58) (.cells #[.int .i64 0, .int .i64 0, .int .i64 0, .int .i64 0, .string ⟨#[]⟩] 50))
  go_enter Tryz.func26, Tryz.ntmps26
  by_cases h2 : e % 10 < 2
  · have E := hide (show toOf e = (e : Int) % 10 from if_pos h2)
    have d1 : decide ((e : Int) % 10 ≥ 2) = false := by simp; omega
    have m2 : IntKind.i64.wrap (256 + IntKind.i64.wrap ((c : Int).tmod 8)) = 256 + (c : Int) % 8 := by
      have q : (c : Int).tmod 8 = (c : Int) % 8 := Int.tmod_eq_emod_of_nonneg (by omega)
      rw [q, show IntKind.i64.wrap ((c : Int) % 8) = (c : Int) % 8 from IntWalk.i64_in _ (by omega)]
      exact IntWalk.i64_in _ (by omega)
    have M2 := hide m2
    clear m2
    go_upto_region 4 with (fail)
    generalize (w.alloc (.cells #[.int .u8 (a : Int), .int .u8 (b : Int), .int .u8 (c : Int), .int .u8 (e : Int), .int .u8 (f : Int)] 58)).alloc (.cells #[.int .i64 0, .int .i64 0, .int .i64 0, .int .i64 0, .string ⟨#[]⟩] 50) = w0 at T0 B0 ⊢
    obtain ⟨t0, t1, t2, t3, t4, r0, r1, r2, r3, r4, z0, z1, z2, z3, z4⟩ := T0.out.flat
    have hS0 := And.intro t0 (And.intro t1 (And.intro t2 (And.intro t3 t4)))
    go_wp2_with fail
    have n1 : w.heap.size ≠ w.heap.size + 1 := by omega
    go_region_held3 (fun w' => w'.cell? ⟨w.heap.size, 0, none⟩ = some (.int .u8 (a : Int)) ∧ w'.cell? ⟨w.heap.size, 1, none⟩ = some (.int .u8 (b : Int)) ∧ w'.cell? ⟨w.heap.size, 2, none⟩ = some (.int .u8 (c : Int)) ∧ w'.cell? ⟨w.heap.size, 3, none⟩ = some (.int .u8 (e : Int)) ∧ w'.cell? ⟨w.heap.size, 4, none⟩ = some (.int .u8 (f : Int)))
      (first | with_reducible exact hS1 | with_reducible exact hS0 | go_keep)
      (first
        | (go_at_call 49
           (with_reducible refine (K1.out _).mono ?_)
           rintro x w1 ⟨rfl, hb1⟩
           have hb1' : Below w0.heap.size w0 w1 := ⟨hb1.os, hb1.tape, hb1.output, hb1.size, hb1.block⟩
           have B1 := hide (B0.out.trans (hb1'.mono B0.out.size))
           have T1 := hide (T0.out.below hb1')
           clear t0 t1 t2 t3 t4 r0 r1 r2 r3 r4 z0 z1 z2 z3 z4
           obtain ⟨t0, t1, t2, t3, t4, r0, r1, r2, r3, r4, z0, z1, z2, z3, z4⟩ := T1.out.flat
           have hS1 := And.intro t0 (And.intro t1 (And.intro t2 (And.intro t3 t4)))
           clear hb1 hb1')
        | (go_at_call 50
           (with_reducible refine (K2.out _).mono ?_)
           rintro x w2 ⟨rfl, hw2⟩
           subst hw2))
    clear t0 t1 t2 t3 t4 r0 r1 r2 r3 r4 z0 z1 z2 z3 z4 hS0 hS1
    rw [M2.out]
    obtain ⟨b9, e0, e1, e2, e3, e4⟩ := of_end rfl B1.out T1.out.res (.int .i64 (1 + (a : Int) % 40)) (.int .i64 ((b : Int) % 4)) (.int .i64 (256 + (c : Int) % 8)) (.int .i64 ((e : Int) % 10)) (.string (bs [b8 (97 + f % 8)])) _ rfl
    have B9 := hide b9
    clear b9 B1 T1 B0 T0
    revert e0 e1 e2 e3 e4 B9
    generalize ((((w2.setCell ⟨w.heap.size + 1, 0, none⟩ (.int .i64 (1 + (a : Int) % 40))).setCell ⟨w.heap.size + 1, 1, none⟩ (.int .i64 ((b : Int) % 4))).setCell ⟨w.heap.size + 1, 2, none⟩ (.int .i64 (256 + (c : Int) % 8))).setCell ⟨w.heap.size + 1, 3, none⟩ (.int .i64 ((e : Int) % 10))).setCell ⟨w.heap.size + 1, 4, none⟩ (.string (bs [b8 (97 + f % 8)])) = w3
    intro e0 e1 e2 e3 e4 B9
    go_wp2
    (try simp only [Exit.inBlock, Exit.then])
    refine bodyPost_ret (v := opv (1 + (a : Int) % 40) ((b : Int) % 4) (256 + (c : Int) % 8) ((e : Int) % 10) [b8 (97 + f % 8)]) ?_ rfl ⟨by rw [E.out], B9.out⟩
    rw [results_one rfl]
    unfold opv
    go_simp
  · have E := hide (show toOf e = 254 + (e : Int) % 10 from if_neg h2)
    have d1 : decide ((e : Int) % 10 ≥ 2) = true := by simp; omega
    have m2 : IntKind.i64.wrap (256 + IntKind.i64.wrap ((c : Int).tmod 8)) = 256 + (c : Int) % 8 := by
      have q : (c : Int).tmod 8 = (c : Int) % 8 := Int.tmod_eq_emod_of_nonneg (by omega)
      rw [q, show IntKind.i64.wrap ((c : Int) % 8) = (c : Int) % 8 from IntWalk.i64_in _ (by omega)]
      exact IntWalk.i64_in _ (by omega)
    have M2 := hide m2
    clear m2
    go_upto_region 4 with (fail)
    generalize (w.alloc (.cells #[.int .u8 (a : Int), .int .u8 (b : Int), .int .u8 (c : Int), .int .u8 (e : Int), .int .u8 (f : Int)] 58)).alloc (.cells #[.int .i64 0, .int .i64 0, .int .i64 0, .int .i64 0, .string ⟨#[]⟩] 50) = w0 at T0 B0 ⊢
    obtain ⟨t0, t1, t2, t3, t4, r0, r1, r2, r3, r4, z0, z1, z2, z3, z4⟩ := T0.out.flat
    have hS0 := And.intro t0 (And.intro t1 (And.intro t2 (And.intro t3 t4)))
    go_wp2_with fail
    have n1 : w.heap.size ≠ w.heap.size + 1 := by omega
    go_region_held3 (fun w' => w'.cell? ⟨w.heap.size, 0, none⟩ = some (.int .u8 (a : Int)) ∧ w'.cell? ⟨w.heap.size, 1, none⟩ = some (.int .u8 (b : Int)) ∧ w'.cell? ⟨w.heap.size, 2, none⟩ = some (.int .u8 (c : Int)) ∧ w'.cell? ⟨w.heap.size, 3, none⟩ = some (.int .u8 (e : Int)) ∧ w'.cell? ⟨w.heap.size, 4, none⟩ = some (.int .u8 (f : Int)))
      (first | with_reducible exact hS1 | with_reducible exact hS0 | go_keep)
      (first
        | (go_at_call 49
           (with_reducible refine (K1.out _).mono ?_)
           rintro x w1 ⟨rfl, hb1⟩
           have hb1' : Below w0.heap.size w0 w1 := ⟨hb1.os, hb1.tape, hb1.output, hb1.size, hb1.block⟩
           have B1 := hide (B0.out.trans (hb1'.mono B0.out.size))
           have T1 := hide (T0.out.below hb1')
           clear t0 t1 t2 t3 t4 r0 r1 r2 r3 r4 z0 z1 z2 z3 z4
           obtain ⟨t0, t1, t2, t3, t4, r0, r1, r2, r3, r4, z0, z1, z2, z3, z4⟩ := T1.out.flat
           have hS1 := And.intro t0 (And.intro t1 (And.intro t2 (And.intro t3 t4)))
           clear hb1 hb1')
        | (go_at_call 50
           (with_reducible refine (K2.out _).mono ?_)
           rintro x w2 ⟨rfl, hw2⟩
           subst hw2))
    clear t0 t1 t2 t3 t4 r0 r1 r2 r3 r4 z0 z1 z2 z3 z4 hS0 hS1
    rw [M2.out]
    obtain ⟨b9, e0, e1, e2, e3, e4⟩ := of_end rfl B1.out T1.out.res (.int .i64 (1 + (a : Int) % 40)) (.int .i64 ((b : Int) % 4)) (.int .i64 (256 + (c : Int) % 8)) (.int .i64 (254 + (e : Int) % 10)) (.string (bs [b8 (97 + f % 8)])) _ rfl
    have B9 := hide b9
    clear b9 B1 T1 B0 T0
    revert e0 e1 e2 e3 e4 B9
    generalize ((((w2.setCell ⟨w.heap.size + 1, 0, none⟩ (.int .i64 (1 + (a : Int) % 40))).setCell ⟨w.heap.size + 1, 1, none⟩ (.int .i64 ((b : Int) % 4))).setCell ⟨w.heap.size + 1, 2, none⟩ (.int .i64 (256 + (c : Int) % 8))).setCell ⟨w.heap.size + 1, 3, none⟩ (.int .i64 (254 + (e : Int) % 10))).setCell ⟨w.heap.size + 1, 4, none⟩ (.string (bs [b8 (97 + f % 8)])) = w3
    intro e0 e1 e2 e3 e4 B9
    go_wp2
    (try simp only [Exit.inBlock, Exit.then])
    refine bodyPost_ret (v := opv (1 + (a : Int) % 40) ((b : Int) % 4) (256 + (c : Int) % 8) (254 + (e : Int) % 10) [b8 (97 + f % 8)]) ?_ rfl ⟨by rw [E.out], B9.out⟩
    rw [results_one rfl]
    unfold opv
    go_simp
end Go.Proofs.YtimfeocaghccdaaGreatDoor
