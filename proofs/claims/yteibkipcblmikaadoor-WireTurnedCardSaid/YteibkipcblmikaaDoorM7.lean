/-
  An argument that is an operation (a struct that holds a struct), and one that is a small one (a struct of five bytes): opened and shut. No conditions.
  An argument that is a small operation (a struct of five bytes): opened and shut. No conditions.
  Contracts of the document's small operations: Small (a stamp), Short (a name), Of. No conditions.
  Unlike operations have unlike bytes, neither of which the other one's begin with; are two rows of bytes one? No conditions beyond that they can be read.
-/
import Derived.Test.YteibkipcblmikaaDoorM1
import Derived.Lib.SmallJoins
import Derived.ProofKit
import Derived.ChangeSame
import Derived.Test.YteibkipcblmikaaDoorM5
import Derived.Laws.ResultCell
namespace Go.Proofs.YteibkipcblmikaaDoor
set_option maxRecDepth 100000
open Go.RowKit Go.ChangeShapes Go.WideShapes
set_option linter.unusedVariables false

theorem array5 {α : Type} {cs : Array α} (h : cs.size = 5) : ∃ c0 c1 c2 c3 c4, cs = #[c0, c1, c2, c3, c4] := by
  obtain ⟨l⟩ := cs
  match l, h with
  | [c0, c1, c2, c3, c4], _ => exact ⟨c0, c1, c2, c3, c4, rfl⟩
theorem cells_op : Tryd.prog.cellsOf 48 = 5 := by kernel_rfl
theorem cells_st : Tryd.prog.cellsOf 46 = 2 := by kernel_rfl
theorem cells_in : Tryd.prog.cellsOf 3 = 1 := by kernel_rfl
theorem cells_sg : Tryd.prog.cellsOf 9 = 1 := by kernel_rfl
theorem open_op {H : Type} {enc : TypeId × Value → H} {w : World} {base : Nat} {spare : Nat → Bool} {held : Bool} {r : Reach} {b0 : Nat} {v : Value} {d : DataW H} {p : List MemPlace}
    (hv : Value.okWide Tryd.prog w r b0 48 v) (h : DataW.Trod enc Tryd.prog w base spare held 48 v d p) :
    ∃ (a b c e : Int) (s : ByteArray), v = .agg #[.int .i64 a, .int .i64 b, .int .i64 c, .int .i64 e, .string s] ∧ d = .agg [.agg [.lit (.int .i64 a), .lit (.int .i64 b)], .lit (.int .i64 c), .lit (.int .i64 e), .lit (.string s.data.toList)] ∧ p = [] ∧
      (Lit.int .i64 a).wf = true ∧ (Lit.int .i64 b).wf = true ∧ (Lit.int .i64 c).wf = true ∧ (Lit.int .i64 e).wf = true ∧ s.size ≤ maxLen := by
  obtain ⟨cs, rfl, hsz⟩ := okWide_struct Tryd.underlying48 hv
  obtain ⟨c0, c1, c2, c3, c4, rfl⟩ := array5 (hsz.trans cells_op)
  obtain ⟨fuel, hf⟩ := h
  obtain ⟨y0, y1, y2, y3, n, hx, _, h0, h1, h2, h3⟩ := Joins.trod_struct4 Tryd.underlying48 hf
  simp [Value.cells, cells_st, cells_in, cells_sg] at h0 h1 h2 h3
  obtain ⟨z0, z1, n', hz, _, g0, g1⟩ := trod_struct2 Tryd.underlying46 h0
  simp [cells_in] at g0 g1
  obtain ⟨a, e0, rfl, wa⟩ := DataW.trod_int Tryd.underlying3 g0
  obtain ⟨b, e1, rfl, wb⟩ := DataW.trod_int Tryd.underlying3 g1
  obtain ⟨c, e2, rfl, wc⟩ := DataW.trod_int Tryd.underlying3 h1
  obtain ⟨e, e3, rfl, we⟩ := DataW.trod_int Tryd.underlying3 h2
  obtain ⟨s, e4, rfl, ws⟩ := DataW.trod_string Tryd.underlying9 h3
  simp at e0 e1 e2 e3 e4
  subst e0 e1 e2 e3 e4
  subst hz
  simp only [Prod.mk.injEq] at hx
  exact ⟨a, b, c, e, s, rfl, hx.1, hx.2, wa, wb, wc, we, ws⟩
theorem shut_op {H : Type} {enc : TypeId × Value → H} {w : World} {base : Nat} {spare : Nat → Bool} {held : Bool} {a b c e : Int} {s : ByteArray}
    (wa : (Lit.int .i64 a).wf = true) (wb : (Lit.int .i64 b).wf = true) (wc : (Lit.int .i64 c).wf = true) (we : (Lit.int .i64 e).wf = true) (ws : s.size ≤ maxLen) :
    DataW.Trod enc Tryd.prog w base spare held 48 (.agg #[.int .i64 a, .int .i64 b, .int .i64 c, .int .i64 e, .string s]) (.agg [.agg [.lit (.int .i64 a), .lit (.int .i64 b)], .lit (.int .i64 c), .lit (.int .i64 e), .lit (.string s.data.toList)]) [] := by
  have u3 := Tryd.underlying3
  have u9 := Tryd.underlying9
  have hat : DataW.trod enc Tryd.prog w base spare held 2 46 [.int .i64 a, .int .i64 b] = some (.agg [.lit (.int .i64 a), .lit (.int .i64 b)], []) := by
    have := trod_struct2_mk (enc := enc) (w := w) (base := base) (spare := spare) (held := held) (n := 1) (cs := [.int .i64 a, .int .i64 b]) (y0 := (.lit (.int .i64 a), [])) (y1 := (.lit (.int .i64 b), [])) Tryd.underlying46 (by rw [cells_st]; rfl)
      (by simp [cells_in, DataW.trod, u3, wa]) (by simp [cells_in, DataW.trod, u3, wb])
    simpa using this
  refine ⟨3, ?_⟩
  have := Joins.trod_struct4_mk (enc := enc) (w := w) (base := base) (spare := spare) (held := held) (n := 2) (cs := [.int .i64 a, .int .i64 b, .int .i64 c, .int .i64 e, .string s]) (y0 := (.agg [.lit (.int .i64 a), .lit (.int .i64 b)], [])) (y1 := (.lit (.int .i64 c), [])) (y2 := (.lit (.int .i64 e), [])) (y3 := (.lit (.string s.data.toList), [])) Tryd.underlying48 (by rw [cells_op]; rfl)
    (by simpa [cells_st] using hat) (by simp [cells_in, DataW.trod, u3, wc]) (by simp [cells_in, DataW.trod, u3, we]) (by simp [cells_sg, DataW.trod, u9, ws])
  simpa [Value.cells] using this
end Go.Proofs.YteibkipcblmikaaDoor
namespace Go.Proofs.YteibkipcblmikaaDoor
set_option maxRecDepth 100000
open Go.RowKit Go.ChangeShapes Go.WideShapes
set_option linter.unusedVariables false

theorem cells_u8 : Tryd.prog.cellsOf 5 = 1 := by kernel_rfl
theorem cells_tn : Tryd.prog.cellsOf 71 = 5 := by kernel_rfl
theorem open_tiny {H : Type} {enc : TypeId × Value → H} {w : World} {base : Nat} {spare : Nat → Bool} {held : Bool} {r : Reach} {b0 : Nat} {v : Value} {d : DataW H} {p : List MemPlace}
    (hv : Value.okWide Tryd.prog w r b0 71 v) (h : DataW.Trod enc Tryd.prog w base spare held 71 v d p) :
    ∃ (a b c e f : Int), v = .agg #[.int .u8 a, .int .u8 b, .int .u8 c, .int .u8 e, .int .u8 f] ∧ d = .agg [.lit (.int .u8 a), .lit (.int .u8 b), .lit (.int .u8 c), .lit (.int .u8 e), .lit (.int .u8 f)] ∧ p = [] ∧
      (Lit.int .u8 a).wf = true ∧ (Lit.int .u8 b).wf = true ∧ (Lit.int .u8 c).wf = true ∧ (Lit.int .u8 e).wf = true ∧ (Lit.int .u8 f).wf = true := by
  obtain ⟨cs, rfl, hsz⟩ := okWide_struct Tryd.underlying71 hv
  obtain ⟨c0, c1, c2, c3, c4, rfl⟩ := array5 (hsz.trans cells_tn)
  obtain ⟨fuel, hf⟩ := h
  obtain ⟨xs, n, _, hx, _, hlen, hg⟩ := DataW.trod_struct Tryd.underlying71 hf
  match xs, hlen with
  | [y0, y1, y2, y3, y4], _ =>
    have h0 := hg 0 _ rfl
    have h1 := hg 1 _ rfl
    have h2 := hg 2 _ rfl
    have h3 := hg 3 _ rfl
    have h4 := hg 4 _ rfl
    simp [Value.cells, cells_u8] at h0 h1 h2 h3 h4
    obtain ⟨a, e0, rfl, wa⟩ := DataW.trod_int Tryd.underlying5 h0
    obtain ⟨b, e1, rfl, wb⟩ := DataW.trod_int Tryd.underlying5 h1
    obtain ⟨c, e2, rfl, wc⟩ := DataW.trod_int Tryd.underlying5 h2
    obtain ⟨e, e3, rfl, we⟩ := DataW.trod_int Tryd.underlying5 h3
    obtain ⟨f, e4, rfl, wf⟩ := DataW.trod_int Tryd.underlying5 h4
    simp at e0 e1 e2 e3 e4
    subst e0 e1 e2 e3 e4
    simp only [Prod.mk.injEq] at hx
    exact ⟨a, b, c, e, f, rfl, by simpa using hx.1, by simpa using hx.2, wa, wb, wc, we, wf⟩
theorem shut_tiny {H : Type} {enc : TypeId × Value → H} {w : World} {base : Nat} {spare : Nat → Bool} {held : Bool} {a b c e f : Int}
    (wa : (Lit.int .u8 a).wf = true) (wb : (Lit.int .u8 b).wf = true) (wc : (Lit.int .u8 c).wf = true) (we : (Lit.int .u8 e).wf = true) (wf : (Lit.int .u8 f).wf = true) :
    DataW.Trod enc Tryd.prog w base spare held 71 (.agg #[.int .u8 a, .int .u8 b, .int .u8 c, .int .u8 e, .int .u8 f]) (.agg [.lit (.int .u8 a), .lit (.int .u8 b), .lit (.int .u8 c), .lit (.int .u8 e), .lit (.int .u8 f)]) [] := by
  have u := Tryd.underlying5
  refine ⟨2, ?_⟩
  have := trod_struct_mk (enc := enc) (w := w) (base := base) (spare := spare) (held := held) (n := 1) (cs := [.int .u8 a, .int .u8 b, .int .u8 c, .int .u8 e, .int .u8 f])
    (xs := [(.lit (.int .u8 a), []), (.lit (.int .u8 b), []), (.lit (.int .u8 c), []), (.lit (.int .u8 e), []), (.lit (.int .u8 f), [])]) Tryd.underlying71 (by rw [cells_tn]; rfl)
    (by simp [cells_u8, DataW.trod, u, wa, wb, wc, we, wf])
  simpa [Value.cells] using this
end Go.Proofs.YteibkipcblmikaaDoor
namespace Go.Proofs.YteibkipcblmikaaDoor
set_option maxRecDepth 100000
open Go.RowKit
set_option linter.unusedVariables false

theorem results_one {fn : Func} {p : Tmp} {ty : TypeId} (h : fn.results = #[.cell p ty]) (tmps : Array Value) (P : Program) (w : World) :
    (results fn tmps).run P w = ((asAddr (tmps.getD p undef)).run P w).andThen fun a w₁ => (loadVar ty a).run P w₁ := by
  simp only [results, h]
  simp [Sem.run_bind, Result.andThen]
theorem small_any (a b : Nat) (w : World) (ha : a < 256) (hb : b < 256) : Calls Tryd.prog 59 #[.int .u8 (a : Int), .int .u8 (b : Int)] w (fun e w' => e = .returned (.agg #[.int .i64 (1 + (a : Int) % 40), .int .i64 ((b : Int) % 4)]) ∧ Below w.heap.size w w') := by
  go_enter Tryd.func59, Tryd.ntmps59
  go_wp2
  (try simp only [Exit.inBlock, Exit.then])
  refine bodyPost_ret (v := .agg #[.int .i64 (1 + (a : Int) % 40), .int .i64 ((b : Int) % 4)]) ?_ rfl ⟨rfl, (Below.refl _ _).alloc (Nat.le_refl _) _⟩
  rw [results_one rfl]
  go_simp
theorem ext8 : ∀ i : Fin 8, (⟨#[97, 98, 99, 100, 101, 102, 103, 104]⟩ : ByteArray).extract i.val (i.val + 1) = bs [b8 (97 + i.val)] := by decide
theorem short8_any (f : Nat) (w : World) (hf : f < 256) : Calls Tryd.prog 60 #[.int .u8 (f : Int)] w (fun e w' => e = .returned (.string (bs [b8 (97 + f % 8)])) ∧ w' = w) := by
  have E := hide (ext8 ⟨f % 8, Nat.mod_lt _ (by decide)⟩)
  go_enter Tryd.func60, Tryd.ntmps60
  go_wp2
  go_ret
  exact ⟨congrArg (fun x => Ending.returned (.string x)) E.out, rfl⟩
def toOf (e : Nat) : Int := if e % 10 < 2 then ((e : Int) % 10) else 254 + (e : Int) % 10
/-- Where Of stands: the small operation, the answer's block. -/
structure OfS (w : World) (a b c e f : Nat) (wk : World) : Prop where
  tiny : wk.heap[w.heap.size]? = some (.cells #[.int .u8 (a : Int), .int .u8 (b : Int), .int .u8 (c : Int), .int .u8 (e : Int), .int .u8 (f : Int)] 71 (0, 0))
  res : wk.heap[w.heap.size + 1]? = some (.cells #[.int .i64 0, .int .i64 0, .int .i64 0, .int .i64 0, .string ⟨#[]⟩] 48 (0, 0))
theorem OfS.below {w wk w' : World} {a b c e f : Nat} (h : OfS w a b c e f wk) (hb : Below wk.heap.size wk w') : OfS w a b c e f w' :=
  ⟨(hb.block _ (Array.getElem?_eq_some_iff.1 h.tiny).1).trans h.tiny, (hb.block _ (Array.getElem?_eq_some_iff.1 h.res).1).trans h.res⟩
theorem OfS.flat {w w' : World} {a b c e f : Nat} (h : OfS w a b c e f w') : w'.cell? ⟨w.heap.size, 0, none⟩ = some (.int .u8 (a : Int)) ∧ w'.cell? ⟨w.heap.size, 1, none⟩ = some (.int .u8 (b : Int)) ∧ w'.cell? ⟨w.heap.size, 2, none⟩ = some (.int .u8 (c : Int)) ∧ w'.cell? ⟨w.heap.size, 3, none⟩ = some (.int .u8 (e : Int)) ∧ w'.cell? ⟨w.heap.size, 4, none⟩ = some (.int .u8 (f : Int)) ∧ w'.cell? ⟨w.heap.size + 1, 0, none⟩ = some (.int .i64 0) ∧ w'.cell? ⟨w.heap.size + 1, 1, none⟩ = some (.int .i64 0) ∧ w'.cell? ⟨w.heap.size + 1, 2, none⟩ = some (.int .i64 0) ∧ w'.cell? ⟨w.heap.size + 1, 3, none⟩ = some (.int .i64 0) ∧ w'.cell? ⟨w.heap.size + 1, 4, none⟩ = some (.string ⟨#[]⟩) ∧ w'.frozen? ⟨w.heap.size + 1, 0, none⟩ = false ∧ w'.frozen? ⟨w.heap.size + 1, 1, none⟩ = false ∧ w'.frozen? ⟨w.heap.size + 1, 2, none⟩ = false ∧ w'.frozen? ⟨w.heap.size + 1, 3, none⟩ = false ∧ w'.frozen? ⟨w.heap.size + 1, 4, none⟩ = false :=
  ⟨cell_of_row w' _ 0 _ _ (0, 0) h.tiny, cell_of_row w' _ 1 _ _ (0, 0) h.tiny, cell_of_row w' _ 2 _ _ (0, 0) h.tiny, cell_of_row w' _ 3 _ _ (0, 0) h.tiny, cell_of_row w' _ 4 _ _ (0, 0) h.tiny,
   cell_of_row w' _ 0 _ _ (0, 0) h.res, cell_of_row w' _ 1 _ _ (0, 0) h.res, cell_of_row w' _ 2 _ _ (0, 0) h.res, cell_of_row w' _ 3 _ _ (0, 0) h.res, cell_of_row w' _ 4 _ _ (0, 0) h.res,
   Joins.unfrozen_of_block h.res 0, Joins.unfrozen_of_block h.res 1, Joins.unfrozen_of_block h.res 2, Joins.unfrozen_of_block h.res 3, Joins.unfrozen_of_block h.res 4⟩
theorem OfS.start (w : World) (a b c e f : Nat) : OfS w a b c e f ((w.alloc (.cells #[.int .u8 (a : Int), .int .u8 (b : Int), .int .u8 (c : Int), .int .u8 (e : Int), .int .u8 (f : Int)] 71)).alloc (.cells #[.int .i64 0, .int .i64 0, .int .i64 0, .int .i64 0, .string ⟨#[]⟩] 48)) := by
  refine ⟨?_, ?_⟩
  · rw [Below.heap_alloc _ _ _ (by simp)]
    exact heap_alloc_new w _
  · have := heap_alloc_new (w.alloc (.cells #[.int .u8 (a : Int), .int .u8 (b : Int), .int .u8 (c : Int), .int .u8 (e : Int), .int .u8 (f : Int)] 71)) (.cells #[.int .i64 0, .int .i64 0, .int .i64 0, .int .i64 0, .string ⟨#[]⟩] 48)
    rwa [show (w.alloc (.cells #[.int .u8 (a : Int), .int .u8 (b : Int), .int .u8 (c : Int), .int .u8 (e : Int), .int .u8 (f : Int)] 71)).heap.size = w.heap.size + 1 by simp] at this
theorem set_res {w wk : World} {cs : Array Value} (hb : Below w.heap.size w wk) (h : wk.heap[w.heap.size + 1]? = some (.cells cs 48 (0, 0))) (j : Nat) (v : Value) :
    Below w.heap.size w (wk.setCell ⟨w.heap.size + 1, j, none⟩ v) ∧ (wk.setCell ⟨w.heap.size + 1, j, none⟩ v).heap[w.heap.size + 1]? = some (.cells (cs.setIfInBounds j v) 48 (0, 0)) := by
  refine ⟨⟨hb.os, hb.tape, hb.output, ?_, fun k hk => ?_⟩, Joins.block_setCell h v⟩
  · have := hb.size
    simpa [World.setCell] using this
  · rw [Below.heap_setCell wk _ v k (by show k ≠ w.heap.size + 1; omega)]
    exact hb.block k hk
theorem of_end {w wk : World} {cs : Array Value} (hs : cs.size = 5) (hb : Below w.heap.size w wk) (h : wk.heap[w.heap.size + 1]? = some (.cells cs 48 (0, 0))) (v0 v1 v2 v3 v4 : Value) (W : World)
    (hW : W = ((((wk.setCell ⟨w.heap.size + 1, 0, none⟩ v0).setCell ⟨w.heap.size + 1, 1, none⟩ v1).setCell ⟨w.heap.size + 1, 2, none⟩ v2).setCell ⟨w.heap.size + 1, 3, none⟩ v3).setCell ⟨w.heap.size + 1, 4, none⟩ v4) :
    Below w.heap.size w W ∧ W.cell? ⟨w.heap.size + 1, 0, none⟩ = some v0 ∧ W.cell? ⟨w.heap.size + 1, 1, none⟩ = some v1 ∧ W.cell? ⟨w.heap.size + 1, 2, none⟩ = some v2 ∧ W.cell? ⟨w.heap.size + 1, 3, none⟩ = some v3 ∧ W.cell? ⟨w.heap.size + 1, 4, none⟩ = some v4 := by
  obtain ⟨c0, c1, c2, c3, c4, rfl⟩ := array5 hs
  have p0 := set_res hb h 0 v0
  have p1 := set_res p0.1 p0.2 1 v1
  have p2 := set_res p1.1 p1.2 2 v2
  have p3 := set_res p2.1 p2.2 3 v3
  have p4 := set_res p3.1 p3.2 4 v4
  rw [← hW] at p4
  exact ⟨p4.1, cell_of_row W _ 0 _ _ (0, 0) p4.2, cell_of_row W _ 1 _ _ (0, 0) p4.2, cell_of_row W _ 2 _ _ (0, 0) p4.2, cell_of_row W _ 3 _ _ (0, 0) p4.2, cell_of_row W _ 4 _ _ (0, 0) p4.2⟩
set_option maxHeartbeats 4000000 in
set_option maxRecDepth 100000 in
theorem of_any (a b c e f : Nat) (w : World) (ha : a < 256) (hb : b < 256) (hc : c < 256) (he : e < 256) (hf : f < 256) :
    Calls Tryd.prog 41 #[.agg #[.int .u8 (a : Int), .int .u8 (b : Int), .int .u8 (c : Int), .int .u8 (e : Int), .int .u8 (f : Int)]] w
      (fun x w' => x = .returned (opv (1 + (a : Int) % 40) ((b : Int) % 4) (256 + (c : Int) % 8) (toOf e) [b8 (97 + f % 8)]) ∧ Below w.heap.size w w') := by
  have K1 := hide (fun W => small_any a b W ha hb)
  have K2 := hide (fun W => short8_any f W hf)
  have T0 := hide (OfS.start w a b c e f)
  have B0 := hide (below_two w (.cells #[.int .u8 (a : Int), .int .u8 (b : Int), .int .u8 (c : Int), .int .u8 (e : Int), .int .u8 (f : Int)] 71) (.cells #[.int .i64 0, .int .i64 0, .int .i64 0, .int .i64 0, .string ⟨#[]⟩] 48))
  go_enter Tryd.func41, Tryd.ntmps41
  by_cases h2 : e % 10 < 2
  · have E := hide (show toOf e = (e : Int) % 10 from if_pos h2)
    have d1 : decide ((e : Int) % 10 ≥ 2) = false := by simp; omega
    have m2 : IntKind.i64.wrap (256 + IntKind.i64.wrap ((c : Int).tmod 8)) = 256 + (c : Int) % 8 := by
      have q : (c : Int).tmod 8 = (c : Int) % 8 := Int.tmod_eq_emod_of_nonneg (by omega)
      rw [q, show IntKind.i64.wrap ((c : Int) % 8) = (c : Int) % 8 from IntWalk.i64_in _ (by omega)]
      exact IntWalk.i64_in _ (by omega)
    have M2 := hide m2
    clear m2
    go_upto_region 4 with (fail)
    generalize (w.alloc (.cells #[.int .u8 (a : Int), .int .u8 (b : Int), .int .u8 (c : Int), .int .u8 (e : Int), .int .u8 (f : Int)] 71)).alloc (.cells #[.int .i64 0, .int .i64 0, .int .i64 0, .int .i64 0, .string ⟨#[]⟩] 48) = w0 at T0 B0 ⊢
    obtain ⟨t0, t1, t2, t3, t4, r0, r1, r2, r3, r4, z0, z1, z2, z3, z4⟩ := T0.out.flat
    have hS0 := And.intro t0 (And.intro t1 (And.intro t2 (And.intro t3 t4)))
    go_wp2_with fail
    have n1 : w.heap.size ≠ w.heap.size + 1 := by omega
    go_region_held3 (fun w' => w'.cell? ⟨w.heap.size, 0, none⟩ = some (.int .u8 (a : Int)) ∧ w'.cell? ⟨w.heap.size, 1, none⟩ = some (.int .u8 (b : Int)) ∧ w'.cell? ⟨w.heap.size, 2, none⟩ = some (.int .u8 (c : Int)) ∧ w'.cell? ⟨w.heap.size, 3, none⟩ = some (.int .u8 (e : Int)) ∧ w'.cell? ⟨w.heap.size, 4, none⟩ = some (.int .u8 (f : Int)))
      (first | with_reducible exact hS1 | with_reducible exact hS0 | go_keep)
      (first
        | (go_at_call 59
           (with_reducible refine (K1.out _).mono ?_)
           rintro x w1 ⟨rfl, hb1⟩
           have hb1' : Below w0.heap.size w0 w1 := ⟨hb1.os, hb1.tape, hb1.output, hb1.size, hb1.block⟩
           have B1 := hide (B0.out.trans (hb1'.mono B0.out.size))
           have T1 := hide (T0.out.below hb1')
           clear t0 t1 t2 t3 t4 r0 r1 r2 r3 r4 z0 z1 z2 z3 z4
           obtain ⟨t0, t1, t2, t3, t4, r0, r1, r2, r3, r4, z0, z1, z2, z3, z4⟩ := T1.out.flat
           have hS1 := And.intro t0 (And.intro t1 (And.intro t2 (And.intro t3 t4)))
           clear hb1 hb1')
        | (go_at_call 60
           (with_reducible refine (K2.out _).mono ?_)
           rintro x w2 ⟨rfl, hw2⟩
           subst hw2))
    clear t0 t1 t2 t3 t4 r0 r1 r2 r3 r4 z0 z1 z2 z3 z4 hS0 hS1
    rw [M2.out]
    obtain ⟨b9, e0, e1, e2, e3, e4⟩ := of_end rfl B1.out T1.out.res (.int .i64 (1 + (a : Int) % 40)) (.int .i64 ((b : Int) % 4)) (.int .i64 (256 + (c : Int) % 8)) (.int .i64 ((e : Int) % 10)) (.string (bs [b8 (97 + f % 8)])) _ rfl
    have B9 := hide b9
    clear b9 B1 T1 B0 T0
    revert e0 e1 e2 e3 e4 B9
    generalize ((((w2.setCell ⟨w.heap.size + 1, 0, none⟩ (.int .i64 (1 + (a : Int) % 40))).setCell ⟨w.heap.size + 1, 1, none⟩ (.int .i64 ((b : Int) % 4))).setCell ⟨w.heap.size + 1, 2, none⟩ (.int .i64 (256 + (c : Int) % 8))).setCell ⟨w.heap.size + 1, 3, none⟩ (.int .i64 ((e : Int) % 10))).setCell ⟨w.heap.size + 1, 4, none⟩ (.string (bs [b8 (97 + f % 8)])) = w3
    intro e0 e1 e2 e3 e4 B9
    go_wp2
    (try simp only [Exit.inBlock, Exit.then])
    refine bodyPost_ret (v := opv (1 + (a : Int) % 40) ((b : Int) % 4) (256 + (c : Int) % 8) ((e : Int) % 10) [b8 (97 + f % 8)]) ?_ rfl ⟨by rw [E.out], B9.out⟩
    rw [results_one rfl]
    unfold opv
    go_simp
  · have E := hide (show toOf e = 254 + (e : Int) % 10 from if_neg h2)
    have d1 : decide ((e : Int) % 10 ≥ 2) = true := by simp; omega
    have m2 : IntKind.i64.wrap (256 + IntKind.i64.wrap ((c : Int).tmod 8)) = 256 + (c : Int) % 8 := by
      have q : (c : Int).tmod 8 = (c : Int) % 8 := Int.tmod_eq_emod_of_nonneg (by omega)
      rw [q, show IntKind.i64.wrap ((c : Int) % 8) = (c : Int) % 8 from IntWalk.i64_in _ (by omega)]
      exact IntWalk.i64_in _ (by omega)
    have M2 := hide m2
    clear m2
    go_upto_region 4 with (fail)
    generalize (w.alloc (.cells #[.int .u8 (a : Int), .int .u8 (b : Int), .int .u8 (c : Int), .int .u8 (e : Int), .int .u8 (f : Int)] 71)).alloc (.cells #[.int .i64 0, .int .i64 0, .int .i64 0, .int .i64 0, .string ⟨#[]⟩] 48) = w0 at T0 B0 ⊢
    obtain ⟨t0, t1, t2, t3, t4, r0, r1, r2, r3, r4, z0, z1, z2, z3, z4⟩ := T0.out.flat
    have hS0 := And.intro t0 (And.intro t1 (And.intro t2 (And.intro t3 t4)))
    go_wp2_with fail
    have n1 : w.heap.size ≠ w.heap.size + 1 := by omega
    go_region_held3 (fun w' => w'.cell? ⟨w.heap.size, 0, none⟩ = some (.int .u8 (a : Int)) ∧ w'.cell? ⟨w.heap.size, 1, none⟩ = some (.int .u8 (b : Int)) ∧ w'.cell? ⟨w.heap.size, 2, none⟩ = some (.int .u8 (c : Int)) ∧ w'.cell? ⟨w.heap.size, 3, none⟩ = some (.int .u8 (e : Int)) ∧ w'.cell? ⟨w.heap.size, 4, none⟩ = some (.int .u8 (f : Int)))
      (first | with_reducible exact hS1 | with_reducible exact hS0 | go_keep)
      (first
        | (go_at_call 59
           (with_reducible refine (K1.out _).mono ?_)
           rintro x w1 ⟨rfl, hb1⟩
           have hb1' : Below w0.heap.size w0 w1 := ⟨hb1.os, hb1.tape, hb1.output, hb1.size, hb1.block⟩
           have B1 := hide (B0.out.trans (hb1'.mono B0.out.size))
           have T1 := hide (T0.out.below hb1')
           clear t0 t1 t2 t3 t4 r0 r1 r2 r3 r4 z0 z1 z2 z3 z4
           obtain ⟨t0, t1, t2, t3, t4, r0, r1, r2, r3, r4, z0, z1, z2, z3, z4⟩ := T1.out.flat
           have hS1 := And.intro t0 (And.intro t1 (And.intro t2 (And.intro t3 t4)))
           clear hb1 hb1')
        | (go_at_call 60
           (with_reducible refine (K2.out _).mono ?_)
           rintro x w2 ⟨rfl, hw2⟩
           subst hw2))
    clear t0 t1 t2 t3 t4 r0 r1 r2 r3 r4 z0 z1 z2 z3 z4 hS0 hS1
    rw [M2.out]
    obtain ⟨b9, e0, e1, e2, e3, e4⟩ := of_end rfl B1.out T1.out.res (.int .i64 (1 + (a : Int) % 40)) (.int .i64 ((b : Int) % 4)) (.int .i64 (256 + (c : Int) % 8)) (.int .i64 (254 + (e : Int) % 10)) (.string (bs [b8 (97 + f % 8)])) _ rfl
    have B9 := hide b9
    clear b9 B1 T1 B0 T0
    revert e0 e1 e2 e3 e4 B9
    generalize ((((w2.setCell ⟨w.heap.size + 1, 0, none⟩ (.int .i64 (1 + (a : Int) % 40))).setCell ⟨w.heap.size + 1, 1, none⟩ (.int .i64 ((b : Int) % 4))).setCell ⟨w.heap.size + 1, 2, none⟩ (.int .i64 (256 + (c : Int) % 8))).setCell ⟨w.heap.size + 1, 3, none⟩ (.int .i64 (254 + (e : Int) % 10))).setCell ⟨w.heap.size + 1, 4, none⟩ (.string (bs [b8 (97 + f % 8)])) = w3
    intro e0 e1 e2 e3 e4 B9
    go_wp2
    (try simp only [Exit.inBlock, Exit.then])
    refine bodyPost_ret (v := opv (1 + (a : Int) % 40) ((b : Int) % 4) (256 + (c : Int) % 8) (254 + (e : Int) % 10) [b8 (97 + f % 8)]) ?_ rfl ⟨by rw [E.out], B9.out⟩
    rw [results_one rfl]
    unfold opv
    go_simp
end Go.Proofs.YteibkipcblmikaaDoor
namespace Go.Proofs.YteibkipcblmikaaDoor
set_option maxRecDepth 100000
open Go.RowKit
set_option linter.unusedVariables false

/-- An operation's parts. -/
structure O5 where
  n : Int
  r : Int
  d : Int
  t : Int
  l : List UInt8
def O5.B (o : O5) : List UInt8 := opB o.n o.r o.d o.t o.l
def O5.E (a b : O5) : Bool := opE a.n a.r a.d a.t a.l b.n b.r b.d b.t b.l
theorem B_right {o : O5} (h : 0 < o.B.length) : opR o.n o.r o.d o.t o.l = true := by
  unfold O5.B opB at h
  split at h
  · assumption
  · simp at h
theorem opv_inj {n r d t : Int} {l : List UInt8} {m s e u : Int} {k : List UInt8} (h : opv n r d t l = opv m s e u k) : n = m ∧ r = s ∧ d = e ∧ t = u ∧ l = k := by
  unfold opv at h
  simp at h
  obtain ⟨h1, h2, h3, h4, h5⟩ := h
  exact ⟨h1, h2, h3, h4, bs_inj h5⟩
/-- Unlike operations have unlike bytes. -/
theorem unlike_E {a b : O5} (ha : 0 < a.B.length) (hb : 0 < b.B.length) (h : a.B.length ≤ b.B.length) : decide (a.B = b.B.take a.B.length) = a.E b := by
  have ra := B_right ha
  have rb := B_right hb
  unfold O5.E opE
  by_cases e : a.n = b.n ∧ a.r = b.r ∧ a.d = b.d ∧ a.t = b.t ∧ a.l = b.l
  · rw [decide_eq_true e]
    obtain ⟨e1, e2, e3, e4, e5⟩ := e
    have : a.B = b.B := by unfold O5.B; rw [e1, e2, e3, e4, e5]
    rw [this]
    simp
  · rw [decide_eq_false e]
    refine decide_eq_false fun g => e ?_
    have p1 := (put_take ra (b.B.drop a.B.length)).2.1
    have p2 := (put_take rb []).2.1
    rw [List.append_nil] at p2
    have q : opB a.n a.r a.d a.t a.l ++ b.B.drop a.B.length = opB b.n b.r b.d b.t b.l := by
      show a.B ++ b.B.drop a.B.length = b.B
      conv => lhs; lhs; rw [g]
      exact List.take_append_drop _ _
    rw [q, p2] at p1
    obtain ⟨h1, h2, h3, h4, h5⟩ := opv_inj p1
    exact ⟨h1.symm, h2.symm, h3.symm, h4.symm, h5.symm⟩
theorem same_any (v1 v2 : Value) (a b : List UInt8) (w : World) (h1 : Hnd w v1 a) (h2 : Hnd w v2 b) :
    Calls Tryd.prog 13 #[v1, v2] w fun e w' => e = .returned (.bool (decide (a = b))) ∧ w = w' := by
  have c1 := conv_hnd h1
  have c2 := conv_hnd h2
  have E := hide (show ((bs a).toList == (bs b).toList) = decide (a = b) by rw [bs_list, bs_list]; by_cases h : a = b <;> simp [h])
  go_enter Tryd.func13, Tryd.ntmps13
  go_wp2
  go_ret
  exact ⟨ret_bool E.out, rfl⟩
end Go.Proofs.YteibkipcblmikaaDoor
