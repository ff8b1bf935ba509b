/-
  An argument that is an operation (a struct that holds a struct), and one that is a small one (a struct of five bytes): opened and shut. No conditions.
-/
import Derived.Test.YtimfeocaghccdaaGreatDoorBase0
import Derived.Lib.SmallJoins
import Derived.ProofKit
import Derived.ChangeSame
namespace Go.Proofs.YtimfeocaghccdaaGreatDoor
set_option maxRecDepth 100000
open Go.RowKit Go.ChangeShapes Go.WideShapes
set_option linter.unusedVariables false

theorem array5 {α : Type} {cs : Array α} (h : cs.size = 5) : ∃ c0 c1 c2 c3 c4, cs = #[c0, c1, c2, c3, c4] := by
  obtain ⟨l⟩ := cs
  match l, h with
  | [c0, c1, c2, c3, c4], _ => exact ⟨c0, c1, c2, c3, c4, rfl⟩
theorem cells_op : Tryz.prog.cellsOf 50 = 5 := by kernel_rfl
theorem cells_st : Tryz.prog.cellsOf 48 = 2 := by kernel_rfl
theorem cells_in : Tryz.prog.cellsOf 3 = 1 := by kernel_rfl
theorem cells_sg : Tryz.prog.cellsOf 9 = 1 := by kernel_rfl
theorem open_op {H : Type} {enc : TypeId × Value → H} {w : World} {base : Nat} {spare : Nat → Bool} {held : Bool} {r : Reach} {b0 : Nat} {v : Value} {d : DataW H} {p : List MemPlace}
    (hv : Value.okWide Tryz.prog w r b0 50 v) (h : DataW.Trod enc Tryz.prog w base spare held 50 v d p) :
    ∃ (a b c e : Int) (s : ByteArray), v = .agg #[.int .i64 a, .int .i64 b, .int .i64 c, .int .i64 e, .string s] ∧ d = .agg [.agg [.lit (.int .i64 a), .lit (.int .i64 b)], .lit (.int .i64 c), .lit (.int .i64 e), .lit (.string s.data.toList)] ∧ p = [] ∧
      (Lit.int .i64 a).wf = true ∧ (Lit.int .i64 b).wf = true ∧ (Lit.int .i64 c).wf = true ∧ (Lit.int .i64 e).wf = true ∧ s.size ≤ maxLen := by
  obtain ⟨cs, rfl, hsz⟩ := okWide_struct Tryz.underlying50 hv
  obtain ⟨c0, c1, c2, c3, c4, rfl⟩ := array5 (hsz.trans cells_op)
  obtain ⟨fuel, hf⟩ := h
  obtain ⟨y0, y1, y2, y3, n, hx, _, h0, h1, h2, h3⟩ := Joins.trod_struct4 Tryz.underlying50 hf
  simp [Value.cells, cells_st, cells_in, cells_sg] at h0 h1 h2 h3
  obtain ⟨z0, z1, n', hz, _, g0, g1⟩ := trod_struct2 Tryz.underlying48 h0
  simp [cells_in] at g0 g1
  obtain ⟨a, e0, rfl, wa⟩ := DataW.trod_int Tryz.underlying3 g0
  obtain ⟨b, e1, rfl, wb⟩ := DataW.trod_int Tryz.underlying3 g1
  obtain ⟨c, e2, rfl, wc⟩ := DataW.trod_int Tryz.underlying3 h1
  obtain ⟨e, e3, rfl, we⟩ := DataW.trod_int Tryz.underlying3 h2
  obtain ⟨s, e4, rfl, ws⟩ := DataW.trod_string Tryz.underlying9 h3
  simp at e0 e1 e2 e3 e4
  subst e0 e1 e2 e3 e4
  subst hz
  simp only [Prod.mk.injEq] at hx
  exact ⟨a, b, c, e, s, rfl, hx.1, hx.2, wa, wb, wc, we, ws⟩
theorem shut_op {H : Type} {enc : TypeId × Value → H} {w : World} {base : Nat} {spare : Nat → Bool} {held : Bool} {a b c e : Int} {s : ByteArray}
    (wa : (Lit.int .i64 a).wf = true) (wb : (Lit.int .i64 b).wf = true) (wc : (Lit.int .i64 c).wf = true) (we : (Lit.int .i64 e).wf = true) (ws : s.size ≤ maxLen) :
    DataW.Trod enc Tryz.prog w base spare held 50 (.agg #[.int .i64 a, .int .i64 b, .int .i64 c, .int .i64 e, .string s]) (.agg [.agg [.lit (.int .i64 a), .lit (.int .i64 b)], .lit (.int .i64 c), .lit (.int .i64 e), .lit (.string s.data.toList)]) [] := by
  have u3 := Tryz.underlying3
  have u9 := Tryz.underlying9
  have hat : DataW.trod enc Tryz.prog w base spare held 2 48 [.int .i64 a, .int .i64 b] = some (.agg [.lit (.int .i64 a), .lit (.int .i64 b)], []) := by
    have := trod_struct2_mk (enc := enc) (w := w) (base := base) (spare := spare) (held := held) (n := 1) (cs := [.int .i64 a, .int .i64 b]) (y0 := (.lit (.int .i64 a), [])) (y1 := (.lit (.int .i64 b), [])) Tryz.underlying48 (by rw [cells_st]; rfl)
      (by simp [cells_in, DataW.trod, u3, wa]) (by simp [cells_in, DataW.trod, u3, wb])
    simpa using this
  refine ⟨3, ?_⟩
  have := Joins.trod_struct4_mk (enc := enc) (w := w) (base := base) (spare := spare) (held := held) (n := 2) (cs := [.int .i64 a, .int .i64 b, .int .i64 c, .int .i64 e, .string s]) (y0 := (.agg [.lit (.int .i64 a), .lit (.int .i64 b)], [])) (y1 := (.lit (.int .i64 c), [])) (y2 := (.lit (.int .i64 e), [])) (y3 := (.lit (.string s.data.toList), [])) Tryz.underlying50 (by rw [cells_op]; rfl)
    (by simpa [cells_st] using hat) (by simp [cells_in, DataW.trod, u3, wc]) (by simp [cells_in, DataW.trod, u3, we]) (by simp [cells_sg, DataW.trod, u9, ws])
  simpa [Value.cells] using this
end Go.Proofs.YtimfeocaghccdaaGreatDoor
