/-
  An argument that is a small operation (a struct of five bytes): opened and shut. No conditions.
-/
import Derived.Test.YtimfeocaghccdaaGreatDoorOpArg
namespace Go.Proofs.YtimfeocaghccdaaGreatDoor
set_option maxRecDepth 100000
open Go.RowKit Go.ChangeShapes Go.WideShapes
set_option linter.unusedVariables false

theorem cells_u8 : Tryz.prog.cellsOf 5 = 1 := by kernel_rfl
theorem cells_tn : Tryz.prog.cellsOf 58 = 5 := by kernel_rfl
theorem open_tiny {H : Type} {enc : TypeId × Value → H} {w : World} {base : Nat} {spare : Nat → Bool} {held : Bool} {r : Reach} {b0 : Nat} {v : Value} {d : DataW H} {p : List MemPlace}
    (hv : Value.okWide Tryz.prog w r b0 58 v) (h : DataW.Trod enc Tryz.prog w base spare held 58 v d p) :
    ∃ (a b c e f : Int), v = .agg #[.int .u8 a, .int .u8 b, .int .u8 c, .int .u8 e, .int .u8 f] ∧ d = .agg [.lit (.int .u8 a), .lit (.int .u8 b), .lit (.int .u8 c), .lit (.int .u8 e), .lit (.int .u8 f)] ∧ p = [] ∧
      (Lit.int .u8 a).wf = true ∧ (Lit.int .u8 b).wf = true ∧ (Lit.int .u8 c).wf = true ∧ (Lit.int .u8 e).wf = true ∧ (Lit.int .u8 f).wf = true := by
  obtain ⟨cs, rfl, hsz⟩ := okWide_struct Tryz.underlying58 hv
  obtain ⟨c0, c1, c2, c3, c4, rfl⟩ := array5 (hsz.trans cells_tn)
  obtain ⟨fuel, hf⟩ := h
  obtain ⟨xs, n, _, hx, _, hlen, hg⟩ := DataW.trod_struct Tryz.underlying58 hf
  match xs, hlen with
  | [y0, y1, y2, y3, y4], _ =>
    have h0 := hg 0 _ rfl
    have h1 := hg 1 _ rfl
    have h2 := hg 2 _ rfl
    have h3 := hg 3 _ rfl
    have h4 := hg 4 _ rfl
    simp [Value.cells, cells_u8] at h0 h1 h2 h3 h4
    obtain ⟨a, e0, rfl, wa⟩ := DataW.trod_int Tryz.underlying5 h0
    obtain ⟨b, e1, rfl, wb⟩ := DataW.trod_int Tryz.underlying5 h1
    obtain ⟨c, e2, rfl, wc⟩ := DataW.trod_int Tryz.underlying5 h2
    obtain ⟨e, e3, rfl, we⟩ := DataW.trod_int Tryz.underlying5 h3
    obtain ⟨f, e4, rfl, wf⟩ := DataW.trod_int Tryz.underlying5 h4
    simp at e0 e1 e2 e3 e4
    subst e0 e1 e2 e3 e4
    simp only [Prod.mk.injEq] at hx
    exact ⟨a, b, c, e, f, rfl, by simpa using hx.1, by simpa using hx.2, wa, wb, wc, we, wf⟩
theorem shut_tiny {H : Type} {enc : TypeId × Value → H} {w : World} {base : Nat} {spare : Nat → Bool} {held : Bool} {a b c e f : Int}
    (wa : (Lit.int .u8 a).wf = true) (wb : (Lit.int .u8 b).wf = true) (wc : (Lit.int .u8 c).wf = true) (we : (Lit.int .u8 e).wf = true) (wf : (Lit.int .u8 f).wf = true) :
    DataW.Trod enc Tryz.prog w base spare held 58 (.agg #[.int .u8 a, .int .u8 b, .int .u8 c, .int .u8 e, .int .u8 f]) (.agg [.lit (.int .u8 a), .lit (.int .u8 b), .lit (.int .u8 c), .lit (.int .u8 e), .lit (.int .u8 f)]) [] := by
  have u := Tryz.underlying5
  refine ⟨2, ?_⟩
  have := trod_struct_mk (enc := enc) (w := w) (base := base) (spare := spare) (held := held) (n := 1) (cs := [.int .u8 a, .int .u8 b, .int .u8 c, .int .u8 e, .int .u8 f])
    (xs := [(.lit (.int .u8 a), []), (.lit (.int .u8 b), []), (.lit (.int .u8 c), []), (.lit (.int .u8 e), []), (.lit (.int .u8 f), [])]) Tryz.underlying58 (by rw [cells_tn]; rfl)
    (by simp [cells_u8, DataW.trod, u, wa, wb, wc, we, wf])
  simpa [Value.cells] using this
end Go.Proofs.YtimfeocaghccdaaGreatDoor
