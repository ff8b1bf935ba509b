/-
  What is known of a slice of asks (a bool and an integer each) that was handed in. No conditions beyond those of a reading.
-/
import Derived.Test.YtainkbcjfhejmaaArgs
import Derived.Deep.Slices
import Derived.ChangeSame
import Derived.ProofKit
namespace Go.Proofs.Ytainkbcjfhejmaa
open Go.RowKit Go.ChangeShapes Go.WideShapes Go.Deep
set_option linter.unusedVariables false

/-- A slice of asks that came in. -/
def IsAsks (w : World) (a : Option Addr) (len cap : Nat) (zs : List (Bool × Int)) : Prop :=
  zs.length = len ∧ len ≤ cap ∧ cap ≤ maxLen ∧ (len = 0 ∨ ∃ b o, a = some ⟨b, o, none⟩ ∧ ∀ j (h : j < zs.length), w.cell? ⟨b, o + j * 2, none⟩ = some (.bool zs[j].1) ∧ w.cell? ⟨b, o + j * 2 + 1, none⟩ = some (.int .i64 zs[j].2))

theorem askCells : Try.prog.cellsOf 36 = 2 := by kernel_rfl

theorem pick_all (n : Nat) (p : Nat → Bool × Int → Prop) (h : ∀ i, i < n → ∃ z, p i z) : ∃ zs : List (Bool × Int), zs.length = n ∧ ∀ i (hi : i < zs.length), p i zs[i] := by
  induction n with
  | zero => exact ⟨[], rfl, by intro i hi; simp at hi⟩
  | succ n ih =>
    obtain ⟨zs, hl, hz⟩ := ih (fun i hi => h i (by omega))
    obtain ⟨z, hp⟩ := h n (by omega)
    refine ⟨zs ++ [z], by simp [hl], fun i hi => ?_⟩
    by_cases hin : i < zs.length
    · rw [List.getElem_append_left hin]; exact hz i hin
    · obtain rfl : i = zs.length := by simp at hi; omega
      simp
      rw [hl]
      exact hp

theorem open_raw1 {H : Type} {enc : TypeId × Value → H} {base : Nat} {spare : Nat → Bool} {held : Bool} {d : DataW H} {p : List MemPlace} (w : World) (a : Option Addr) (len cap : Nat)
    (h : DataW.Trod enc Try.prog w base spare held 28 (.slice a len cap) d p) : ∃ zs, IsAsks w a len cap zs := by
  obtain ⟨fuel, hf⟩ := h
  rcases open_slice Try.underlying28 hf with ⟨hcs, _⟩ | ⟨x, l, c, m, n, D, Pl, hcs, _, hl, hm, hmm, _, hi⟩
  · simp [Value.cells] at hcs
    obtain ⟨rfl, rfl, rfl⟩ := hcs
    exact ⟨[], rfl, Nat.le_refl _, Nat.zero_le _, .inl rfl⟩
  · simp [Value.cells] at hcs
    obtain ⟨rfl, rfl, rfl⟩ := hcs
    have hlm : len ≤ m := by rw [hmm]; split <;> omega
    have hx : ∀ i, i < len → ∃ z : Bool × Int, w.cell? (x.add (i * 2)) = some (.bool z.1) ∧ w.cell? ((x.add (i * 2)).add 1) = some (.int .i64 z.2) := by
      intro i hilt
      obtain ⟨cs', hc, ht⟩ := hi i (by omega)
      rw [askCells] at hc
      obtain ⟨_, hcl, hat⟩ := World.cells?_some hc
      match cs', hcl with
      | [u0, u1], _ =>
        obtain ⟨y0, y1, n', _, _, h0, h1⟩ := trod_struct2 Try.underlying36 ht
        have k0 : Try.prog.cellsOf 4 = 1 := by kernel_rfl
        have k1 : Try.prog.cellsOf 3 = 1 := by kernel_rfl
        simp only [k0, k1, List.drop_zero, List.drop_succ_cons, List.take_succ_cons, List.take_zero] at h0 h1
        obtain ⟨b0, e0, _⟩ := DataW.trod_bool Try.underlying4 h0
        obtain ⟨z1, e1, _, _⟩ := DataW.trod_int Try.underlying3 h1
        simp only [List.cons.injEq, and_true] at e0 e1
        subst e0 e1
        have a0 := hat 0 (by omega)
        have a1 := hat 1 (by omega)
        refine ⟨(b0, z1), ?_, by simpa using a1⟩
        simpa [Addr.add] using a0
    obtain ⟨zs, hzl, hz⟩ := pick_all len _ hx
    refine ⟨zs, hzl, hl, hm, ?_⟩
    rcases Nat.eq_zero_or_pos len with h0 | h0
    · exact .inl h0
    · obtain ⟨b, o, spot⟩ := x
      have e0 := (hz 0 (by omega)).1
      obtain rfl : spot = none := by simpa [Addr.add] using World.cell?_spot e0
      refine .inr ⟨b, o, rfl, fun j hj => ?_⟩
      have := hz j hj
      rw [Addr.add_lit, Addr.add_lit] at this
      exact this
end Go.Proofs.Ytainkbcjfhejmaa
