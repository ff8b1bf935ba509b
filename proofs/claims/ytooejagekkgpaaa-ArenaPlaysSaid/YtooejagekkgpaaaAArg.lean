/-
  Arguments that are slices of acts: opened. No conditions.
-/
import Derived.Test.YtooejagekkgpaaaALaw
import Derived.Deep.Slices
import Derived.ChangeSame
import Derived.ProofKit
namespace Go.Proofs.Ytooejagekkgpaaa
open Go.RowKit Go.ChangeShapes Go.WideShapes Go.Deep
set_option linter.unusedVariables false
set_option maxRecDepth 100000

theorem pickAll {α : Type} (n : Nat) (p : Nat → α → Prop) (h : ∀ i, i < n → ∃ z, p i z) : ∃ zs : List α, zs.length = n ∧ ∀ i (hi : i < zs.length), p i zs[i] := by
  induction n with
  | zero => exact ⟨[], rfl, by intro i hi; simp at hi⟩
  | succ n ih =>
    obtain ⟨zs, hl, hz⟩ := ih (fun i hi => h i (by omega))
    obtain ⟨z, hp⟩ := h n (by omega)
    refine ⟨zs ++ [z], by simp [hl], fun i hi => ?_⟩
    by_cases hin : i < zs.length
    · rw [List.getElem_append_left hin]; exact hz i hin
    · obtain rfl : i = zs.length := by simp at hi; omega
      simp
      rw [hl]
      exact hp
/-- An act: its kind, its number, its handle. -/
structure Ac where
  k : Int
  n : Int
  s : Int
  t : Int
def Ac.ok (a : Ac) : Prop := i64B a.k ∧ i64B a.n ∧ i64B a.s ∧ i64B a.t
theorem cells_act : Try.prog.cellsOf 33 = 4 := by kernel_rfl
theorem cells_hd : Try.prog.cellsOf 31 = 2 := by kernel_rfl
theorem cells_in : Try.prog.cellsOf 3 = 1 := by kernel_rfl
/-- A slice of acts that came in. -/
structure IsActs (w : World) (a : Option Addr) (len cap : Nat) (l : List Ac) : Prop where
  leq : l.length = len
  le : len ≤ cap
  most : cap ≤ maxLen
  ok : ∀ x ∈ l, x.ok
  lit : 0 < len → ∃ b o, a = some ⟨b, o, none⟩ ∧ ∀ j (h : j < l.length), w.cell? ⟨b, o + j * 4, none⟩ = some (.int .i64 l[j].k) ∧ w.cell? ⟨b, o + j * 4 + 1, none⟩ = some (.int .i64 l[j].n) ∧ w.cell? ⟨b, o + j * 4 + 2, none⟩ = some (.int .i64 l[j].s) ∧ w.cell? ⟨b, o + j * 4 + 3, none⟩ = some (.int .i64 l[j].t)
theorem IsActs.below {w w' : World} {a : Option Addr} {len cap : Nat} {l : List Ac} (h : IsActs w a len cap l) (hb : Below w.heap.size w w') : IsActs w' a len cap l :=
  ⟨h.leq, h.le, h.most, h.ok, fun hp => by
    obtain ⟨b, o, e, hc⟩ := h.lit hp
    exact ⟨b, o, e, fun j hj => ⟨cell_b hb (hc j hj).1, cell_b hb (hc j hj).2.1, cell_b hb (hc j hj).2.2.1, cell_b hb (hc j hj).2.2.2⟩⟩⟩
theorem bounds_in {n : Int} (h : (Lit.int .i64 n).wf = true) : i64B n := by
  have := bounds_i64 h
  unfold i64B
  omega
theorem open_raw1 {H : Type} {enc : TypeId × Value → H} {base : Nat} {spare : Nat → Bool} {held : Bool} {d : DataW H} {p : List MemPlace} (w : World) (a : Option Addr) (len cap : Nat)
    (h : DataW.Trod enc Try.prog w base spare held 22 (.slice a len cap) d p) : ∃ l, IsActs w a len cap l := by
  obtain ⟨fuel, hf⟩ := h
  rcases open_slice Try.underlying22 hf with ⟨hcs, _⟩ | ⟨x, l, c, m, n, D, Pl, hcs, _, hl, hm, hmm, _, hi⟩
  · simp [Value.cells] at hcs
    obtain ⟨rfl, rfl, rfl⟩ := hcs
    exact ⟨[], rfl, Nat.le_refl _, Nat.zero_le _, by simp, by simp⟩
  · simp [Value.cells] at hcs
    obtain ⟨rfl, rfl, rfl⟩ := hcs
    have hlm : len ≤ m := by rw [hmm]; split <;> omega
    have hx : ∀ i, i < len → ∃ z : Ac, (w.cell? (x.add (i * 4)) = some (.int .i64 z.k) ∧ w.cell? ((x.add (i * 4)).add 1) = some (.int .i64 z.n) ∧ w.cell? ((x.add (i * 4)).add 2) = some (.int .i64 z.s) ∧ w.cell? ((x.add (i * 4)).add 3) = some (.int .i64 z.t)) ∧ z.ok := by
      intro i hilt
      obtain ⟨cs', hc, ht⟩ := hi i (by omega)
      rw [cells_act] at hc
      obtain ⟨_, hcl, hat⟩ := World.cells?_some hc
      match cs', hcl with
      | [u0, u1, u2, u3], _ =>
        obtain ⟨xs, n, _, hx, _, hlen, hg⟩ := DataW.trod_struct Try.underlying33 ht
        match xs, hlen with
        | [y0, y1, y2], _ =>
          have h0 := hg 0 _ rfl
          have h1 := hg 1 _ rfl
          have h2 := hg 2 _ rfl
          simp [cells_in, cells_hd] at h0 h1 h2
          obtain ⟨z0, z1, n'', _, _, g0, g1⟩ := trod_struct2 Try.underlying31 h2
          simp [cells_in] at g0 g1
          obtain ⟨q0, e0, _, w0⟩ := DataW.trod_int Try.underlying3 h0
          obtain ⟨q1, e1, _, w1⟩ := DataW.trod_int Try.underlying3 h1
          obtain ⟨q2, e2, _, w2⟩ := DataW.trod_int Try.underlying3 g0
          obtain ⟨q3, e3, _, w3⟩ := DataW.trod_int Try.underlying3 g1
          simp at e0 e1 e2 e3
          subst e0 e1 e2 e3
          have a0 := hat 0 (by omega)
          have a1 := hat 1 (by omega)
          have a2 := hat 2 (by omega)
          have a3 := hat 3 (by omega)
          exact ⟨⟨q0, q1, q2, q3⟩, ⟨by simpa [Addr.add] using a0, by simpa using a1, by simpa using a2, by simpa using a3⟩, bounds_in w0, bounds_in w1, bounds_in w2, bounds_in w3⟩
    obtain ⟨zs, hzl, hz⟩ := pickAll len _ hx
    refine ⟨zs, hzl, hl, hm, ?_, fun hp => ?_⟩
    · intro z hzm
      obtain ⟨i, hi, rfl⟩ := List.getElem_of_mem hzm
      exact (hz i hi).2
    · obtain ⟨b, o, spot⟩ := x
      have e0 := (hz 0 (by omega)).1.1
      obtain rfl : spot = none := by simpa [Addr.add] using World.cell?_spot e0
      refine ⟨b, o, rfl, fun j hj => ?_⟩
      have := (hz j hj).1
      simp only [Addr.add_lit] at this
      exact this
end Go.Proofs.Ytooejagekkgpaaa
