/-
  Arguments that are slices of acts on versions: opened. No conditions.
-/
import Derived.Test.YtcckamajiebgeaaHRow
import Derived.Deep.Slices
import Derived.ChangeSame
import Derived.ProofKit
namespace Go.Proofs.Ytcckamajiebgeaa
open Go.RowKit Go.ChangeShapes Go.WideShapes Go.Deep
set_option linter.unusedVariables false
set_option maxRecDepth 100000

theorem pickAll {α : Type} (n : Nat) (p : Nat → α → Prop) (h : ∀ i, i < n → ∃ z, p i z) : ∃ zs : List α, zs.length = n ∧ ∀ i (hi : i < zs.length), p i zs[i] := by
  induction n with
  | zero => exact ⟨[], rfl, by intro i hi; simp at hi⟩
  | succ n ih =>
    obtain ⟨zs, hl, hz⟩ := ih (fun i hi => h i (by omega))
    obtain ⟨z, hp⟩ := h n (by omega)
    refine ⟨zs ++ [z], by simp [hl], fun i hi => ?_⟩
    by_cases hin : i < zs.length
    · rw [List.getElem_append_left hin]; exact hz i hin
    · obtain rfl : i = zs.length := by simp at hi; omega
      simp
      rw [hl]
      exact hp
/-- An act: taken or put, its key, its value, of which version, of an old one. -/
structure Ap where
  d : Bool
  k : Nat
  v : Nat
  o : Nat
  q : Bool
def Ap.ok (a : Ap) : Prop := a.k < 256 ∧ a.v < 256 ∧ a.o < 256
theorem cells_act : Try.prog.cellsOf 32 = 5 := by kernel_rfl
theorem cells_bo : Try.prog.cellsOf 4 = 1 := by kernel_rfl
theorem cells_u8 : Try.prog.cellsOf 5 = 1 := by kernel_rfl
/-- An act in its cells. -/
def ApAt (w : World) (b o : Nat) (x : Ap) : Prop := w.cell? ⟨b, o, none⟩ = some (.bool x.d) ∧ w.cell? ⟨b, o + 1, none⟩ = some (.int .u8 (x.k : Int)) ∧ w.cell? ⟨b, o + 2, none⟩ = some (.int .u8 (x.v : Int)) ∧ w.cell? ⟨b, o + 3, none⟩ = some (.int .u8 (x.o : Int)) ∧ w.cell? ⟨b, o + 4, none⟩ = some (.bool x.q)
theorem ApAt.below {w w' : World} {b o : Nat} {x : Ap} (h : ApAt w b o x) {B : Nat} (hB : b < B) (hb : Below B w w') : ApAt w' b o x :=
  ⟨(hb.cell hB).trans h.1, (hb.cell hB).trans h.2.1, (hb.cell hB).trans h.2.2.1, (hb.cell hB).trans h.2.2.2.1, (hb.cell hB).trans h.2.2.2.2⟩
/-- A slice of acts that came in. -/
structure IsAps (w : World) (a : Option Addr) (len cap : Nat) (l : List Ap) : Prop where
  leq : l.length = len
  le : len ≤ cap
  most : cap ≤ maxLen
  ok : ∀ x ∈ l, x.ok
  lit : 0 < len → ∃ b o, a = some ⟨b, o, none⟩ ∧ ∀ j (h : j < l.length), ApAt w b (o + j * 5) l[j]
/-- An act that came in, in each world behind. -/
theorem IsAps.at {W : World} {a : Option Addr} {cap : Nat} {l : List Ap} (h : IsAps W a l.length cap l) {i : Nat} (hi : i < l.length) : ∃ b o, a = some ⟨b, o, none⟩ ∧ ∀ V, Below W.heap.size W V → ApAt V b (o + i * 5) l[i] := by
  obtain ⟨b, o, e, hat⟩ := h.lit (by omega)
  exact ⟨b, o, e, fun V hV => (hat i hi).below (World.block_lt_of_cell? W _ (hat i hi).1) hV⟩
theorem open_raw0 {H : Type} {enc : TypeId × Value → H} {base : Nat} {spare : Nat → Bool} {held : Bool} {d : DataW H} {p : List MemPlace} (w : World) (a : Option Addr) (len cap : Nat)
    (h : DataW.Trod enc Try.prog w base spare held 22 (.slice a len cap) d p) : ∃ l, IsAps w a len cap l := by
  obtain ⟨fuel, hf⟩ := h
  rcases open_slice Try.underlying22 hf with ⟨hcs, _⟩ | ⟨x, l, c, m, n, D, Pl, hcs, _, hl, hm, hmm, _, hi⟩
  · simp [Value.cells] at hcs
    obtain ⟨rfl, rfl, rfl⟩ := hcs
    exact ⟨[], rfl, Nat.le_refl _, Nat.zero_le _, by simp, by simp⟩
  · simp [Value.cells] at hcs
    obtain ⟨rfl, rfl, rfl⟩ := hcs
    have hlm : len ≤ m := by rw [hmm]; split <;> omega
    have hx : ∀ i, i < len → ∃ z : Ap, (w.cell? (x.add (i * 5)) = some (.bool z.d) ∧ w.cell? ((x.add (i * 5)).add 1) = some (.int .u8 (z.k : Int)) ∧ w.cell? ((x.add (i * 5)).add 2) = some (.int .u8 (z.v : Int)) ∧ w.cell? ((x.add (i * 5)).add 3) = some (.int .u8 (z.o : Int)) ∧ w.cell? ((x.add (i * 5)).add 4) = some (.bool z.q)) ∧ z.ok := by
      intro i hilt
      obtain ⟨cs', hc, ht⟩ := hi i (by omega)
      rw [cells_act] at hc
      obtain ⟨_, hcl, hat⟩ := World.cells?_some hc
      match cs', hcl with
      | [u0, u1, u2, u3, u4], _ =>
        obtain ⟨xs, n, _, hx, _, hlen, hg⟩ := DataW.trod_struct Try.underlying32 ht
        match xs, hlen with
        | [y0, y1, y2, y3, y4], _ =>
          have h0 := hg 0 _ rfl
          have h1 := hg 1 _ rfl
          have h2 := hg 2 _ rfl
          have h3 := hg 3 _ rfl
          have h4 := hg 4 _ rfl
          simp [cells_bo, cells_u8] at h0 h1 h2 h3 h4
          obtain ⟨q0, e0, _⟩ := DataW.trod_bool Try.underlying4 h0
          obtain ⟨q1, e1, _, w1⟩ := DataW.trod_int Try.underlying5 h1
          obtain ⟨q2, e2, _, w2⟩ := DataW.trod_int Try.underlying5 h2
          obtain ⟨q3, e3, _, w3⟩ := DataW.trod_int Try.underlying5 h3
          obtain ⟨q4, e4, _⟩ := DataW.trod_bool Try.underlying4 h4
          simp at e0 e1 e2 e3 e4
          subst e0 e1 e2 e3 e4
          have b1 := bounds_u8 w1
          have b2 := bounds_u8 w2
          have b3 := bounds_u8 w3
          obtain ⟨q1, rfl⟩ : ∃ n : Nat, q1 = n := ⟨q1.toNat, by omega⟩
          obtain ⟨q2, rfl⟩ : ∃ n : Nat, q2 = n := ⟨q2.toNat, by omega⟩
          obtain ⟨q3, rfl⟩ : ∃ n : Nat, q3 = n := ⟨q3.toNat, by omega⟩
          have a0 := hat 0 (by omega)
          have a1 := hat 1 (by omega)
          have a2 := hat 2 (by omega)
          have a3 := hat 3 (by omega)
          have a4 := hat 4 (by omega)
          exact ⟨⟨q0, q1, q2, q3, q4⟩, ⟨by simpa [Addr.add] using a0, by simpa using a1, by simpa using a2, by simpa using a3, by simpa using a4⟩, by show q1 < 256; omega, by show q2 < 256; omega, by show q3 < 256; omega⟩
    obtain ⟨zs, hzl, hz⟩ := pickAll len _ hx
    refine ⟨zs, hzl, hl, hm, ?_, fun hp => ?_⟩
    · intro z hzm
      obtain ⟨i, hi, rfl⟩ := List.getElem_of_mem hzm
      exact (hz i hi).2
    · obtain ⟨b, o, spot⟩ := x
      have e0 := (hz 0 (by omega)).1.1
      obtain rfl : spot = none := by simpa [Addr.add] using World.cell?_spot e0
      refine ⟨b, o, rfl, fun j hj => ?_⟩
      have := (hz j hj).1
      simp only [Addr.add_lit] at this
      exact this
end Go.Proofs.Ytcckamajiebgeaa
