/-
  Arguments that are slices of acts (of a kind, a number, and handles): opened. No conditions.
-/
import Derived.Test.YtbfbnfnjjlibbaaHRow
import Derived.Deep.Slices
import Derived.ChangeSame
import Derived.ProofKit
namespace Go.Proofs.Ytbfbnfnjjlibbaa
open Go.RowKit Go.ChangeShapes Go.WideShapes Go.Deep
set_option linter.unusedVariables false
set_option maxRecDepth 100000

theorem pickAll {α : Type} (n : Nat) (p : Nat → α → Prop) (h : ∀ i, i < n → ∃ z, p i z) : ∃ zs : List α, zs.length = n ∧ ∀ i (hi : i < zs.length), p i zs[i] := by
  induction n with
  | zero => exact ⟨[], rfl, by intro i hi; simp at hi⟩
  | succ n ih =>
    obtain ⟨zs, hl, hz⟩ := ih (fun i hi => h i (by omega))
    obtain ⟨z, hp⟩ := h n (by omega)
    refine ⟨zs ++ [z], by simp [hl], fun i hi => ?_⟩
    by_cases hin : i < zs.length
    · rw [List.getElem_append_left hin]; exact hz i hin
    · obtain rfl : i = zs.length := by simp at hi; omega
      simp
      rw [hl]
      exact hp
/-- An act: its kind, its number, its handles and where they lie. -/
structure Ec where
  k : Int
  n : Int
  a : Option Addr
  c : Nat
  l : List (Int × Int)
theorem cells_act : Try.prog.cellsOf 33 = 3 := by kernel_rfl
theorem cells_hd : Try.prog.cellsOf 43 = 2 := by kernel_rfl
theorem cells_hl : Try.prog.cellsOf 27 = 1 := by kernel_rfl
theorem cells_in : Try.prog.cellsOf 3 = 1 := by kernel_rfl
theorem bounds_in {n : Int} (h : (Lit.int .i64 n).wf = true) : i64B n := by
  have := bounds_i64 h
  unfold i64B
  omega
/-- A slice of handles that came in. -/
structure IsHs (w : World) (a : Option Addr) (len cap : Nat) (l : List (Int × Int)) : Prop where
  leq : l.length = len
  hs : (a = none → cap = 0) → Hs w a cap l
  nz : a = none → cap = 0
  bd : ∀ x ∈ l, i64B x.1 ∧ i64B x.2
theorem hs_of {H : Type} {enc : TypeId × Value → H} {base : Nat} {spare : Nat → Bool} {held : Bool} {x0 : DataW H × List MemPlace} {fuel : Nat} (w : World) (a : Option Addr) (len cap : Nat)
    (hf : DataW.trod enc Try.prog w base spare held fuel 27 [.slice a len cap] = some x0) : ∃ l, IsHs w a len cap l := by
  rcases open_slice Try.underlying27 hf with ⟨hcs, _⟩ | ⟨x, l, c, m, n, D, Pl, hcs, _, hl, hm, hmm, _, hi⟩
  · simp at hcs
    obtain ⟨rfl, rfl, rfl⟩ := hcs
    exact ⟨[], rfl, fun h => ⟨fun _ => ⟨rfl, h rfl⟩, Nat.le_refl _, Nat.zero_le _, by simp⟩, fun _ => rfl, by simp⟩
  · simp at hcs
    obtain ⟨rfl, rfl, rfl⟩ := hcs
    have hlm : len ≤ m := by rw [hmm]; split <;> omega
    have hx : ∀ i, i < len → ∃ z : Int × Int, (w.cell? (x.add (i * 2)) = some (.int .i64 z.1) ∧ w.cell? ((x.add (i * 2)).add 1) = some (.int .i64 z.2)) ∧ i64B z.1 ∧ i64B z.2 := by
      intro i hilt
      obtain ⟨cs', hc, ht⟩ := hi i (by omega)
      rw [cells_hd] at hc
      obtain ⟨_, hcl, hat⟩ := World.cells?_some hc
      match cs', hcl with
      | [u0, u1], _ =>
        obtain ⟨z0, z1, n'', _, _, g0, g1⟩ := trod_struct2 Try.underlying43 ht
        simp [cells_in] at g0 g1
        obtain ⟨q0, e0, _, w0⟩ := DataW.trod_int Try.underlying3 g0
        obtain ⟨q1, e1, _, w1⟩ := DataW.trod_int Try.underlying3 g1
        simp at e0 e1
        subst e0 e1
        have a0 := hat 0 (by omega)
        have a1 := hat 1 (by omega)
        exact ⟨(q0, q1), ⟨by simpa [Addr.add] using a0, by simpa using a1⟩, bounds_in w0, bounds_in w1⟩
    obtain ⟨zs, hzl, hz⟩ := pickAll len _ hx
    refine ⟨zs, hzl, fun _ => ⟨(by intro h; cases h), by omega, hm, fun hp => ?_⟩, (by intro h; cases h), ?_⟩
    · obtain ⟨b, o, spot⟩ := x
      have e0 := (hz 0 (by omega)).1.1
      obtain rfl : spot = none := by simpa [Addr.add] using World.cell?_spot e0
      refine ⟨b, o, rfl, fun j u hu => ?_⟩
      have hj : j < zs.length * 2 := by
        have := (List.getElem?_eq_some_iff.1 hu).1
        rwa [hcs_length] at this
      have hq : j / 2 < zs.length := by omega
      obtain ⟨c0, c1⟩ := (hz (j / 2) hq).1
      simp only [Addr.add_lit] at c0 c1
      have e := hcs_at zs (j / 2) (j % 2) hq (by omega)
      rw [show j / 2 * 2 + j % 2 = j by omega, hu] at e
      have hm : j % 2 = 0 ∨ j % 2 = 1 := by omega
      rcases hm with hm | hm <;> rw [hm] at e <;> simp [hcv] at e <;> subst e
      · rw [show o + j = o + j / 2 * 2 by omega]; exact c0
      · rw [show o + j = o + j / 2 * 2 + 1 by omega]; exact c1
    · intro z hzm
      obtain ⟨i, hi, rfl⟩ := List.getElem_of_mem hzm
      exact (hz i hi).2
/-- A slice of acts that came in. -/
structure IsEcs (w : World) (a : Option Addr) (len cap : Nat) (l : List Ec) : Prop where
  leq : l.length = len
  le : len ≤ cap
  most : cap ≤ maxLen
  ok : ∀ x ∈ l, i64B x.k ∧ i64B x.n ∧ Hs w x.a x.c x.l ∧ ∀ y ∈ x.l, i64B y.1 ∧ i64B y.2
  lit : 0 < len → ∃ b o, a = some ⟨b, o, none⟩ ∧ ∀ j (h : j < l.length), w.cell? ⟨b, o + j * 3, none⟩ = some (.int .i64 l[j].k) ∧ w.cell? ⟨b, o + j * 3 + 1, none⟩ = some (.int .i64 l[j].n) ∧ w.cell? ⟨b, o + j * 3 + 2, none⟩ = some (.slice l[j].a l[j].l.length l[j].c)
theorem open_raw0 {H : Type} {enc : TypeId × Value → H} {base : Nat} {spare : Nat → Bool} {held : Bool} {d : DataW H} {p : List MemPlace} (w : World) (a : Option Addr) (len cap : Nat)
    (h : DataW.Trod enc Try.prog w base spare held 22 (.slice a len cap) d p) : ∃ l, IsEcs w a len cap l := by
  obtain ⟨fuel, hf⟩ := h
  rcases open_slice Try.underlying22 hf with ⟨hcs, _⟩ | ⟨x, l, c, m, n, D, Pl, hcs, _, hl, hm, hmm, _, hi⟩
  · simp [Value.cells] at hcs
    obtain ⟨rfl, rfl, rfl⟩ := hcs
    exact ⟨[], rfl, Nat.le_refl _, Nat.zero_le _, by simp, by simp⟩
  · simp [Value.cells] at hcs
    obtain ⟨rfl, rfl, rfl⟩ := hcs
    have hlm : len ≤ m := by rw [hmm]; split <;> omega
    have hx : ∀ i, i < len → ∃ z : Ec, (w.cell? (x.add (i * 3)) = some (.int .i64 z.k) ∧ w.cell? ((x.add (i * 3)).add 1) = some (.int .i64 z.n) ∧ w.cell? ((x.add (i * 3)).add 2) = some (.slice z.a z.l.length z.c)) ∧ i64B z.k ∧ i64B z.n ∧ Hs w z.a z.c z.l ∧ ∀ y ∈ z.l, i64B y.1 ∧ i64B y.2 := by
      intro i hilt
      obtain ⟨cs', hc, ht⟩ := hi i (by omega)
      rw [cells_act] at hc
      obtain ⟨_, hcl, hat⟩ := World.cells?_some hc
      match cs', hcl with
      | [u0, u1, u2], _ =>
        obtain ⟨xs, n, _, hx, _, hlen, hg⟩ := DataW.trod_struct Try.underlying33 ht
        match xs, hlen with
        | [y0, y1, y2], _ =>
          have h0 := hg 0 _ rfl
          have h1 := hg 1 _ rfl
          have h2 := hg 2 _ rfl
          simp [cells_in, cells_hl] at h0 h1 h2
          obtain ⟨q0, e0, _, w0⟩ := DataW.trod_int Try.underlying3 h0
          obtain ⟨q1, e1, _, w1⟩ := DataW.trod_int Try.underlying3 h1
          simp at e0 e1
          subst e0 e1
          have a0 := hat 0 (by omega)
          have a1 := hat 1 (by omega)
          have a2 := hat 2 (by omega)
          have hsl : ∃ A L C, u2 = .slice A L C := by
            rcases open_slice Try.underlying27 h2 with ⟨hcs, _⟩ | ⟨x, l, c, m, n, D, Pl, hcs, _⟩
            · simp at hcs
              exact ⟨_, _, _, hcs⟩
            · simp at hcs
              exact ⟨_, _, _, hcs⟩
          obtain ⟨A, Ln, C, rfl⟩ := hsl
          obtain ⟨hl, hH⟩ := hs_of w A Ln C h2
          obtain rfl := hH.leq
          exact ⟨⟨q0, q1, A, C, hl⟩, ⟨by simpa [Addr.add] using a0, by simpa using a1, by simpa using a2⟩, bounds_in w0, bounds_in w1, hH.hs hH.nz, hH.bd⟩
    obtain ⟨zs, hzl, hz⟩ := pickAll len _ hx
    refine ⟨zs, hzl, hl, hm, ?_, fun hp => ?_⟩
    · intro z hzm
      obtain ⟨i, hi, rfl⟩ := List.getElem_of_mem hzm
      exact (hz i hi).2
    · obtain ⟨b, o, spot⟩ := x
      have e0 := (hz 0 (by omega)).1.1
      obtain rfl : spot = none := by simpa [Addr.add] using World.cell?_spot e0
      refine ⟨b, o, rfl, fun j hj => ?_⟩
      have := (hz j hj).1
      simp only [Addr.add_lit] at this
      exact this
end Go.Proofs.Ytbfbnfnjjlibbaa
