/-
  Arguments that are slices of operations, of small ones, and of slices of small ones: opened. No conditions.
-/
import Derived.Test.YtimfeocaghccdaaGreatDoorWOps
import Derived.Test.YtimfeocaghccdaaGreatDoorOpTiny
import Derived.Deep.Slices
import Derived.ChangeSame
import Derived.ProofKit
namespace Go.Proofs.YtimfeocaghccdaaGreatDoor
set_option maxRecDepth 100000
open Go.RowKit Go.ChangeShapes Go.WideShapes Go.Deep
set_option linter.unusedVariables false
set_option maxRecDepth 100000

theorem pickAll {α : Type} (n : Nat) (p : Nat → α → Prop) (h : ∀ i, i < n → ∃ z, p i z) : ∃ zs : List α, zs.length = n ∧ ∀ i (hi : i < zs.length), p i zs[i] := by
  induction n with
  | zero => exact ⟨[], rfl, by intro i hi; simp at hi⟩
  | succ n ih =>
    obtain ⟨zs, hl, hz⟩ := ih (fun i hi => h i (by omega))
    obtain ⟨z, hp⟩ := h n (by omega)
    refine ⟨zs ++ [z], by simp [hl], fun i hi => ?_⟩
    by_cases hin : i < zs.length
    · rw [List.getElem_append_left hin]; exact hz i hin
    · obtain rfl : i = zs.length := by simp at hi; omega
      simp
      rw [hl]
      exact hp
theorem bs_back (s : ByteArray) : bs s.data.toList = s := by cases s; simp [bs]
/-- A slice of operations that came in. -/
def IsOps (w : World) (a : Option Addr) (len cap : Nat) (os : List O5) : Prop := os.length = len ∧ Ops w a cap os ∧ ∀ o ∈ os, o.l.length ≤ maxLen
theorem Ops.of_five {w : World} {b o c : Nat} {os : List O5} (hl : os.length ≤ c) (hm : c ≤ maxLen)
    (h : ∀ j (hj : j < os.length), w.cell? ⟨b, o + j * 5, none⟩ = some (.int .i64 os[j].n) ∧ w.cell? ⟨b, o + j * 5 + 1, none⟩ = some (.int .i64 os[j].r) ∧ w.cell? ⟨b, o + j * 5 + 2, none⟩ = some (.int .i64 os[j].d) ∧ w.cell? ⟨b, o + j * 5 + 3, none⟩ = some (.int .i64 os[j].t) ∧ w.cell? ⟨b, o + j * 5 + 4, none⟩ = some (.string (bs os[j].l))) :
    Ops w (some ⟨b, o, none⟩) c os := by
  refine ⟨(by intro h; cases h), hl, hm, fun _ => ⟨b, o, rfl, fun j u hu => ?_⟩⟩
  have hj : j < os.length * 5 := by
    have := (List.getElem?_eq_some_iff.1 hu).1
    rwa [ocs_length] at this
  have hq : j / 5 < os.length := by omega
  obtain ⟨c0, c1, c2, c3, c4⟩ := h (j / 5) hq
  have e := ocs_at os (j / 5) (j % 5) hq (by omega)
  rw [show j / 5 * 5 + j % 5 = j by omega, hu] at e
  have hm : j % 5 = 0 ∨ j % 5 = 1 ∨ j % 5 = 2 ∨ j % 5 = 3 ∨ j % 5 = 4 := by omega
  rcases hm with hm | hm | hm | hm | hm <;> rw [hm] at e <;> simp [oc] at e <;> subst e
  · rw [show o + j = o + j / 5 * 5 by omega]; exact c0
  · rw [show o + j = o + j / 5 * 5 + 1 by omega]; exact c1
  · rw [show o + j = o + j / 5 * 5 + 2 by omega]; exact c2
  · rw [show o + j = o + j / 5 * 5 + 3 by omega]; exact c3
  · rw [show o + j = o + j / 5 * 5 + 4 by omega]; exact c4
theorem open_ops {H : Type} {enc : TypeId × Value → H} {base : Nat} {spare : Nat → Bool} {held : Bool} {d : DataW H} {p : List MemPlace} (w : World) (a : Option Addr) (len cap : Nat)
    (h : DataW.Trod enc Tryz.prog w base spare held 27 (.slice a len cap) d p) : ∃ os, IsOps w a len cap os := by
  obtain ⟨fuel, hf⟩ := h
  rcases open_slice Tryz.underlying27 hf with ⟨hcs, _⟩ | ⟨x, l, c, m, n, D, Pl, hcs, _, hl, hm, hmm, _, hi⟩
  · simp [Value.cells] at hcs
    obtain ⟨rfl, rfl, rfl⟩ := hcs
    exact ⟨[], rfl, ⟨fun _ => rfl, Nat.le_refl _, Nat.zero_le _, by simp⟩, by simp⟩
  · simp [Value.cells] at hcs
    obtain ⟨rfl, rfl, rfl⟩ := hcs
    have hlm : len ≤ m := by rw [hmm]; split <;> omega
    have hx : ∀ i, i < len → ∃ z : O5, (w.cell? (x.add (i * 5)) = some (.int .i64 z.n) ∧ w.cell? ((x.add (i * 5)).add 1) = some (.int .i64 z.r) ∧ w.cell? ((x.add (i * 5)).add 2) = some (.int .i64 z.d) ∧ w.cell? ((x.add (i * 5)).add 3) = some (.int .i64 z.t) ∧ w.cell? ((x.add (i * 5)).add 4) = some (.string (bs z.l))) ∧ z.l.length ≤ maxLen := by
      intro i hilt
      obtain ⟨cs', hc, ht⟩ := hi i (by omega)
      rw [cells_op] at hc
      obtain ⟨_, hcl, hat⟩ := World.cells?_some hc
      match cs', hcl with
      | [u0, u1, u2, u3, u4], _ =>
        obtain ⟨y0, y1, y2, y3, n', _, _, h0, h1, h2, h3⟩ := Joins.trod_struct4 Tryz.underlying50 ht
        simp [cells_st, cells_in, cells_sg] at h0 h1 h2 h3
        obtain ⟨z0, z1, n'', _, _, g0, g1⟩ := trod_struct2 Tryz.underlying48 h0
        simp [cells_in] at g0 g1
        obtain ⟨q0, e0, _, _⟩ := DataW.trod_int Tryz.underlying3 g0
        obtain ⟨q1, e1, _, _⟩ := DataW.trod_int Tryz.underlying3 g1
        obtain ⟨q2, e2, _, _⟩ := DataW.trod_int Tryz.underlying3 h1
        obtain ⟨q3, e3, _, _⟩ := DataW.trod_int Tryz.underlying3 h2
        obtain ⟨s, e4, _, ws⟩ := DataW.trod_string Tryz.underlying9 h3
        simp at e0 e1 e2 e3 e4
        subst e0 e1 e2 e3 e4
        have a0 := hat 0 (by omega)
        have a1 := hat 1 (by omega)
        have a2 := hat 2 (by omega)
        have a3 := hat 3 (by omega)
        have a4 := hat 4 (by omega)
        refine ⟨⟨q0, q1, q2, q3, s.data.toList⟩, ⟨by simpa [Addr.add] using a0, by simpa using a1, by simpa using a2, by simpa using a3, ?_⟩, by simpa using ws⟩
        rw [bs_back]
        simpa using a4
    obtain ⟨zs, hzl, hz⟩ := pickAll len _ hx
    have hN : ∀ o ∈ zs, o.l.length ≤ maxLen := by
      intro o ho
      obtain ⟨i, hi, rfl⟩ := List.getElem_of_mem ho
      exact (hz i hi).2
    refine ⟨zs, hzl, ?_, hN⟩
    rcases Nat.eq_zero_or_pos len with h0 | h0
    · have : zs = [] := List.length_eq_zero_iff.1 (by omega)
      subst this
      exact ⟨fun _ => rfl, Nat.zero_le _, hm, by simp⟩
    · obtain ⟨b, o, spot⟩ := x
      have e0 := (hz 0 (by omega)).1.1
      obtain rfl : spot = none := by simpa [Addr.add] using World.cell?_spot e0
      refine Ops.of_five (by omega) hm fun j hj => ?_
      have := (hz j hj).1
      simp only [Addr.add_lit] at this
      exact this
end Go.Proofs.YtimfeocaghccdaaGreatDoor
