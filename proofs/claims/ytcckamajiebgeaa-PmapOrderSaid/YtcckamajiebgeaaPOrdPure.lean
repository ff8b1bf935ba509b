/-
  Keys put in any order are the same list, plain. No conditions.
-/
import Derived.Test.YtcckamajiebgeaaPEdit
namespace Go.Proofs.Ytcckamajiebgeaa
set_option linter.unusedVariables false
set_option linter.unusedSimpArgs false

theorem wiP_mem {k v : Int} {x : Pp} : ∀ {l : List Pp}, Srt l → (x ∈ wiP k v l ↔ x = (k, v) ∨ (x ∈ l ∧ x.1 ≠ k))
  | [], _ => by simp [wiP]
  | y :: l, h => by
    obtain ⟨h1, h2⟩ := List.pairwise_cons.1 h
    unfold wiP
    split
    · simp [woP, List.mem_filter]
    · rename_i hk
      have ih := wiP_mem (k := k) (v := v) (x := x) h2
      rw [List.mem_cons, ih, List.mem_cons]
      constructor
      · rintro (rfl | rfl | ⟨h, h'⟩)
        · exact .inr ⟨.inl rfl, by omega⟩
        · exact .inl rfl
        · exact .inr ⟨.inr h, h'⟩
      · rintro (rfl | ⟨rfl | h, h'⟩)
        · exact .inr (.inl rfl)
        · exact .inl rfl
        · exact .inr (.inr ⟨h, h'⟩)
theorem srt_ext : ∀ {a b : List Pp}, Srt a → Srt b → (∀ x, x ∈ a ↔ x ∈ b) → a = b
  | [], [], _, _, _ => rfl
  | [], y :: b, _, _, h => absurd ((h y).2 (List.mem_cons_self ..)) (by simp)
  | x :: a, [], _, _, h => absurd ((h x).1 (List.mem_cons_self ..)) (by simp)
  | x :: a, y :: b, ha, hb, h => by
    obtain ⟨a1, a2⟩ := List.pairwise_cons.1 ha
    obtain ⟨b1, b2⟩ := List.pairwise_cons.1 hb
    have hxy : x = y := by
      rcases List.mem_cons.1 ((h x).1 (List.mem_cons_self ..)) with e | hx
      · exact e
      · rcases List.mem_cons.1 ((h y).2 (List.mem_cons_self ..)) with e | hy
        · exact e.symm
        · have h1 := a1 y hy
          have h2 := b1 x hx
          omega
    subst hxy
    congr 1
    refine srt_ext a2 b2 fun z => ⟨fun hz => ?_, fun hz => ?_⟩
    · rcases List.mem_cons.1 ((h z).1 (List.mem_cons_of_mem _ hz)) with e | h'
      · subst e
        exact absurd (a1 z hz) (Int.lt_irrefl _)
      · exact h'
    · rcases List.mem_cons.1 ((h z).2 (List.mem_cons_of_mem _ hz)) with e | h'
      · subst e
        exact absurd (b1 z hz) (Int.lt_irrefl _)
      · exact h'
/-- The pairs behind so many keys, each with its own value. -/
def mkO (l : List UInt8) : Nat → List Pp
  | 0 => []
  | i + 1 => wiP ((l.getD i 0).toNat : Int) (((l.getD i 0).toNat : Int) + 1) (mkO l i)
theorem mkO_length (l : List UInt8) (i : Nat) : (mkO l i).length ≤ i := by
  induction i with
  | zero => exact Nat.le_refl _
  | succ i ih =>
    have := wiP_length ((l.getD i 0).toNat : Int) (((l.getD i 0).toNat : Int) + 1) (mkO l i)
    simp only [mkO]
    omega
theorem mkO_mem (l : List UInt8) : ∀ i, Srt (mkO l i) ∧ ∀ x, x ∈ mkO l i ↔ ∃ j, j < i ∧ x = (((l.getD j 0).toNat : Int), ((l.getD j 0).toNat : Int) + 1)
  | 0 => ⟨List.Pairwise.nil, fun x => by simp [mkO]⟩
  | i + 1 => by
    obtain ⟨h1, h2⟩ := mkO_mem l i
    refine ⟨(wiP_srt h1).1, fun x => ?_⟩
    simp only [mkO]
    rw [wiP_mem h1, h2]
    constructor
    · rintro (rfl | ⟨⟨j, hj, rfl⟩, _⟩)
      · exact ⟨i, by omega, rfl⟩
      · exact ⟨j, by omega, rfl⟩
    · rintro ⟨j, hj, rfl⟩
      by_cases e : ((l.getD j 0).toNat : Int) = ((l.getD i 0).toNat : Int)
      · rw [e]
        exact .inl rfl
      · have : j ≠ i := by rintro rfl; exact e rfl
        exact .inr ⟨⟨j, by omega, rfl⟩, e⟩
theorem mkO_all {l : List UInt8} {x : Pp} : x ∈ mkO l l.length ↔ ∃ b ∈ l, x = ((b.toNat : Int), (b.toNat : Int) + 1) := by
  rw [(mkO_mem l l.length).2]
  constructor
  · rintro ⟨j, hj, rfl⟩
    refine ⟨l[j], List.getElem_mem hj, ?_⟩
    simp [hj]
  · rintro ⟨b, hb, rfl⟩
    obtain ⟨j, hj, rfl⟩ := List.getElem_of_mem hb
    exact ⟨j, hj, by simp [hj]⟩
theorem mkO_turn (l : List UInt8) (k : Nat) : mkO (l.drop k ++ l.take k) (l.drop k ++ l.take k).length = mkO l l.length := by
  refine srt_ext (mkO_mem _ _).1 (mkO_mem _ _).1 fun x => ?_
  rw [mkO_all, mkO_all]
  have hm : ∀ b, b ∈ l.drop k ++ l.take k ↔ b ∈ l := fun b => by
    rw [List.mem_append, Or.comm, ← List.mem_append, List.take_append_drop]
  constructor
  · rintro ⟨b, hb, e⟩
    exact ⟨b, (hm b).1 hb, e⟩
  · rintro ⟨b, hb, e⟩
    exact ⟨b, (hm b).2 hb, e⟩
/-- The first key taken. -/
theorem wo_head {x : Pp} {l : List Pp} (h : Srt (x :: l)) : woP x.1 (x :: l) = l := by
  obtain ⟨h1, h2⟩ := List.pairwise_cons.1 h
  unfold woP
  rw [List.filter_cons_of_neg (by simp)]
  rw [List.filter_eq_self]
  intro y hy
  have := h1 y hy
  simp only [bne_iff_ne, ne_eq]
  omega
theorem fi_head (x : Pp) (l : List Pp) : (fiP x.1 (x :: l)).isSome = true := by simp [fiP]
end Go.Proofs.Ytcckamajiebgeaa
