/-
  The least epoch that is pinned, plain. No conditions.
-/
import Derived.Test.YtbfbnfnjjlibbaaBase0
namespace Go.Proofs.Ytbfbnfnjjlibbaa
set_option linter.unusedVariables false
set_option linter.unusedSimpArgs false

/-- One pin more. -/
def lsS (n p : Int) : Int := if 0 < p ∧ p - 1 < n then p - 1 else n
def lst (l : List Int) : Int := l.foldl lsS 4611686018427387904
theorem lst_snoc (l : List Int) (p : Int) : lst (l ++ [p]) = lsS (lst l) p := by simp [lst]
theorem lst_take (l : List Int) (k : Nat) (h : k < l.length) : lst (l.take (k + 1)) = lsS (lst (l.take k)) l[k] := by
  rw [List.take_succ_eq_append_getElem h, lst_snoc]
theorem ls_ok : ∀ (l : List Int) (n : Int), l.foldl lsS n ≤ n ∧ (∀ p ∈ l, 0 < p → l.foldl lsS n ≤ p - 1) ∧ (l.foldl lsS n = n ∨ ∃ p ∈ l, 0 < p ∧ p - 1 = l.foldl lsS n) ∧ (0 ≤ n → 0 ≤ l.foldl lsS n)
  | [], n => ⟨Int.le_refl _, by simp, .inl rfl, fun h => h⟩
  | q :: l, n => by
    rw [List.foldl_cons]
    obtain ⟨h1, h2, h3, h4⟩ := ls_ok l (lsS n q)
    have hs : lsS n q ≤ n ∧ (0 < q → lsS n q ≤ q - 1) ∧ (lsS n q = n ∨ 0 < q ∧ q - 1 = lsS n q) ∧ (0 ≤ n → 0 ≤ lsS n q) := by
      unfold lsS
      split
      · refine ⟨by omega, fun _ => by omega, .inr ⟨by omega, rfl⟩, fun _ => by omega⟩
      · refine ⟨by omega, fun _ => by omega, .inl rfl, fun h => h⟩
    obtain ⟨s1, s2, s3, s4⟩ := hs
    refine ⟨by omega, fun p hp h0 => ?_, ?_, fun h => h4 (s4 h)⟩
    · rcases List.mem_cons.1 hp with rfl | hp
      · have := s2 h0
        omega
      · exact h2 p hp h0
    · rcases h3 with h3 | ⟨p, hp, h0, e⟩
      · rcases s3 with s3 | ⟨h0, e⟩
        · exact .inl (h3.trans s3)
        · exact .inr ⟨q, List.mem_cons_self .., h0, e.trans h3.symm⟩
      · exact .inr ⟨p, List.mem_cons_of_mem _ hp, h0, e⟩
theorem lst_none (l : List Int) : lst l ≤ 4611686018427387904 ∧ 0 ≤ lst l := ⟨(ls_ok l _).1, (ls_ok l _).2.2.2 (by decide)⟩
/-- No pin is below it. -/
theorem lst_le {l : List Int} {p : Int} (hp : p ∈ l) (h0 : 0 < p) : lst l ≤ p - 1 := (ls_ok l _).2.1 p hp h0
/-- One is it, or it is none. -/
theorem lst_is (l : List Int) : lst l = 4611686018427387904 ∨ ∃ p ∈ l, 0 < p ∧ p - 1 = lst l := (ls_ok l _).2.2.1
theorem lst_free {l : List Int} (h : ∀ p ∈ l, ¬ 0 < p) : lst l = 4611686018427387904 := by
  rcases lst_is l with e | ⟨p, hp, h0, _⟩
  · exact e
  · exact absurd h0 (h p hp)
theorem lst_pin (p : Int) (h : 0 < p) (hm : p ≤ 4611686018427387904) : lst [0, p] = p - 1 := by
  simp [lst, lsS]
  omega
theorem lst_two : lst [0, 0] = 4611686018427387904 := by simp [lst, lsS]
end Go.Proofs.Ytbfbnfnjjlibbaa
