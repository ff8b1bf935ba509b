/-
  The contract of package epoch's Least; a slice of numbers that can be read. Conditions: the numbers are within 64 bits, not more than a million.
-/
import Derived.Test.YtbfbnfnjjlibbaaELeast
import Derived.Test.YtbfbnfnjjlibbaaHRow
namespace Go.Proofs.Ytbfbnfnjjlibbaa
open Go.RowKit Go.Maps
set_option linter.unusedVariables false
set_option linter.unusedSimpArgs false
set_option maxRecDepth 100000

/-- A slice of numbers that can be read. -/
structure Is (w : World) (A : Option Addr) (c : Nat) (l : List Int) : Prop where
  le : l.length ≤ c
  most : c ≤ maxLen
  lit : 0 < l.length → ∃ b o, A = some ⟨b, o, none⟩ ∧ ∀ j (h : j < l.length), w.cell? ⟨b, o + j, none⟩ = some (.int .i64 l[j])
theorem Is.below {w w' : World} {A : Option Addr} {c : Nat} {l : List Int} (h : Is w A c l) (hb : Below w.heap.size w w') : Is w' A c l :=
  ⟨h.le, h.most, fun hp => by
    obtain ⟨b, o, e, hat⟩ := h.lit hp
    exact ⟨b, o, e, fun j hj => cell_b hb (hat j hj)⟩⟩
def LsRel (w : World) (l : List Int) (vn vi : Value) (wr : World) : Prop := ∃ k : Nat, k ≤ l.length ∧ vi = .int .i64 (k : Int) ∧ vn = .int .i64 (lst (l.take k)) ∧ wr = w
set_option maxHeartbeats 1000000 in
theorem least_any (A : Option Addr) (c : Nat) (l : List Int) (hb : ∀ x ∈ l, i64B x) (w : World) (h : Is w A c l) : Calls Try.prog 19 #[.slice A l.length c] w (fun e w' => e = .returned (.int .i64 (lst l)) ∧ Below w.heap.size w w') := by
  have H := hide h
  have m1 := h.le
  have m2 := h.most
  unfold maxLen at m2
  have HBd := hide hb
  clear h hb
  go_enter Try.func19, Try.ntmps19
  go_wp2_with fail
  go_loopw [3, 8] (LsRel w l) (fun _ i _ => l.length - (intOf i).toNat)
  case atStart => exact ⟨0, Nat.zero_le _, rfl, rfl, rfl⟩
  case round =>
    obtain ⟨k, hk, rfl, rfl, rfl⟩ := hrel
    by_cases hlt : k < l.length
    · obtain ⟨b, o, rfl, hat⟩ := H.out.lit (by omega)
      have z0 := hat k hlt
      have hbd := HBd.out _ (List.getElem_mem hlt)
      have HT := hide (lst_take l k hlt)
      have hln := lst_none (l.take k)
      unfold i64B at hbd
      have i0 : (0 : Int) ≤ (k : Int) := by omega
      have i1 : (k : Int) < (l.length : Int) := by omega
      clear hat
      generalize l[k] = p at *
      generalize lst (l.take k) = n at *
      by_cases hp : 0 < p
      · have d0 : decide (p > 0) = true := decide_eq_true hp
        have we : IntKind.i64.wrap (p - 1) = p - 1 := wrap_in _ (by omega) (by omega)
        by_cases h2 : p - 1 < n
        · have HE := hide (show p - 1 = lsS n p by unfold lsS; rw [if_pos ⟨hp, h2⟩])
          clear hp hln hbd
          go_wp2_with fail
          all_goals (try (exfalso; omega))
          all_goals
            go_roundw
            case rel => exact ⟨k + 1, by omega, by go_num, by rw [HT.out, ← HE.out], rfl⟩
            case measure => simp [intOf]; omega
        · have HE := hide (show n = lsS n p by unfold lsS; rw [if_neg (by omega)])
          clear hp hln hbd
          go_wp2_with fail
          all_goals (try (exfalso; omega))
          all_goals
            go_roundw
            case rel => exact ⟨k + 1, by omega, by go_num, by rw [HT.out, ← HE.out], rfl⟩
            case measure => simp [intOf]; omega
      · have d0 : decide (p > 0) = false := decide_eq_false hp
        have d0' : ¬ (0 < p) := hp
        have HE := hide (show n = lsS n p by unfold lsS; rw [if_neg (by omega)])
        clear hp hln hbd
        go_wp2_with fail
        go_roundw
        case rel => exact ⟨k + 1, by omega, by go_num, by rw [HT.out, ← HE.out], rfl⟩
        case measure => simp [intOf]; omega
    · obtain rfl : k = l.length := by omega
      have E := hide (show lst (l.take l.length) = lst l by rw [List.take_length])
      have B := hide (Below.refl wr.heap.size wr)
      generalize lst (l.take l.length) = n at *
      go_wp2_with fail
      go_ret
      exact ⟨ret_int E.out, B.out⟩
end Go.Proofs.Ytbfbnfnjjlibbaa
