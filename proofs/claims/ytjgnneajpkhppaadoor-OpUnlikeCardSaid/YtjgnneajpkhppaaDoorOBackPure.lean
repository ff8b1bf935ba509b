/-
  What is put is taken, whatever is behind it; what is taken, put again, is the same bytes. No conditions.
-/
import Derived.Test.YtjgnneajpkhppaaDoorOTake
import Derived.Test.YtjgnneajpkhppaaDoorOnePure
namespace Go.Proofs.YtjgnneajpkhppaaDoor
open Go.RowKit
set_option linter.unusedVariables false

theorem rNum_put (n most : Int) (h0 : 0 ≤ n) (h1 : n ≤ most) (h2 : n ≤ 4294967295) (t : List UInt8) : rNum most (num n ++ t) 0 = (n.toNat, t, 0) := by
  have e := scan_form n.toNat (by omega) t
  rw [num_in n h0 h2]
  unfold rNum
  rw [e]
  simp
  omega
theorem rTxt_put (s : List UInt8) (h : s.length ≤ 20) (t : List UInt8) : rTxt 20 (txt s ++ t) 0 = (s, t, 0) := by
  have e := rNum_put s.length 20 (by omega) (by omega) (by omega) (s ++ t)
  rw [num_in _ (by omega) (by omega)] at e
  simp only [Int.toNat_natCast] at e
  rw [txt_in s (by omega), List.append_assoc]
  unfold rTxt
  rw [e]
  simp
theorem rNum_ok {most : Int} {l : List UInt8} {e : Nat} (h : (rNum most l e).2.2 = 0) : e = 0 ∧ l = num (rNum most l e).1 ++ (rNum most l e).2.1 := by
  unfold rNum at h ⊢
  split at h
  · contradiction
  · rename_i h0
    have h0 : e = 0 := by simpa using h0
    split at h
    · contradiction
    · rename_i h1
      have h1 : (scan l).2.2 = 0 := by simpa using h1
      split at h
      · cases h
      · rename_i h2
        refine ⟨h0, ?_⟩
        obtain ⟨f, _, _, _⟩ := scan_is_form l h1
        rw [if_neg (by simpa using h0), if_neg (by simpa using h1), if_neg h2]
        simp only
        rw [num_in _ (by omega) (by omega)]
        simp only [Int.toNat_natCast]
        rw [f, List.take_append_drop]
theorem rTxt_ok {l : List UInt8} {e : Nat} (h : (rTxt 20 l e).1 ≠ []) : e = 0 ∧ (rTxt 20 l e).2.2 = 0 ∧ l = txt (rTxt 20 l e).1 ++ (rTxt 20 l e).2.1 := by
  have hm := rNum_most 20 l e (by omega)
  have hk := @rNum_ok 20 l e
  unfold rTxt at h ⊢
  generalize rNum 20 l e = p at h hm hk ⊢
  obtain ⟨n, l1, e1⟩ := p
  simp only at h hm hk ⊢
  split at h
  · exact absurd rfl h
  · rename_i h0
    have h0 : e1 = 0 := by simpa using h0
    split at h
    · exact absurd rfl h
    · rename_i h2
      rw [if_neg (by simpa using h0), if_neg h2]
      obtain ⟨he, hl⟩ := hk h0
      refine ⟨he, rfl, ?_⟩
      simp only
      have hlen : (l1.take n).length = n := by rw [List.length_take]; omega
      rw [txt_in _ (by omega), hlen, List.append_assoc, List.take_append_drop]
      rw [num_in _ (by omega) (by omega)] at hl
      simpa using hl
theorem right_ne {l : List UInt8} (h : right l = true) : l ≠ [] ∧ l.length ≤ 20 := by
  refine ⟨?_, ?_⟩
  · rintro rfl
    rw [right_short [] (by simp)] at h
    cases h
  · by_cases h2 : 20 < l.length
    · rw [right_short l (.inr h2)] at h
      cases h
    · omega
/-- What is taken, put again, is the same bytes. -/
theorem take_put {l : List UInt8} {e : Nat} (h : tkR l e = true) : e = 0 ∧ (tk5 l e).2.2 = 0 ∧ l = opB (tk1 l e).1 (tk2 l e).1 (tk3 l e).1 (tk4 l e).1 (tk5 l e).1 ++ (tk5 l e).2.1 := by
  have hb : opB (tk1 l e).1 (tk2 l e).1 (tk3 l e).1 (tk4 l e).1 (tk5 l e).1 = num (tk1 l e).1 ++ num (tk2 l e).1 ++ num (tk3 l e).1 ++ num (tk4 l e).1 ++ txt (tk5 l e).1 := if_pos h
  obtain ⟨_, _, _, hr⟩ := opR_t h
  obtain ⟨x4, x5, y5⟩ := rTxt_ok (l := (tk4 l e).2.1) (e := (tk4 l e).2.2) (right_ne hr).1
  obtain ⟨x3, y4⟩ := rNum_ok (most := 4294967295) (l := (tk3 l e).2.1) (e := (tk3 l e).2.2) x4
  obtain ⟨x2, y3⟩ := rNum_ok (most := 4294967295) (l := (tk2 l e).2.1) (e := (tk2 l e).2.2) x3
  obtain ⟨x1, y2⟩ := rNum_ok (most := 255) (l := (tk1 l e).2.1) (e := (tk1 l e).2.2) x2
  obtain ⟨x0, y1⟩ := rNum_ok (most := 16777215) (l := l) (e := e) x1
  refine ⟨x0, x5, ?_⟩
  rw [hb]
  change (tk4 l e).2.1 = txt (tk5 l e).1 ++ (tk5 l e).2.1 at y5
  change (tk3 l e).2.1 = num (tk4 l e).1 ++ (tk4 l e).2.1 at y4
  change (tk2 l e).2.1 = num (tk3 l e).1 ++ (tk3 l e).2.1 at y3
  change (tk1 l e).2.1 = num (tk2 l e).1 ++ (tk2 l e).2.1 at y2
  change l = num (tk1 l e).1 ++ (tk1 l e).2.1 at y1
  rw [List.append_assoc, List.append_assoc, List.append_assoc, List.append_assoc, ← y5, ← y4, ← y3, ← y2]
  exact y1
/-- What is put is taken. -/
theorem put_take {n r d t : Int} {s : List UInt8} (h : opR n r d t s = true) (more : List UInt8) :
    tkR (opB n r d t s ++ more) 0 = true ∧ tkV (opB n r d t s ++ more) 0 = opv n r d t s ∧ (tk5 (opB n r d t s ++ more) 0).2 = (more, 0) := by
  obtain ⟨h1, h2, h3, h4⟩ := opR_t h
  have h1 := stR_t h1
  have h2 := ndB_t h2
  have h3 := toB_t h3
  obtain ⟨_, h5⟩ := right_ne h4
  have e0 : opB n r d t s ++ more = num n ++ (num r ++ (num d ++ (num t ++ (txt s ++ more)))) := by
    unfold opB
    rw [if_pos h]
    simp only [List.append_assoc]
  generalize opB n r d t s ++ more = l at e0
  have e1 : tk1 l 0 = (n.toNat, num r ++ (num d ++ (num t ++ (txt s ++ more))), 0) := by unfold tk1; rw [e0]; exact rNum_put n _ (by omega) (by omega) (by omega) _
  have e2 : tk2 l 0 = (r.toNat, num d ++ (num t ++ (txt s ++ more)), 0) := by unfold tk2; rw [e1]; exact rNum_put r _ (by omega) (by omega) (by omega) _
  have e3 : tk3 l 0 = (d.toNat, num t ++ (txt s ++ more), 0) := by unfold tk3; rw [e2]; exact rNum_put d _ (by omega) (by omega) (by omega) _
  have e4 : tk4 l 0 = (t.toNat, txt s ++ more, 0) := by unfold tk4; rw [e3]; exact rNum_put t _ (by omega) (by omega) (by omega) _
  have e5 : tk5 l 0 = (s, more, 0) := by unfold tk5; rw [e4]; exact rTxt_put s h5 _
  have hn : ((n.toNat : Nat) : Int) = n := by omega
  have hr : ((r.toNat : Nat) : Int) = r := by omega
  have hd : ((d.toNat : Nat) : Int) = d := by omega
  have ht : ((t.toNat : Nat) : Int) = t := by omega
  have hR : tkR l 0 = true := by
    unfold tkR
    rw [e1, e2, e3, e4, e5]
    simp only [hn, hr, hd, ht]
    exact h
  refine ⟨hR, ?_, by rw [e5]⟩
  unfold tkV
  rw [if_pos hR, e1, e2, e3, e4, e5]
  simp only [hn, hr, hd, ht]
theorem rNum_less (most : Int) (l : List UInt8) (e : Nat) : (rNum most l e).2.1.length ≤ l.length := by
  unfold rNum
  split
  · exact Nat.le_refl _
  · split
    · simp
    · split <;> simp
theorem rTxt_less (most : Int) (l : List UInt8) (e : Nat) : (rTxt most l e).2.1.length ≤ l.length := by
  have h := rNum_less most l e
  unfold rTxt
  split
  · exact h
  · split
    · simp
    · simp; omega
theorem tk_less (l : List UInt8) (e : Nat) : (tk5 l e).2.1.length ≤ l.length := by
  have h1 : (tk1 l e).2.1.length ≤ l.length := rNum_less _ _ _
  have h2 : (tk2 l e).2.1.length ≤ (tk1 l e).2.1.length := rNum_less _ _ _
  have h3 : (tk3 l e).2.1.length ≤ (tk2 l e).2.1.length := rNum_less _ _ _
  have h4 : (tk4 l e).2.1.length ≤ (tk3 l e).2.1.length := rNum_less _ _ _
  have h5 : (tk5 l e).2.1.length ≤ (tk4 l e).2.1.length := rTxt_less _ _ _
  omega
/-- What was taken, in both cases. -/
theorem taken (l : List UInt8) : ∃ (n r d t : Int) (s : List UInt8), tkV l 0 = opv n r d t s ∧ s.length ≤ maxLen ∧ (tk5 l 0).2.1.length ≤ l.length ∧ (tkR l 0 = true → opB n r d t s = l.take (l.length - (tk5 l 0).2.1.length)) := by
  have hl := tk_less l 0
  by_cases h : tkR l 0 = true
  · refine ⟨(tk1 l 0).1, (tk2 l 0).1, (tk3 l 0).1, (tk4 l 0).1, (tk5 l 0).1, if_pos h, ?_, hl, fun _ => ?_⟩
    · exact Nat.le_trans (rTxt_20 (tk4 l 0).2.1 (tk4 l 0).2.2) (by decide)
    · obtain ⟨_, _, e⟩ := take_put h
      generalize opB (tk1 l 0).1 (tk2 l 0).1 (tk3 l 0).1 (tk4 l 0).1 (tk5 l 0).1 = R at e ⊢
      generalize (tk5 l 0).2.1 = rest at e hl ⊢
      rw [e, List.length_append, Nat.add_sub_cancel, List.take_left]
  · exact ⟨0, 0, 0, 0, [], if_neg h, Nat.zero_le _, hl, fun h2 => absurd h2 h⟩
end Go.Proofs.YtjgnneajpkhppaaDoor
