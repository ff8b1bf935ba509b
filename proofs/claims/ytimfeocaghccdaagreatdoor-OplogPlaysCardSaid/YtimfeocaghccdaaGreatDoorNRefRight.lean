/-
  The document's Right and Texts: they answer as the plain functions say; nothing that was there is changed. No conditions beyond those that each statement bears.
-/
import Derived.Test.YtimfeocaghccdaaGreatDoorNFormed
namespace Go.Proofs.YtimfeocaghccdaaGreatDoor
set_option maxRecDepth 100000
open Go.RowKit
set_option linter.unusedVariables false

/-- Has a text no byte that names can't have, from a place on? -/
def gAt (l : List UInt8) (i : Nat) : Bool := (l.drop i).all fun c => !badB c
theorem gAt_step (l : List UInt8) (i : Nat) (h : i < l.length) : gAt l i = (!badB l[i] && gAt l (i + 1)) := by
  unfold gAt
  rw [List.drop_eq_getElem_cons h, List.all_cons]
theorem right_short (l : List UInt8) (h : l.length < 1 ∨ 20 < l.length) : right l = false := by
  unfold right
  rcases h with h | h
  · rw [decide_eq_false (by omega)]; rfl
  · rw [decide_eq_false (show ¬ l.length ≤ 20 by omega), Bool.and_false]; rfl
theorem right_in (l : List UInt8) (h : 1 ≤ l.length) (h2 : l.length ≤ 20) : right l = (gAt l 0 && formed l) := by
  unfold right okR gAt
  rw [decide_eq_true h, decide_eq_true h2]
  rfl
def RightRel (l : List UInt8) (v : Value) : Prop := ∃ i, i ≤ l.length ∧ v = .int .i64 (i : Int) ∧ gAt l i = gAt l 0
set_option maxHeartbeats 2000000 in
set_option maxRecDepth 100000 in
theorem refRight_any (l : List UInt8) (w : World) (hl : l.length ≤ 1000) : Calls Tryz.prog 62 #[.string (bs l)] w (PureBool (right l) w) := by
  have hsz := bs_size l
  by_cases hs : l.length < 1 ∨ 20 < l.length
  · have e := hide (right_short l hs)
    go_enter Tryz.func62, Tryz.ntmps62
    rcases hs with hs | hs
    · have hs1 : (l.length : Int) < 1 := by omega
      go_wp2
      go_ret
      exact ⟨ret_bool e.out.symm, rfl⟩
    · have hs1 : ¬ (l.length : Int) < 1 := by omega
      have hs2 : (20 : Int) < (l.length : Int) := by omega
      go_wp2
      go_ret
      exact ⟨ret_bool e.out.symm, rfl⟩
  · have E := hide (right_in l (by omega) (by omega))
    have hs1 : ¬ (l.length : Int) < 1 := by omega
    have hs2 : ¬ (20 : Int) < (l.length : Int) := by omega
    go_enter Tryz.func62, Tryz.ntmps62
    go_wp2_with fail
    go_loop [3] (RightRel l) (fun a => l.length - (intOf a).toNat)
    case atStart => exact ⟨0, Nat.zero_le _, rfl, rfl⟩
    case round =>
      obtain ⟨i, hi, rfl, he⟩ := hrel
      have HE := hide he
      clear he
      by_cases hlt : i < l.length
      · have hst := gAt_step l i hlt
        obtain ⟨x, ex⟩ : ∃ x : UInt8, l[i] = x := ⟨_, rfl⟩
        obtain ⟨d, ed⟩ : ∃ d : Nat, x.toNat = d := ⟨_, rfl⟩
        have hx2 : ∀ h, ((bs l)[i]'h).toNat = d := fun h => by rw [bs_get l i h, ← ed]; exact congrArg _ ex
        have hb : badB x = (decide (d < 32) || decide (d = 47) || decide (d = 127)) := by unfold badB; rw [ed]
        rw [ex, hb] at hst
        clear ex ed hb
        by_cases hbad : d < 32 ∨ d = 47 ∨ d = 127
        · have e := hide (show right l = false by rw [E.out, ← HE.out, hst]; simp; intro a b c; omega)
          clear hst E HE
          rcases hbad with h | h | h
          · have h1 : (d : Int) < 32 := by omega
            go_wp2
            go_ret
            exact ⟨ret_bool e.out.symm, rfl⟩
          · subst h
            go_wp2
            go_ret
            exact ⟨ret_bool e.out.symm, rfl⟩
          · subst h
            go_wp2
            go_ret
            exact ⟨ret_bool e.out.symm, rfl⟩
        · have HS := hide (show gAt l (i + 1) = gAt l 0 by rw [← HE.out, hst, decide_eq_false (by omega), decide_eq_false (by omega), decide_eq_false (by omega)]; simp)
          have h1 : ¬ (d : Int) < 32 := by omega
          have h2 : ((d : Int) == 47) = false := by simp only [beq_eq_false_iff_ne, ne_eq]; omega
          have h3 : ((d : Int) == 127) = false := by simp only [beq_eq_false_iff_ne, ne_eq]; omega
          clear hst E HE hbad
          go_wp2_with fail
          refine ⟨⟨i + 1, by omega, by go_num, HS.out⟩, ?_⟩
          simp [intOf]
          omega
      · have hi2 : i = l.length := by omega
        subst hi2
        have e := hide (show right l = formed l by
          rw [E.out, ← HE.out]
          unfold gAt
          rw [List.drop_length]
          rfl)
        clear E HE
        go_wp2_with fail
        refine (formed_any l w hl).mono ?_
        rintro e1 w' ⟨rfl, rfl⟩
        go_wp2
        go_ret
        exact ⟨ret_bool e.out.symm, rfl⟩

/-- Below this the world is as it was; two slices of texts are alike so far. -/
def TextsRel (w : World) (a b : List (List UInt8)) (v : Value) (wr : World) : Prop := ∃ i, i ≤ a.length ∧ v = .int .i64 (i : Int) ∧ a.take i = b.take i ∧ Below w.heap.size w wr
end Go.Proofs.YtimfeocaghccdaaGreatDoor
