/-
  The program's Right: it answers as the plain function says, and leaves all that was there as it was. Conditions: Env (the library's tables).
-/
import Derived.Test.YtimfeocaghccdaaGreatDoorValid
import Derived.Test.YtimfeocaghccdaaGreatDoorNRefRight
import Derived.Laws.RangeString
import Derived.Laws.RangeAny
import Derived.LoopTactic
namespace Go.Proofs.YtimfeocaghccdaaGreatDoor
set_option maxRecDepth 100000
open Go.RowKit Go.Shelf
set_option linter.unusedVariables false

theorem fits_any (r : Nat) (w : World) : Calls Tryz.prog 98 #[.int .i32 (r : Int)] w (PureBool (!badR r) w) := by
  by_cases h1 : r < 32
  · have e := hide (show badR r = true by simp [badR]; omega)
    have h1i : ¬ (32 : Int) ≤ (r : Int) := by omega
    go_enter Tryz.func98, Tryz.ntmps98
    go_wp2
    go_ret
    exact ⟨ret_bool (by rw [e.out]; rfl), rfl⟩
  · have h1i : (32 : Int) ≤ (r : Int) := by omega
    by_cases h2 : r = 127
    · have e := hide (show badR r = true by simp [badR]; omega)
      subst h2
      go_enter Tryz.func98, Tryz.ntmps98
      go_wp2
      go_ret
      exact ⟨ret_bool (by rw [e.out]; rfl), rfl⟩
    · have h2i : ((r : Int) == 127) = false := by simp only [beq_eq_false_iff_ne, ne_eq]; omega
      by_cases h3 : r = 47
      · have e := hide (show badR r = true by simp [badR]; omega)
        subst h3
        go_enter Tryz.func98, Tryz.ntmps98
        go_wp2
        go_ret
        exact ⟨ret_bool (by rw [e.out]; rfl), rfl⟩
      · have h3i : ((r : Int) == 47) = false := by simp only [beq_eq_false_iff_ne, ne_eq]; omega
        have e := hide (show badR r = false by simp [badR]; omega)
        go_enter Tryz.func98, Tryz.ntmps98
        go_wp2
        go_ret
        exact ⟨ret_bool (by rw [e.out]; simp only [bne, h2i, h3i]; rfl), rfl⟩

theorem okR_formed (l : List UInt8) (h : formed l = false) : okR l = false := by unfold okR; rw [h, Bool.and_false]
theorem right_okR (l : List UInt8) (h : 1 ≤ l.length) (h2 : l.length ≤ 20) : right l = okR l := by
  unfold right
  rw [decide_eq_true h, decide_eq_true h2]
  rfl
/-- A step of a range over a well-formed text. -/
theorem okR_range (l : List UInt8) (pos : Nat) (h : pos < l.length) (hf : fAt l pos = true) :
    okR (l.drop pos) = (!badR (dec (l.drop pos)).1 && okR (l.drop (pos + (dec (l.drop pos)).2))) ∧ fAt l (pos + (dec (l.drop pos)).2) = true ∧ 0 < (dec (l.drop pos)).2 ∧ pos + (dec (l.drop pos)).2 ≤ l.length := by
  have h0 := drop_ne l pos h
  have hd := okR_dec _ h0
  unfold fAt at hf
  rw [formed_step _ h0, Bool.and_eq_true, decide_eq_true_eq] at hf
  have e2 := dec_some _ hf.1
  have hle := oneW_le (l.drop pos)
  rw [List.length_drop] at hle
  rw [decide_eq_true hf.1, Bool.true_and, List.drop_drop] at hd
  refine ⟨hd, ?_, by rw [e2]; omega, by rw [e2]; omega⟩
  unfold fAt
  rw [← List.drop_drop, e2]
  exact hf.2
def RangeRel (w : World) (l : List UInt8) (wr : World) : Prop := ∃ pos, wr = w.iter (bs l) pos ∧ pos ≤ l.length ∧ fAt l pos = true ∧ okR (l.drop pos) = okR l
set_option maxHeartbeats 2000000 in
set_option maxRecDepth 100000 in
theorem right_any (l : List UInt8) (w : World) (hl : l.length ≤ maxLen) (hE : Env w) : Calls Tryz.prog 77 #[.string (bs l)] w (BoolRet (right l) w) := by
  have hm : maxLen = 9223372036854775807 := rfl
  have hsz := bs_size l
  have EN := hide hE
  clear hE
  by_cases hs : l.length < 1 ∨ 20 < l.length
  · have e := hide (right_short l hs)
    go_enter Tryz.func77, Tryz.ntmps77
    rcases hs with hs | hs
    · have h0 : l = [] := List.length_eq_zero_iff.1 (by omega)
      subst h0
      have hq : ((bs []).toList == []) = true := by rw [bs_list]; rfl
      go_wp2
      go_ret
      exact ⟨ret_bool e.out.symm, Below.refl _ _⟩
    · have hq : ((bs l).toList == []) = false := by rw [bs_list]; cases l with
        | nil => simp at hs
        | cons c t => rfl
      have hs2 : (20 : Int) < (l.length : Int) := by omega
      go_wp2
      go_ret
      exact ⟨ret_bool e.out.symm, Below.refl _ _⟩
  · have E := hide (right_okR l (by omega) (by omega))
    have hq : ((bs l).toList == []) = false := by rw [bs_list]; cases l with
        | nil => simp at hs
        | cons c t => rfl
    have hs2 : ¬ (20 : Int) < (l.length : Int) := by omega
    have hl20 : l.length ≤ 20 := by omega
    clear hs
    go_enter Tryz.func77, Tryz.ntmps77
    go_wp2_with fail
    refine (lib_valid l w hl EN.out).mono ?_
    rintro e w1 ⟨rfl, hb⟩
    have B1 := hide hb
    clear hb
    rcases hf : formed l with _ | _
    · have e := hide (show right l = false by rw [E.out]; exact okR_formed l hf)
      clear E hf
      go_wp2
      go_ret
      exact ⟨ret_bool e.out.symm, B1.out⟩
    · have HF := hide hf
      clear hf
      go_wp2_with fail
      go_loopw [] (RangeRel w1 l) (fun wr => l.length - wr.iterPos w1.heap.size)
      case atStart => exact ⟨0, rfl, Nat.zero_le _, HF.out, rfl⟩
      case round =>
        obtain ⟨pos, rfl, hp, hf, ho⟩ := hrel
        have GF := hide hf
        have GO := hide ho
        clear hf ho
        by_cases hlt : pos < l.length
        · obtain ⟨r1, r2, r3, r4⟩ := okR_range l pos hlt GF.out
          have hnx : ∀ ty, (Instr.next (.pointer (some ⟨w1.heap.size, 0, none⟩)) true ty).run Tryz.prog (w1.iter (bs l) pos) = _ := fun ty => run_next_any w1 (bs l) pos ty (by rw [bs_size]; exact hlt)
          rw [dec_drop (bs l) pos (by rw [bs_size]; omega), bs_data] at hnx
          revert r1 r2 r3 r4 hnx
          generalize (dec (l.drop pos)).1 = r
          generalize (dec (l.drop pos)).2 = k
          intro r1 r2 r3 r4 hnx
          rw [GO.out] at r1
          have R1 := hide r1
          have R2 := hide r2
          clear r1 r2
          go_wp2_with fail
          refine (fits_any r _).mono ?_
          rintro e w2 ⟨rfl, rfl⟩
          rcases hr : badR r with _ | _
          · have HS := hide (show okR (l.drop (pos + k)) = okR l by rw [R1.out, hr]; rfl)
            clear R1 E GO GF hr hnx
            go_wp2_with fail
            refine ⟨⟨pos + k, rfl, r4, R2.out, HS.out⟩, ?_⟩
            simp
            omega
          · have e := hide (show right l = false by rw [E.out, R1.out, hr]; rfl)
            clear R1 R2 E GO GF hr hnx
            go_wp2
            go_ret
            exact ⟨ret_bool e.out.symm, B1.out.alloc B1.out.size _⟩
        · have hi2 : pos = l.length := by omega
          subst hi2
          have hnx : ∀ ty, (Instr.next (.pointer (some ⟨w1.heap.size, 0, none⟩)) true ty).run Tryz.prog (w1.iter (bs l) l.length) = _ := fun ty => run_next_end w1 (bs l) l.length ty (by rw [bs_size]; omega)
          have e := hide (show right l = true by rw [E.out, ← GO.out, List.drop_length]; rfl)
          clear E GF GO
          go_wp2
          go_ret
          exact ⟨ret_bool e.out.symm, B1.out.alloc B1.out.size _⟩
end Go.Proofs.YtimfeocaghccdaaGreatDoor
