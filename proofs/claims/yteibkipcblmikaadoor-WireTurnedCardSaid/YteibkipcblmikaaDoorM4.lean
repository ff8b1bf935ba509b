/-
  utf8.ValidString, by its contract, over lists of bytes. Conditions: the two tables of unicode/utf8 as the program's text lays them (the rows list them).
  The program's Right: it answers as the plain function says, and leaves all that was there as it was. Conditions: Env (the library's tables).
  The contract of package op's Right. Conditions: the two tables of unicode/utf8 as the program's text lays them.
-/
import Derived.Test.YteibkipcblmikaaDoorShelf
import Derived.Test.YteibkipcblmikaaDoorM3
import Derived.Shelf.Unicode.ValidAny
import Derived.Lib.LaidU8T
import Derived.Laws.RangeString
import Derived.Laws.RangeAny
import Derived.LoopTactic
namespace Go.Proofs.YteibkipcblmikaaDoor
set_option maxRecDepth 100000
open Go.RowKit Go.Shelf
set_option linter.unusedVariables false

/-- The variables that the library reads. -/
structure Env (w : World) : Prop where
  tabs : Lib.Utf8Tabs (Tryd.lays196_ren.g 3) (Tryd.lays196_ren.g 4) w
theorem Env.below {w w' : World} (h : Env w) (hb : Below w.heap.size w w') : Env w' := ⟨Utf8Tabs_below h.tabs hb⟩

/-- Well-formed, as the library tells it. -/
theorem valid_formed (n : Nat) (l : List UInt8) (h : l.length ≤ n) : Lib.validGoD n l = formed l := by
  induction n generalizing l with
  | zero =>
    have : l = [] := List.length_eq_zero_iff.1 (by omega)
    subst this
    rfl
  | succ n ih =>
    unfold Lib.validGoD
    by_cases h0 : l = []
    · subst h0
      rfl
    · rw [if_neg h0, formed_step l h0]
      have ed : Lib.decodeL l = dec l := rfl
      rw [ed]
      by_cases hw : oneW l = 0
      · rw [dec_none l h0 hw]
        simp [hw]
      · have h2 := dec_some l hw
        have hpos : 0 < l.length := List.length_pos_iff.2 h0
        have hle := oneW_le l
        have hne : ¬ ((dec l).1 = 65533 ∧ (dec l).2 = 1) := by
          rintro ⟨e1, e2⟩
          have e3 := (dec_fffd l hw).1 e1
          rw [h2] at e2
          obtain ⟨c, t, rfl⟩ := List.exists_cons_of_ne_nil h0
          have hc : c = 239 := by
            have := congrArg List.head? e3
            simpa using this
          subst hc
          rw [oneW] at e2
          have et : tl (UInt8.toNat 239) = (3, 128, 191) := by decide
          rw [et] at e2
          split at e2
          · omega
          · omega
        rw [if_neg hne, h2, ih _ (by rw [List.length_drop]; omega)]
        simp [hw]

theorem lib_valid (l : List UInt8) (w : World) (hl : l.length ≤ 9223372036854775807) (hE : Env w) : Calls Tryd.prog 73 #[.string (bs l)] w (BoolRet (formed l) w) := by
  have h := Any.utf8_ValidString Tryd.lays196 (bs l) w (by rw [bs_size]; exact hl) hE.tabs
  rw [bs_data] at h
  unfold Lib.validD at h
  rw [valid_formed l.length l (Nat.le_refl _)] at h
  exact h
end Go.Proofs.YteibkipcblmikaaDoor
namespace Go.Proofs.YteibkipcblmikaaDoor
set_option maxRecDepth 100000
open Go.RowKit Go.Shelf
set_option linter.unusedVariables false

theorem fits_any (r : Nat) (w : World) : Calls Tryd.prog 74 #[.int .i32 (r : Int)] w (PureBool (!badR r) w) := by
  by_cases h1 : r < 32
  · have e := hide (show badR r = true by simp [badR]; omega)
    have h1i : ¬ (32 : Int) ≤ (r : Int) := by omega
    go_enter Tryd.func74, Tryd.ntmps74
    go_wp2
    go_ret
    exact ⟨ret_bool (by rw [e.out]; rfl), rfl⟩
  · have h1i : (32 : Int) ≤ (r : Int) := by omega
    by_cases h2 : r = 127
    · have e := hide (show badR r = true by simp [badR]; omega)
      subst h2
      go_enter Tryd.func74, Tryd.ntmps74
      go_wp2
      go_ret
      exact ⟨ret_bool (by rw [e.out]; rfl), rfl⟩
    · have h2i : ((r : Int) == 127) = false := by simp only [beq_eq_false_iff_ne, ne_eq]; omega
      by_cases h3 : r = 47
      · have e := hide (show badR r = true by simp [badR]; omega)
        subst h3
        go_enter Tryd.func74, Tryd.ntmps74
        go_wp2
        go_ret
        exact ⟨ret_bool (by rw [e.out]; rfl), rfl⟩
      · have h3i : ((r : Int) == 47) = false := by simp only [beq_eq_false_iff_ne, ne_eq]; omega
        have e := hide (show badR r = false by simp [badR]; omega)
        go_enter Tryd.func74, Tryd.ntmps74
        go_wp2
        go_ret
        exact ⟨ret_bool (by rw [e.out]; simp only [bne, h2i, h3i]; rfl), rfl⟩

theorem okR_formed (l : List UInt8) (h : formed l = false) : okR l = false := by unfold okR; rw [h, Bool.and_false]
theorem right_okR (l : List UInt8) (h : 1 ≤ l.length) (h2 : l.length ≤ 20) : right l = okR l := by
  unfold right
  rw [decide_eq_true h, decide_eq_true h2]
  rfl
/-- A step of a range over a well-formed text. -/
theorem okR_range (l : List UInt8) (pos : Nat) (h : pos < l.length) (hf : fAt l pos = true) :
    okR (l.drop pos) = (!badR (dec (l.drop pos)).1 && okR (l.drop (pos + (dec (l.drop pos)).2))) ∧ fAt l (pos + (dec (l.drop pos)).2) = true ∧ 0 < (dec (l.drop pos)).2 ∧ pos + (dec (l.drop pos)).2 ≤ l.length := by
  have h0 := drop_ne l pos h
  have hd := okR_dec _ h0
  unfold fAt at hf
  rw [formed_step _ h0, Bool.and_eq_true, decide_eq_true_eq] at hf
  have e2 := dec_some _ hf.1
  have hle := oneW_le (l.drop pos)
  rw [List.length_drop] at hle
  rw [decide_eq_true hf.1, Bool.true_and, List.drop_drop] at hd
  refine ⟨hd, ?_, by rw [e2]; omega, by rw [e2]; omega⟩
  unfold fAt
  rw [← List.drop_drop, e2]
  exact hf.2
def RangeRel (w : World) (l : List UInt8) (wr : World) : Prop := ∃ pos, wr = w.iter (bs l) pos ∧ pos ≤ l.length ∧ fAt l pos = true ∧ okR (l.drop pos) = okR l
set_option maxHeartbeats 2000000 in
set_option maxRecDepth 100000 in
theorem right_any (l : List UInt8) (w : World) (hl : l.length ≤ maxLen) (hE : Env w) : Calls Tryd.prog 64 #[.string (bs l)] w (BoolRet (right l) w) := by
  have hm : maxLen = 9223372036854775807 := rfl
  have hsz := bs_size l
  have EN := hide hE
  clear hE
  by_cases hs : l.length < 1 ∨ 20 < l.length
  · have e := hide (right_short l hs)
    go_enter Tryd.func64, Tryd.ntmps64
    rcases hs with hs | hs
    · have h0 : l = [] := List.length_eq_zero_iff.1 (by omega)
      subst h0
      have hq : ((bs []).toList == []) = true := by rw [bs_list]; rfl
      go_wp2
      go_ret
      exact ⟨ret_bool e.out.symm, Below.refl _ _⟩
    · have hq : ((bs l).toList == []) = false := by rw [bs_list]; cases l with
        | nil => simp at hs
        | cons c t => rfl
      have hs2 : (20 : Int) < (l.length : Int) := by omega
      go_wp2
      go_ret
      exact ⟨ret_bool e.out.symm, Below.refl _ _⟩
  · have E := hide (right_okR l (by omega) (by omega))
    have hq : ((bs l).toList == []) = false := by rw [bs_list]; cases l with
        | nil => simp at hs
        | cons c t => rfl
    have hs2 : ¬ (20 : Int) < (l.length : Int) := by omega
    have hl20 : l.length ≤ 20 := by omega
    clear hs
    go_enter Tryd.func64, Tryd.ntmps64
    go_wp2_with fail
    refine (lib_valid l w hl EN.out).mono ?_
    rintro e w1 ⟨rfl, hb⟩
    have B1 := hide hb
    clear hb
    rcases hf : formed l with _ | _
    · have e := hide (show right l = false by rw [E.out]; exact okR_formed l hf)
      clear E hf
      go_wp2
      go_ret
      exact ⟨ret_bool e.out.symm, B1.out⟩
    · have HF := hide hf
      clear hf
      go_wp2_with fail
      go_loopw [] (RangeRel w1 l) (fun wr => l.length - wr.iterPos w1.heap.size)
      case atStart => exact ⟨0, rfl, Nat.zero_le _, HF.out, rfl⟩
      case round =>
        obtain ⟨pos, rfl, hp, hf, ho⟩ := hrel
        have GF := hide hf
        have GO := hide ho
        clear hf ho
        by_cases hlt : pos < l.length
        · obtain ⟨r1, r2, r3, r4⟩ := okR_range l pos hlt GF.out
          have hnx : ∀ ty, (Instr.next (.pointer (some ⟨w1.heap.size, 0, none⟩)) true ty).run Tryd.prog (w1.iter (bs l) pos) = _ := fun ty => run_next_any w1 (bs l) pos ty (by rw [bs_size]; exact hlt)
          rw [dec_drop (bs l) pos (by rw [bs_size]; omega), bs_data] at hnx
          revert r1 r2 r3 r4 hnx
          generalize (dec (l.drop pos)).1 = r
          generalize (dec (l.drop pos)).2 = k
          intro r1 r2 r3 r4 hnx
          rw [GO.out] at r1
          have R1 := hide r1
          have R2 := hide r2
          clear r1 r2
          go_wp2_with fail
          refine (fits_any r _).mono ?_
          rintro e w2 ⟨rfl, rfl⟩
          rcases hr : badR r with _ | _
          · have HS := hide (show okR (l.drop (pos + k)) = okR l by rw [R1.out, hr]; rfl)
            clear R1 E GO GF hr hnx
            go_wp2_with fail
            refine ⟨⟨pos + k, rfl, r4, R2.out, HS.out⟩, ?_⟩
            simp
            omega
          · have e := hide (show right l = false by rw [E.out, R1.out, hr]; rfl)
            clear R1 R2 E GO GF hr hnx
            go_wp2
            go_ret
            exact ⟨ret_bool e.out.symm, B1.out.alloc B1.out.size _⟩
        · have hi2 : pos = l.length := by omega
          subst hi2
          have hnx : ∀ ty, (Instr.next (.pointer (some ⟨w1.heap.size, 0, none⟩)) true ty).run Tryd.prog (w1.iter (bs l) l.length) = _ := fun ty => run_next_end w1 (bs l) l.length ty (by rw [bs_size]; omega)
          have e := hide (show right l = true by rw [E.out, ← GO.out, List.drop_length]; rfl)
          clear E GF GO
          go_wp2
          go_ret
          exact ⟨ret_bool e.out.symm, B1.out.alloc B1.out.size _⟩
end Go.Proofs.YteibkipcblmikaaDoor
namespace Go.Proofs.YteibkipcblmikaaDoor
set_option maxRecDepth 100000
open Go.RowKit
set_option linter.unusedVariables false

theorem Env.alloc {w : World} (h : Env w) (o : Obj) : Env (w.alloc o) := h.below ((Below.refl w.heap.size w).alloc (Nat.le_refl _) o)
set_option maxHeartbeats 2000000 in
set_option maxRecDepth 100000 in
theorem oright_any (n r d t : Int) (l : List UInt8) (w : World) (hl : l.length ≤ maxLen) (hE : Env w) : Calls Tryd.prog 42 #[opv n r d t l] w (BoolRet (opR n r d t l) w) := by
  have K1 := hide (sright_any n r)
  have K2 := hide (node_any d)
  have K3 := hide (parent_any t)
  have K4 := hide (fun w => right_any l w hl)
  have E := hide (show (stR n r && ndB d && toB t && right l) = opR n r d t l from rfl)
  have HE := hide (hE.alloc (.cells #[.int .i64 n, .int .i64 r, .int .i64 d, .int .i64 t, .string (bs l)] 48))
  clear hE
  unfold st at K1
  unfold opv
  generalize opR n r d t l = R at E
  generalize stR n r = q1 at K1 E
  generalize ndB d = q2 at K2 E
  generalize toB t = q3 at K3 E
  generalize right l = q4 at K4 E
  have HA := hide (Bo.new w n r d t l 48)
  go_enter Tryd.func42, Tryd.ntmps42
  go_wp2_with fail
  refine (K1.out _).mono ?_
  rintro e w1 ⟨rfl, hb⟩
  obtain ⟨a0, a1, a2, a3, a4⟩ := HA.out.below hb (by simp)
  have HE1 := hide (HE.out.below hb)
  have B1 := hide ((Below.refl w.heap.size w).alloc (Nat.le_refl _) _ |>.trans (hb.mono (by simp)))
  have s1 := B1.out.size
  clear hb
  cases q1 with
  | false =>
    go_wp2
    go_ret
    exact ⟨ret_bool E.out, B1.out⟩
  | true =>
    go_wp2_with fail
    refine (K2.out _).mono ?_
    rintro e w2 ⟨rfl, rfl⟩
    cases q2 with
    | false =>
      go_wp2
      go_ret
      exact ⟨ret_bool E.out, B1.out⟩
    | true =>
      go_wp2_with fail
      refine (K3.out _).mono ?_
      rintro e w3 ⟨rfl, rfl⟩
      cases q3 with
      | false =>
        go_wp2
        go_ret
        exact ⟨ret_bool E.out, B1.out⟩
      | true =>
        go_wp2_with fail
        refine (K4.out _ HE1.out).mono ?_
        rintro e w4 ⟨rfl, hb4⟩
        have B4 := hide (B1.out.trans (hb4.mono s1))
        clear hb4
        go_wp2
        go_ret
        exact ⟨ret_bool E.out, B4.out⟩
end Go.Proofs.YteibkipcblmikaaDoor
