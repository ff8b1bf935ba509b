/-
  The program's Split: it answers a path's names, or the error; nothing that was there is changed. Conditions: Env (the library's variables), and that the text is shorter than 2^32 - 15 bytes.
-/
import Derived.Test.YtlcmkikjgelfaaaDoorNRight
namespace Go.Proofs.YtlcmkikjgelfaaaDoor
set_option maxRecDepth 100000
open Go.RowKit Go.Shelf
set_option linter.unusedVariables false

theorem clone_any (l : List UInt8) (w : World) (hl : l.length ≤ 281474976710656) : Calls Tryd.prog 40 #[.string (bs l)] w fun e w' => e = .returned (.string (bs l)) ∧ Below w.heap.size w w' := by
  go_enter Tryd.func40, Tryd.ntmps40
  go_wp2_with fail
  refine (lib_clone l w hl).mono ?_
  rintro e w1 ⟨rfl, hb⟩
  go_wp2
  go_ret
  exact ⟨rfl, hb⟩
/-- Texts as cells. -/
def tc (ls : List (List UInt8)) : Array Value := (ls.map fun x => Value.string (bs x)).toArray
theorem tc_get (ls : List (List UInt8)) (i : Nat) (h : i < ls.length) : (tc ls)[i]? = some (.string (bs ls[i])) := by simp [tc, h]
theorem tc_set (ls : List (List UInt8)) (i : Nat) (h : i < ls.length) : (tc ls).setIfInBounds i (.string (bs ls[i])) = tc ls := by
  have hs : i < (tc ls).size := by simp [tc, h]
  have e := tc_get ls i h
  rw [Array.getElem?_eq_getElem hs, Option.some.injEq] at e
  rw [← e]
  simp [Array.setIfInBounds, hs]
theorem splitP_long (t : List UInt8) (h0 : t ≠ []) (h : 400 < (47 :: t).length) : splitP (47 :: t) = none := by
  unfold splitP
  rw [if_neg (by intro e; injection e with _ e; exact h0 e), if_neg (by rintro ⟨e, _⟩; omega)]
theorem splitP_head (l : List UInt8) (h : l.head? ≠ some 47) : splitP l = none := by
  unfold splitP
  rw [if_neg (by intro e; subst e; exact h rfl), if_neg (by rintro ⟨_, e, _⟩; exact h e)]
theorem splitP_bad (t : List UInt8) (h0 : t ≠ []) (h : (splitS t).all right = false) : splitP (47 :: t) = none := by
  unfold splitP
  rw [if_neg (by intro e; injection e with _ e; exact h0 e), if_neg (by rintro ⟨_, _, e⟩; rw [List.tail_cons, h] at e; cases e)]
theorem splitP_good (t : List UInt8) (h0 : t ≠ []) (hl : (47 :: t).length ≤ 400) (h : (splitS t).all right = true) : splitP (47 :: t) = some (splitS t) := by
  unfold splitP
  rw [if_neg (by intro e; injection e with _ e; exact h0 e), if_pos ⟨hl, rfl, h⟩, List.tail_cons]
theorem all_at (ls : List (List UInt8)) (i : Nat) (h : i < ls.length) (hb : right ls[i] = false) : ls.all right = false := by
  cases hq : ls.all right with
  | false => rfl
  | true =>
    have := List.all_eq_true.1 hq ls[i] (List.getElem_mem h)
    rw [hb] at this
    cases this
theorem splitS_len (t : List UInt8) : (splitS t).length ≤ t.length + 1 := by
  have h := (split_plain t.length t (Nat.le_refl _)).2
  have h2 := Lib.count_le t [47]
  have e := congrArg List.length (J_split t)
  have h3 : ∀ ls : List (List UInt8), ls.length ≤ (J ls).length := by
    intro ls
    induction ls with
    | nil => exact Nat.zero_le _
    | cons n ls ih => rw [J_cons]; simp; omega
  have := h3 (splitS t)
  rw [e] at this
  simpa using this
theorem splitS_mem (t : List UInt8) (x : List UInt8) (h : x ∈ splitS t) : x.length ≤ t.length := by
  have e := congrArg List.length (J_split t)
  have h3 : ∀ (ls : List (List UInt8)) (x : List UInt8), x ∈ ls → x.length + 1 ≤ (J ls).length := by
    intro ls
    induction ls with
    | nil => intro x h; cases h
    | cons n ls ih =>
      intro x h
      rw [J_cons]
      rcases List.mem_cons.1 h with rfl | h
      · simp
      · have := ih x h
        simp
        omega
  have := h3 _ x h
  rw [e] at this
  simpa using this
def SplitRel (w : World) (ls : List (List UInt8)) (v : Value) (wr : World) : Prop :=
  ∃ i, i ≤ ls.length ∧ v = .int .i64 (i : Int) ∧ wr.heap[w.heap.size]? = some (.cells (tc ls) 9 (0, 0)) ∧ Below w.heap.size w wr ∧ (ls.take i).all right = true
set_option maxHeartbeats 2000000 in
set_option maxRecDepth 100000 in
theorem split_any (l : List UInt8) (w : World) (hl : l.length < 4294967281) (hE : Env w) : Calls Tryd.prog 46 #[.string (bs l)] w (SplitRet w (splitP l)) := by
  have hm : maxLen = 9223372036854775807 := rfl
  have hsz := bs_size l
  have EN := hide hE
  clear hE
  by_cases hr : l = [47]
  · subst hr
    have hq : ((bs [47]).toList == [47]) = true := by rw [bs_list]; rfl
    go_enter Tryd.func46, Tryd.ntmps46
    go_wp2
    go_ret2
    exact ⟨_, rfl, Tx.nil _, Below.refl _ _⟩
  · have hq : ((bs l).toList == [47]) = false := by rw [bs_list]; exact beq_eq_false_iff_ne.2 hr
    by_cases hh : l.head? = some 47
    · obtain ⟨t, rfl⟩ : ∃ t, l = 47 :: t := by
        cases l with
        | nil => cases hh
        | cons c t => injection hh with hh; subst hh; exact ⟨t, rfl⟩
      have h0 : t ≠ [] := fun e => hr (by rw [e])
      by_cases h4 : 400 < (47 :: t).length
      · have h4i : (400 : Int) < (t.length : Int) + 1 := by rw [List.length_cons] at h4; omega
        have E := hide (splitP_long t h0 h4)
        go_enter Tryd.func46, Tryd.ntmps46
        go_wp2_with fail
        refine (lib_cut_yes t w).mono ?_
        rintro e w1 ⟨rfl, rfl⟩
        go_wp2
        go_ret2
        rw [E.out]
        exact ⟨_, rfl, Tx.nil _, Below.refl _ _⟩
      · have h4i : ¬ (400 : Int) < (t.length : Int) + 1 := by rw [List.length_cons] at h4; omega
        have ht : t.length < 400 := by simp at h4; omega
        have hn := splitS_len t
        have S1 := hide (splitP_bad t h0)
        have S2 := hide (splitP_good t h0 (by omega))
        have S3 := hide (fun x h => splitS_mem t x h)
        have hc := lib_split t w (by omega) EN.out
        revert hn S1 S2 S3 hc
        generalize splitS t = ls
        intro hn S1 S2 S3 hc
        go_enter Tryd.func46, Tryd.ntmps46
        go_wp2_with fail
        refine (lib_cut_yes t w).mono ?_
        rintro e w1 ⟨rfl, rfl⟩
        go_wp2_with fail
        refine hc.mono ?_
        rintro e w2 ⟨rfl, hw2⟩
        have A2 := hide (show w2.heap[w1.heap.size]? = some (.cells (tc ls) 9 (0, 0)) by rw [hw2]; exact heap_alloc_new w1 _)
        have B2 := hide (show Below w1.heap.size w1 w2 by rw [hw2]; exact (Below.refl _ _).alloc (Nat.le_refl _) _)
        clear hw2 hc
        go_wp2_with fail
        go_loopw [27] (SplitRel w1 ls) (fun k _ => ls.length - (intOf k).toNat)
        case atStart => exact ⟨0, Nat.zero_le _, rfl, A2.out, B2.out, rfl⟩
        case round =>
          obtain ⟨i, hi, rfl, hg, hb, ha⟩ := hrel
          have G := hide hg
          have HB := hide hb
          have HA := hide ha
          clear hg hb ha
          by_cases hlt : i < ls.length
          · have hx : wr.cell? ⟨w1.heap.size, i, none⟩ = some (.string (bs ls[i])) := by rw [cell_of_row wr _ i _ _ (0, 0) G.out]; exact tc_get ls i hlt
            have T1 := hide (fun hb => S1.out (all_at ls i hlt hb))
            have T2 := hide (fun hb : right ls[i] = true => show (ls.take (i + 1)).all right = true by rw [List.take_succ_eq_append_getElem hlt, List.all_append, HA.out]; simp [hb])
            have T3 := hide (tc_set ls i hlt)
            have T4 := hide (tc_get ls i hlt)
            have hx4 := S3.out ls[i] (List.getElem_mem hlt)
            clear HA
            revert hx T1 T2 T3 T4 hx4
            generalize ls[i] = x
            intro hx T1 T2 T3 T4 hx4
            go_wp2_with fail
            refine (right_any x wr (by omega) (EN.out.below HB.out)).mono ?_
            rintro e w3 ⟨rfl, hb3⟩
            have s1 := HB.out.size
            have G3 := hide ((hb3.block _ (Array.getElem?_eq_some_iff.1 G.out).1).trans G.out)
            have B3 := hide (HB.out.trans (hb3.mono s1))
            have s3 := B3.out.size
            clear hb3 G HB hx s1
            rcases hrt : right x with _ | _
            · have E := hide (T1.out hrt)
              clear hrt T1 T2 T3
              go_wp2
              go_ret2
              rw [E.out]
              exact ⟨_, rfl, Tx.nil _, B3.out⟩
            · have U2 := hide (T2.out hrt)
              clear hrt T1 T2
              go_wp2_with fail
              refine (clone_any x w3 (by omega)).mono ?_
              rintro e w4 ⟨rfl, hb4⟩
              have G4 := hide ((hb4.block _ (Array.getElem?_eq_some_iff.1 G3.out).1).trans G3.out)
              have B4 := hide (B3.out.trans (hb4.mono s3))
              clear hb4 G3 B3 s3
              have c4 : w4.cell? ⟨w1.heap.size, i, none⟩ = some (.string (bs x)) := by rw [cell_of_row w4 _ i _ _ (0, 0) G4.out]; exact T4.out
              have z4 := frozen_of_row w4 _ i _ _ G4.out
              go_wp2_with fail
              refine ⟨⟨i + 1, by omega, by go_num, ?_, ?_, U2.out⟩, ?_⟩
              · rw [heap_setCell_same w4 _ i _ _ _ G4.out, T3.out]
              · exact B4.out.setCell (Nat.le_refl _) _
              · simp [intOf]
                omega
          · have E := hide (S2.out (by have := HA.out; rwa [show i = ls.length by omega, List.take_length] at this))
            go_wp2
            go_ret2
            rw [E.out]
            refine ⟨_, rfl, ?_, HB.out⟩
            refine ⟨_, _, rfl, Nat.le_refl _, by show ls.length ≤ maxLen; omega, .inr ⟨_, _, rfl, fun j hj => ?_⟩⟩
            rw [cell_of_row wr _ _ _ _ (0, 0) G.out, Nat.zero_add]
            exact tc_get ls j hj
    · have E := hide (splitP_head l hh)
      go_enter Tryd.func46, Tryd.ntmps46
      go_wp2_with fail
      refine (lib_cut_no l hh w).mono ?_
      rintro e w1 ⟨rfl, rfl⟩
      go_wp2
      go_ret2
      rw [E.out]
      exact ⟨_, rfl, Tx.nil _, Below.refl _ _⟩
end Go.Proofs.YtlcmkikjgelfaaaDoor
