/-
  The walk of the law NameCuts: it answers true at every input, and changes nothing that was there. Conditions: Env (the library's variables).
-/
import Derived.Test.YtgjfgadjejeebaaDoorNAwake
namespace Go.Proofs.YtgjfgadjejeebaaDoor
open Go.RowKit Go.Shelf
set_option linter.unusedVariables false

theorem len_one {α : Type} (a : List α) (x : α) : (a ++ [x]).length = a.length + 1 := by simp
set_option maxHeartbeats 4000000 in
set_option maxRecDepth 100000 in
theorem nCuts_in (l : List UInt8) (w : World) (hl : l.length ≤ maxLen) (hE : Env w) : Calls Tryd.prog 6 #[.string (bs l)] w (TrueRet w) := by
  have hm : maxLen = 9223372036854775807 := rfl
  have hsz := bs_size l
  have EN := hide hE
  clear hE
  go_enter Tryd.func6, Tryd.ntmps6
  go_wp2_with fail
  refine (awake_any w EN.out).mono ?_
  rintro e w1 ⟨rfl, hb⟩
  have B1 := hide hb
  have s1 := hb.size
  clear hb
  by_cases h5 : 500 < l.length
  · have h5i : (500 : Int) < (l.length : Int) := by omega
    go_wp2
    go_ret
    exact ⟨rfl, B1.out⟩
  · have h5i : ¬ (500 : Int) < (l.length : Int) := by omega
    go_wp2_with fail
    refine (split_any l w1 (by omega) (EN.out.below B1.out)).mono ?_
    rintro e w2 ⟨v2, rfl, htx, hb⟩
    have T2 := hide htx
    have B2 := hide (B1.out.trans (hb.mono s1))
    have s2 := B2.out.size
    clear hb htx B1 s1
    have hq0 : ((bs []).toList == []) = true := by rw [bs_list]; rfl
    cases hsp : splitP l with
    | none =>
      have e1 := cut_none l hsp
      rw [errN_none]
      have k3 := cut_any l w2 (by omega) (EN.out.below B2.out)
      rw [e1] at k3
      have k3 : Calls Tryd.prog 17 #[.string (bs l)] w2 fun e w' => e = .returned (.tuple #[.string (bs []), .string (bs []), .int .i64 4]) ∧ Below w2.heap.size w2 w' := k3
      clear hsp e1
      go_wp2_with fail
      refine k3.mono ?_
      rintro e w3 ⟨rfl, hb⟩
      have T3 := hide (T2.out.below hb)
      have B3 := hide (B2.out.trans (hb.mono s2))
      have s3 := B3.out.size
      clear hb T2 B2 s2 k3
      go_wp2
      go_ret
      exact ⟨rfl, B3.out⟩
    | some m =>
      rw [hsp] at T2
      rw [errN_some]
      have T2' := hide (show Tx w2 v2 m from T2.out)
      clear T2
      have T2 := T2'
      clear T2'
      rcases List.eq_nil_or_concat m with h0 | ⟨m0, x, h0⟩
      · subst h0
        have e1 : cutP l = none := by unfold cutP; rw [hsp]; rfl
        have k3 := cut_any l w2 (by omega) (EN.out.below B2.out)
        rw [e1] at k3
        have k3 : Calls Tryd.prog 17 #[.string (bs l)] w2 fun e w' => e = .returned (.tuple #[.string (bs []), .string (bs []), .int .i64 4]) ∧ Below w2.heap.size w2 w' := k3
        clear hsp e1
        go_wp2_with fail
        refine k3.mono ?_
        rintro e w3 ⟨rfl, hb⟩
        have T3 := hide (T2.out.below hb)
        have B3 := hide (B2.out.trans (hb.mono s2))
        have s3 := B3.out.size
        clear hb T2 B2 s2 k3
        obtain ⟨A, c, rfl, _, _, _⟩ := T3.out
        clear T3
        go_wp2
        go_ret
        exact ⟨rfl, B3.out⟩
      · rw [List.concat_eq_append] at h0
        subst h0
        have e1 := cut_some l m0 x hsp
        have k3 := cut_any l w2 (by omega) (EN.out.below B2.out)
        rw [e1] at k3
        have k3 : Calls Tryd.prog 17 #[.string (bs l)] w2 fun e w' => e = .returned (.tuple #[.string (bs (pathOf m0)), .string (bs x), .int .i64 0]) ∧ Below w2.heap.size w2 w' := k3
        obtain ⟨p1, p2, p3, -⟩ := splitP_some l _ hsp
        obtain ⟨q1, q2⟩ := split_short l _ hsp
        have hq : m0.all right = true ∧ (J m0).length ≤ 400 ∧ right x = true := by
          rw [List.all_append, Bool.and_eq_true] at q1
          refine ⟨q1.1, ?_, by simpa using q1.2⟩
          rw [J_append, List.length_append] at q2
          omega
        have RX := hide hq.2.2
        have hxl := right_len x hq.2.2
        have hpl : (pathOf m0).length ≤ 401 := by
          unfold pathOf
          split
          · simp
          · omega
        have hsu := split_path m0 hq.1 hq.2.1
        have hpa := path_last m0 x hq.1
        rw [← p1] at hpa
        have PA := hide hpa
        have SU := hide hsu
        clear hpa hsu
        clear hsp e1 p1 p2 p3 q1 q2 hq
        go_wp2_with fail
        refine k3.mono ?_
        rintro e w3 ⟨rfl, hb⟩
        have T3 := hide (T2.out.below hb)
        have B3 := hide (B2.out.trans (hb.mono s2))
        have s3 := B3.out.size
        clear hb T2 B2 s2 k3
        obtain ⟨A, c, rfl, hc, hcm, hcell⟩ := T3.out
        obtain ⟨g, o, hA, hcl⟩ := hcell.resolve_left (by simp)
        subst hA
        have hx : w3.cell? ⟨g, o + m0.length, none⟩ = some (.string (bs x)) := by
          have := hcl m0.length (by simp)
          simpa using this
        have X3 := hide hx
        rw [len_one] at hc
        have elen := len_one m0 x
        clear hx hcl hcell T3
        have k4 := split_any (pathOf m0) w3 (by omega) (EN.out.below B3.out)
        rw [SU.out] at k4
        clear SU
        revert k4 PA hpl
        generalize pathOf m0 = u
        intro hpl PA k4
        have huz := bs_size u
        have hxz := bs_size x
        rw [elen]
        clear elen
        go_wp2_with fail
        refine k4.mono ?_
        rintro e w4 ⟨v4, rfl, htx, hb⟩
        have c4 : w4.cell? ⟨g, o + m0.length, none⟩ = some (.string (bs x)) := (hb.cell (World.block_lt_of_cell? w3 _ X3.out)).trans X3.out
        obtain ⟨A4, d4, rfl, _, _, _⟩ := (show Tx w4 v4 m0 from htx)
        have B4 := hide (B3.out.trans (hb.mono s3))
        have s4 := B4.out.size
        clear hb htx B3 s3 X3 k4
        rw [errN_some]
        by_cases hr : u = [47]
        · have e2 : bs u ++ bs x = bs l := by
            have := PA.out
            rw [if_pos hr] at this
            rw [bs_add, ← this]
          have hr2 : ((bs u).toList == [47]) = true := by rw [bs_list, hr]; rfl
          clear PA hr
          have hq3 : ((bs l).toList == (bs l).toList) = true := beq_self_eq_true _
          have hq4 : ((bs x).toList == (bs x).toList) = true := beq_self_eq_true _
          go_wp2_with fail
          have k5 := right_any x w4 (by omega) (EN.out.below B4.out)
          rw [RX.out] at k5
          refine k5.mono ?_
          rintro e w5 ⟨rfl, hb⟩
          have B5 := hide (B4.out.trans (hb.mono s4))
          clear hb k5 B4 s4
          go_wp2
          go_ret
          exact ⟨rfl, B5.out⟩
        · have e2 : bs u ++ { data := #[47] } ++ bs x = bs l := by
            have := PA.out
            rw [if_neg hr] at this
            have e : ({ data := #[47] } : ByteArray) = bs [47] := rfl
            rw [e, bs_add, bs_add, this, List.append_assoc]
            rfl
          have hr2 : ((bs u).toList == [47]) = false := by rw [bs_list]; exact beq_eq_false_iff_ne.2 hr
          clear PA hr
          have hq3 : ((bs l).toList == (bs l).toList) = true := beq_self_eq_true _
          have hq4 : ((bs x).toList == (bs x).toList) = true := beq_self_eq_true _
          go_wp2_with fail
          have k5 := right_any x w4 (by omega) (EN.out.below B4.out)
          rw [RX.out] at k5
          refine k5.mono ?_
          rintro e w5 ⟨rfl, hb⟩
          have B5 := hide (B4.out.trans (hb.mono s4))
          clear hb k5 B4 s4
          go_wp2
          go_ret
          exact ⟨rfl, B5.out⟩
theorem nameCuts_walk (a0 : ByteArray) (w : World) (w0 : a0.size ≤ maxLen) (hE : Env w) : Calls Tryd.prog 6 #[.string a0] w (TrueRet w) := by
  rw [← bs_of a0]
  exact nCuts_in a0.data.toList w w0 hE
end Go.Proofs.YtgjfgadjejeebaaDoor
