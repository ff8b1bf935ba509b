/-
  The walk of the law NameLonger: it answers true at every input, and changes nothing that was there. Conditions: Env (the library's variables).
-/
import Derived.Test.YtgjfgadjejeebaaDoorNAwake
import Derived.Test.YtgjfgadjejeebaaDoorNLongPure
namespace Go.Proofs.YtgjfgadjejeebaaDoor
open Go.RowKit Go.Shelf
set_option linter.unusedVariables false

set_option maxHeartbeats 8000000 in
set_option maxRecDepth 100000 in
theorem nLonger_in (l t : List UInt8) (w : World) (hl : l.length ≤ maxLen) (htl : t.length ≤ maxLen) (hE : Env w) : Calls Tryd.prog 7 #[.string (bs l), .string (bs t)] w (TrueRet w) := by
  have hm : maxLen = 9223372036854775807 := rfl
  have hsz := bs_size l
  have htz := bs_size t
  have EN := hide hE
  clear hE
  go_enter Tryd.func7, Tryd.ntmps7
  go_wp2_with fail
  refine (awake_any w EN.out).mono ?_
  rintro e w1 ⟨rfl, hb⟩
  have B1 := hide hb
  have s1 := hb.size
  clear hb
  by_cases h5 : 500 < l.length
  · have h5i : (500 : Int) < (l.length : Int) := by omega
    go_wp2
    go_ret
    exact ⟨rfl, B1.out⟩
  · have h5i : ¬ (500 : Int) < (l.length : Int) := by omega
    by_cases h1 : 100 < t.length
    · have h1i : (100 : Int) < (t.length : Int) := by omega
      go_wp2
      go_ret
      exact ⟨rfl, B1.out⟩
    · have h1i : ¬ (100 : Int) < (t.length : Int) := by omega
      go_wp2_with fail
      refine (split_any l w1 (by omega) (EN.out.below B1.out)).mono ?_
      rintro e w2 ⟨v2, rfl, htx, hb⟩
      have T2 := hide htx
      have B2 := hide (B1.out.trans (hb.mono s1))
      have s2 := B2.out.size
      clear hb htx B1 s1
      cases hsp : splitP l with
      | none =>
        rw [hsp] at T2
        clear hsp
        rw [errN_none]
        obtain ⟨A, c, rfl, -, -, -⟩ := (show Tx w2 v2 [] from T2.out)
        clear T2
        go_wp2
        go_ret
        exact ⟨rfl, B2.out⟩
      | some L =>
        rw [hsp] at T2
        rw [errN_some]
        obtain ⟨A, c, rfl, -, -, -⟩ := (show Tx w2 v2 L from T2.out)
        have hL4 := split_count l L hsp
        have HS := hide hsp
        clear hsp T2
        have hz4 : ({ data := #[47] } ++ bs t : ByteArray) = bs (47 :: t) := bs_add [47] t
        by_cases hL : L = []
        · have eu : longT l t L = l ++ t := by unfold longT; rw [if_pos hL]
          have e2 : bs l ++ bs t = bs (longT l t L) := by rw [eu, bs_add]
          have hul : (longT l t L).length ≤ 1000 := by rw [eu]; simp; omega
          have hL1 : ((L.length : Int) == 0) = true := by rw [hL]; rfl
          have k3 := split_any (longT l t L) w2 (by omega) (EN.out.below B2.out)
          by_cases ht : t = []
          · have hq : ((bs t).toList == []) = true := by rw [bs_list, ht]; rfl
            have hO : splitP (longT l t L) = some [] := by rw [eu, ht, List.append_nil, HS.out, hL]
            rw [hO] at k3
            clear hO eu ht hL HS hul
            generalize longT l t L = u at k3 e2
            go_wp2_with fail
            refine k3.mono ?_
            rintro e w3 ⟨v3, rfl, htx, hb⟩
            have T3 := hide htx
            have B3 := hide (B2.out.trans (hb.mono s2))
            have s3 := B3.out.size
            clear hb htx B2 s2 k3
            rw [errN_some]
            go_wp2
            go_ret
            exact ⟨rfl, B3.out⟩
          · have hn : L ≠ [] ∨ t ≠ [] := .inr ht
            have HT := hide ht
            clear eu ht hL hul
            rcases longer l t L HS.out hn with ⟨parts, M, G4, ht0, hu4, hO, hML, hrt⟩ | ⟨hO, hb⟩
            · have hp4 := split_count _ _ G4
              have hM4 := split_count _ _ hO
              rw [hO] at k3
              have hq : ((bs t).toList == []) = false := by rw [bs_list]; exact beq_eq_false_iff_ne.2 ht0
              clear hO ht0 HS
              generalize longT l t L = u at k3 hu4 e2
              have huz := bs_size u
              have hu4i : (u.length : Int) ≤ 400 := by omega
              have HM := hide hML
              have HR := hide hrt
              clear hML hrt
              go_wp2_with fail
              refine k3.mono ?_
              rintro e w3 ⟨v3, rfl, htx, hb⟩
              have T3 := hide htx
              have B3 := hide (B2.out.trans (hb.mono s2))
              have s3 := B3.out.size
              clear hb htx B2 s2 k3
              rw [errN_some]
              have k4 := split_any (47 :: t) w3 (by rw [List.length_cons]; omega) (EN.out.below B3.out)
              rw [G4] at k4
              clear G4
              go_wp2_with fail
              refine k4.mono ?_
              rintro e w4 ⟨v4, rfl, htx, hb⟩
              have U4 := hide htx
              have T4 := hide (T3.out.below hb)
              have B4 := hide (B3.out.trans (hb.mono s3))
              have s4 := B4.out.size
              clear hb htx B3 s3 k4 T3
              rw [errN_some]
              obtain ⟨A4, d4, rfl, -, -, -⟩ := (show Tx w4 v4 parts from U4.out)
              obtain ⟨A3, d3, rfl, -, -, -⟩ := (show Tx w4 v3 M from T4.out)
              clear U4 T4
              have hml : ((M.length : Int) == (L.length : Int) + (parts.length : Int)) = true := by rw [HM.out]; simp
              have hr1 : ((parts.length : Int) == 1) = right t := by
                rw [HR.out]
                by_cases h : parts.length = 1
                · rw [decide_eq_true h, h]; rfl
                · rw [decide_eq_false h]; simp only [beq_eq_false_iff_ne, ne_eq]; omega
              have k5 := right_any t w4 (by omega) (EN.out.below B4.out)
              have hrr : (right t == right t) = true := beq_self_eq_true _
              clear HM HR
              revert hr1 k5 hrr
              generalize right t = r
              intro hr1 k5 hrr
              go_wp2_with fail
              refine k5.mono ?_
              rintro e w5 ⟨rfl, hb⟩
              have B5 := hide (B4.out.trans (hb.mono s4))
              clear hb k5 B4 s4
              go_wp2
              go_ret
              exact ⟨rfl, B5.out⟩
            · rw [hO] at k3
              clear hO
              rcases hb with G4 | ⟨ht0, G4⟩ | ⟨parts, G4, ht0, hu4⟩
              · clear HS
                generalize longT l t L = u at k3 e2
                have huz := bs_size u
                go_wp2_with fail
                refine k3.mono ?_
                rintro e w3 ⟨v3, rfl, htx, hb⟩
                have T3 := hide htx
                have B3 := hide (B2.out.trans (hb.mono s2))
                have s3 := B3.out.size
                clear hb htx B2 s2 k3
                rw [errN_none]
                by_cases ht0 : t = []
                · subst ht0
                  cases G4
                · have hq : ((bs t).toList == []) = false := by rw [bs_list]; exact beq_eq_false_iff_ne.2 ht0
                  clear ht0
                  have k4 := split_any (47 :: t) w3 (by rw [List.length_cons]; omega) (EN.out.below B3.out)
                  rw [G4] at k4
                  clear G4
                  go_wp2_with fail
                  refine k4.mono ?_
                  rintro e w4 ⟨v4, rfl, htx, hb⟩
                  have U4 := hide htx
                  have T4 := hide (T3.out.below hb)
                  have B4 := hide (B3.out.trans (hb.mono s3))
                  have s4 := B4.out.size
                  clear hb htx B3 s3 k4 T3
                  rw [errN_none]
                  go_wp2
                  go_ret
                  exact ⟨rfl, B4.out⟩
              · exact absurd ht0 HT.out
              · have hq : ((bs t).toList == []) = false := by rw [bs_list]; exact beq_eq_false_iff_ne.2 ht0
                clear HS ht0
                generalize longT l t L = u at k3 e2 hu4
                have huz := bs_size u
                have hu4i : decide ((u.length : Int) ≤ 400) = false := decide_eq_false (by omega)
                go_wp2_with fail
                refine k3.mono ?_
                rintro e w3 ⟨v3, rfl, htx, hb⟩
                have T3 := hide htx
                have B3 := hide (B2.out.trans (hb.mono s2))
                have s3 := B3.out.size
                clear hb htx B2 s2 k3
                rw [errN_none]
                have k4 := split_any (47 :: t) w3 (by rw [List.length_cons]; omega) (EN.out.below B3.out)
                rw [G4] at k4
                clear G4
                go_wp2_with fail
                refine k4.mono ?_
                rintro e w4 ⟨v4, rfl, htx, hb⟩
                have U4 := hide htx
                have T4 := hide (T3.out.below hb)
                have B4 := hide (B3.out.trans (hb.mono s3))
                have s4 := B4.out.size
                clear hb htx B3 s3 k4 T3
                rw [errN_some]
                go_wp2
                go_ret
                exact ⟨rfl, B4.out⟩
        · have eu : longT l t L = l ++ 47 :: t := by unfold longT; rw [if_neg hL]
          have e2 : bs l ++ { data := #[47] } ++ bs t = bs (longT l t L) := by
            have e : ({ data := #[47] } : ByteArray) = bs [47] := rfl
            rw [eu, e, bs_add, bs_add, List.append_assoc]
            rfl
          have hul : (longT l t L).length ≤ 1000 := by rw [eu]; simp; omega
          have hL1 : ((L.length : Int) == 0) = false := by
            have := List.length_pos_iff.2 hL
            simp only [beq_eq_false_iff_ne, ne_eq]
            omega
          have k3 := split_any (longT l t L) w2 (by omega) (EN.out.below B2.out)
          have hn : L ≠ [] ∨ t ≠ [] := .inl hL
          clear eu hL hul
          rcases longer l t L HS.out hn with ⟨parts, M, G4, ht0, hu4, hO, hML, hrt⟩ | ⟨hO, hb⟩
          · have hp4 := split_count _ _ G4
            have hM4 := split_count _ _ hO
            rw [hO] at k3
            have hq : ((bs t).toList == []) = false := by rw [bs_list]; exact beq_eq_false_iff_ne.2 ht0
            clear hO ht0 HS
            generalize longT l t L = u at k3 hu4 e2
            have huz := bs_size u
            have hu4i : (u.length : Int) ≤ 400 := by omega
            have HM := hide hML
            have HR := hide hrt
            clear hML hrt
            go_wp2_with fail
            refine k3.mono ?_
            rintro e w3 ⟨v3, rfl, htx, hb⟩
            have T3 := hide htx
            have B3 := hide (B2.out.trans (hb.mono s2))
            have s3 := B3.out.size
            clear hb htx B2 s2 k3
            rw [errN_some]
            have k4 := split_any (47 :: t) w3 (by rw [List.length_cons]; omega) (EN.out.below B3.out)
            rw [G4] at k4
            clear G4
            go_wp2_with fail
            refine k4.mono ?_
            rintro e w4 ⟨v4, rfl, htx, hb⟩
            have U4 := hide htx
            have T4 := hide (T3.out.below hb)
            have B4 := hide (B3.out.trans (hb.mono s3))
            have s4 := B4.out.size
            clear hb htx B3 s3 k4 T3
            rw [errN_some]
            obtain ⟨A4, d4, rfl, -, -, -⟩ := (show Tx w4 v4 parts from U4.out)
            obtain ⟨A3, d3, rfl, -, -, -⟩ := (show Tx w4 v3 M from T4.out)
            clear U4 T4
            have hml : ((M.length : Int) == (L.length : Int) + (parts.length : Int)) = true := by rw [HM.out]; simp
            have hr1 : ((parts.length : Int) == 1) = right t := by
              rw [HR.out]
              by_cases h : parts.length = 1
              · rw [decide_eq_true h, h]; rfl
              · rw [decide_eq_false h]; simp only [beq_eq_false_iff_ne, ne_eq]; omega
            have k5 := right_any t w4 (by omega) (EN.out.below B4.out)
            have hrr : (right t == right t) = true := beq_self_eq_true _
            clear HM HR
            revert hr1 k5 hrr
            generalize right t = r
            intro hr1 k5 hrr
            go_wp2_with fail
            refine k5.mono ?_
            rintro e w5 ⟨rfl, hb⟩
            have B5 := hide (B4.out.trans (hb.mono s4))
            clear hb k5 B4 s4
            go_wp2
            go_ret
            exact ⟨rfl, B5.out⟩
          · rw [hO] at k3
            clear hO
            rcases hb with G4 | ⟨ht0, G4⟩ | ⟨parts, G4, ht0, hu4⟩
            · clear HS
              generalize longT l t L = u at k3 e2
              have huz := bs_size u
              go_wp2_with fail
              refine k3.mono ?_
              rintro e w3 ⟨v3, rfl, htx, hb⟩
              have T3 := hide htx
              have B3 := hide (B2.out.trans (hb.mono s2))
              have s3 := B3.out.size
              clear hb htx B2 s2 k3
              rw [errN_none]
              by_cases ht0 : t = []
              · subst ht0
                cases G4
              · have hq : ((bs t).toList == []) = false := by rw [bs_list]; exact beq_eq_false_iff_ne.2 ht0
                clear ht0
                have k4 := split_any (47 :: t) w3 (by rw [List.length_cons]; omega) (EN.out.below B3.out)
                rw [G4] at k4
                clear G4
                go_wp2_with fail
                refine k4.mono ?_
                rintro e w4 ⟨v4, rfl, htx, hb⟩
                have U4 := hide htx
                have T4 := hide (T3.out.below hb)
                have B4 := hide (B3.out.trans (hb.mono s3))
                have s4 := B4.out.size
                clear hb htx B3 s3 k4 T3
                rw [errN_none]
                go_wp2
                go_ret
                exact ⟨rfl, B4.out⟩
            · have hq : ((bs t).toList == []) = true := by rw [bs_list, ht0]; rfl
              have hL : L ≠ [] := hn.resolve_right (fun h => h ht0)
              have hL0 : ((L.length : Int) == 0) = false := by
                have := List.length_pos_iff.2 hL
                simp only [beq_eq_false_iff_ne, ne_eq]
                omega
              clear HS ht0 hL
              generalize longT l t L = u at k3 e2
              have huz := bs_size u
              go_wp2_with fail
              refine k3.mono ?_
              rintro e w3 ⟨v3, rfl, htx, hb⟩
              have T3 := hide htx
              have B3 := hide (B2.out.trans (hb.mono s2))
              have s3 := B3.out.size
              clear hb htx B2 s2 k3
              rw [errN_none]
              have k4 := split_any (47 :: t) w3 (by rw [List.length_cons]; omega) (EN.out.below B3.out)
              rw [G4] at k4
              clear G4
              go_wp2_with fail
              refine k4.mono ?_
              rintro e w4 ⟨v4, rfl, htx, hb⟩
              have U4 := hide htx
              have T4 := hide (T3.out.below hb)
              have B4 := hide (B3.out.trans (hb.mono s3))
              have s4 := B4.out.size
              clear hb htx B3 s3 k4 T3
              rw [errN_some]
              go_wp2
              go_ret
              exact ⟨rfl, B4.out⟩
            · have hq : ((bs t).toList == []) = false := by rw [bs_list]; exact beq_eq_false_iff_ne.2 ht0
              clear HS ht0
              generalize longT l t L = u at k3 e2 hu4
              have huz := bs_size u
              have hu4i : decide ((u.length : Int) ≤ 400) = false := decide_eq_false (by omega)
              go_wp2_with fail
              refine k3.mono ?_
              rintro e w3 ⟨v3, rfl, htx, hb⟩
              have T3 := hide htx
              have B3 := hide (B2.out.trans (hb.mono s2))
              have s3 := B3.out.size
              clear hb htx B2 s2 k3
              rw [errN_none]
              have k4 := split_any (47 :: t) w3 (by rw [List.length_cons]; omega) (EN.out.below B3.out)
              rw [G4] at k4
              clear G4
              go_wp2_with fail
              refine k4.mono ?_
              rintro e w4 ⟨v4, rfl, htx, hb⟩
              have U4 := hide htx
              have T4 := hide (T3.out.below hb)
              have B4 := hide (B3.out.trans (hb.mono s3))
              have s4 := B4.out.size
              clear hb htx B3 s3 k4 T3
              rw [errN_some]
              go_wp2
              go_ret
              exact ⟨rfl, B4.out⟩
theorem nameLonger_walk (a0 a1 : ByteArray) (w : World) (w0 : a0.size ≤ maxLen) (w1 : a1.size ≤ maxLen) (hE : Env w) : Calls Tryd.prog 7 #[.string a0, .string a1] w (TrueRet w) := by
  rw [← bs_of a0, ← bs_of a1]
  exact nLonger_in a0.data.toList a1.data.toList w w0 w1 hE
end Go.Proofs.YtgjfgadjejeebaaDoor
