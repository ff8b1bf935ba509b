/-
  The walk of ArenaNew. No conditions.
-/
import Derived.Test.YtooejagekkgpaaaAStr
namespace Go.Proofs.Ytooejagekkgpaaa
open Go.RowKit
set_option linter.unusedVariables false
set_option linter.unusedSimpArgs false
set_option maxRecDepth 100000

def NwRel (w : World) (g most q : Nat) (v : Value) (wr : World) : Prop := ∃ i : Nat, i ≤ q ∧ v = .int .i64 (i : Int) ∧ Sn w wr g most i
set_option maxHeartbeats 4000000 in
theorem arenaNew_walk (a : Int) (W : World) (ha : (Lit.int .i64 a).wf = true) :
    Calls Try.prog 4 #[.int .i64 a] W (TrueRet W) := by
  have ha := bounds_i64 ha
  have ha' : i64B a := by unfold i64B; omega
  have KN := hide (fun w => snew_any a ha' w)
  by_cases h0 : a < 0
  · have hif : ¬ (0 ≤ a ∧ a ≤ 1048576) := by omega
    simp only [if_neg hif] at KN
    clear hif
    go_enter Try.func4, Try.ntmps4
    go_wp2_with fail
    refine (awake_any W).mono ?_
    rintro e w1 ⟨rfl, hb1⟩
    have B1 := hide hb1
    clear hb1
    go_wp2_with fail
    refine (KN.out w1).mono ?_
    rintro e w2 ⟨hb, rfl⟩
    have B2 := hide (B1.out.trans (hb.mono B1.out.size))
    clear hb B1
    go_wp2
    go_ret
    exact ⟨rfl, B2.out⟩
  · by_cases h1 : 1048576 < a
    · have hif : ¬ (0 ≤ a ∧ a ≤ 1048576) := by omega
      simp only [if_neg hif] at KN
      clear hif
      go_enter Try.func4, Try.ntmps4
      go_wp2_with fail
      refine (awake_any W).mono ?_
      rintro e w1 ⟨rfl, hb1⟩
      have B1 := hide hb1
      clear hb1
      go_wp2_with fail
      refine (KN.out w1).mono ?_
      rintro e w2 ⟨hb, rfl⟩
      have B2 := hide (B1.out.trans (hb.mono B1.out.size))
      clear hb B1
      go_wp2
      go_ret
      exact ⟨rfl, B2.out⟩
    · obtain ⟨m, rfl⟩ : ∃ m : Nat, a = m := ⟨a.toNat, by omega⟩
      have hif : 0 ≤ (m : Int) ∧ (m : Int) ≤ 1048576 := by omega
      simp only [if_pos hif, Int.toNat_natCast] at KN
      clear hif
      have e1 : decide ((m : Int) > 1048576) = false := by simp; omega
      obtain ⟨q, hq⟩ : ∃ q : Nat, q = if m ≤ 40 then m else 40 := ⟨_, rfl⟩
      have hq1 : q ≤ m ∧ q ≤ 40 := by split at hq <;> omega
      have HQ := hide hq
      clear hq ha ha'
      go_enter Try.func4, Try.ntmps4
      go_wp2_with fail
      refine (awake_any W).mono ?_
      rintro e w1 ⟨rfl, hb1⟩
      have B1 := hide hb1
      clear hb1
      go_wp2_with fail
      refine (KN.out w1).mono ?_
      rintro e w2 ⟨hb, rfl, hS⟩
      have S2 := hide (show Sn W w2 w1.heap.size m 0 from by
        obtain ⟨h1, h2, h3, vs, xs, h4, h5, h6⟩ := hS
        exact ⟨B1.out.trans (hb.mono B1.out.size), h2, h3, vs, xs, h4, Nat.le_trans B1.out.size h5, fun b hb' => Nat.le_trans B1.out.size (h6 b hb')⟩)
      clear hb hS B1 KN
      generalize w1.heap.size = g at S2 ⊢
      go_wp2_with fail
      refine (sroom_any W g m 0 w2 S2.out).mono ?_
      rintro e w3 ⟨rfl, hb⟩
      have S3 := hide (S2.out.below hb)
      clear hb S2
      rw [Nat.sub_zero]
      go_wp2_with fail
      refine (slive_any W g m 0 w3 S3.out).mono ?_
      rintro e w4 ⟨rfl, hb⟩
      have S4 := hide (S3.out.below hb)
      clear hb S3
      go_wp2_with fail
      go_loopw [5] (NwRel W g m q) (fun i _ => q - (intOf i).toNat)
      case atStart => exact ⟨0, Nat.zero_le _, rfl, S4.out⟩
      case round =>
        obtain ⟨i, hi, rfl, hz⟩ := hrel
        have HZ := hide hz
        clear hz
        by_cases h40 : (40 : Int) < (m : Int)
        · have hq40 : q = 40 := by rw [HQ.out, if_neg (by omega)]
          subst hq40
          by_cases hlt : i < 40
          · have d0 : decide ((i : Int) < 40) = true := by simp; omega
            go_wp2_with fail
            refine (sput_any W g m i [120] (by omega) (by omega) wr HZ.out).mono ?_
            rintro e w5 ⟨rfl, hz⟩
            have HZ5 := hide (hz.below ((Below.refl _ w5).alloc (Nat.le_refl _) (.cells #[.int .i64 ((i : Int) + 1), .int .i64 1] 31)))
            have X5 := hide (Hb.new w5 ((i : Int) + 1) 1)
            clear hz HZ
            go_upto_region 13 with (fail)
            generalize w5.heap.size = k5 at X5 ⊢
            generalize w5.alloc (.cells #[.int .i64 ((i : Int) + 1), .int .i64 1] 31) = w6 at HZ5 X5 ⊢
            obtain ⟨x0, x1⟩ := X5.out.two
            go_wp2_with fail
            go_roundw
            case rel => exact ⟨i + 1, by omega, by go_num, HZ5.out⟩
            case measure => simp [intOf]; omega
          · obtain rfl : i = 40 := by omega
            go_wp2_with fail
            refine (sroom_any W g m 40 wr HZ.out).mono ?_
            rintro e w5 ⟨rfl, hb⟩
            have B := hide (HZ.out.below hb).bel
            clear hb HZ
            rw [show ((m - 40 : Nat) : Int) = (m : Int) - 40 by omega]
            go_wp2
            go_ret
            exact ⟨by simp, B.out⟩
        · have hqm : q = m := by rw [HQ.out, if_pos (by omega)]
          subst hqm
          by_cases hlt : i < q
          · have d0 : decide ((i : Int) < (q : Int)) = true := by simp; omega
            go_wp2_with fail
            refine (sput_any W g q i [120] (by omega) (by omega) wr HZ.out).mono ?_
            rintro e w5 ⟨rfl, hz⟩
            have HZ5 := hide (hz.below ((Below.refl _ w5).alloc (Nat.le_refl _) (.cells #[.int .i64 ((i : Int) + 1), .int .i64 1] 31)))
            have X5 := hide (Hb.new w5 ((i : Int) + 1) 1)
            clear hz HZ
            go_upto_region 13 with (fail)
            generalize w5.heap.size = k5 at X5 ⊢
            generalize w5.alloc (.cells #[.int .i64 ((i : Int) + 1), .int .i64 1] 31) = w6 at HZ5 X5 ⊢
            obtain ⟨x0, x1⟩ := X5.out.two
            go_wp2_with fail
            go_roundw
            case rel => exact ⟨i + 1, by omega, by go_num, HZ5.out⟩
            case measure => simp [intOf]; omega
          · obtain rfl : i = q := by omega
            go_wp2_with fail
            refine (sput_full W g i i [121] rfl wr HZ.out).mono ?_
            rintro e w5 ⟨rfl, hz⟩
            have HZ5 := hide (hz.below ((Below.refl _ w5).alloc (Nat.le_refl _) (.cells #[.int .i64 0, .int .i64 0] 31)))
            have X5 := hide (Hb.new w5 0 0)
            clear hz HZ
            go_upto_region 18 with (fail)
            generalize w5.heap.size = k5 at X5 ⊢
            generalize w5.alloc (.cells #[.int .i64 0, .int .i64 0] 31) = w6 at HZ5 X5 ⊢
            obtain ⟨x0, x1⟩ := X5.out.two
            go_wp2_with fail
            refine (slive_any W g i i w6 HZ5.out).mono ?_
            rintro e w7 ⟨rfl, hb⟩
            have B := hide (HZ5.out.below hb).bel
            clear hb HZ5
            go_wp2
            go_ret
            exact ⟨rfl, B.out⟩
end Go.Proofs.Ytooejagekkgpaaa
