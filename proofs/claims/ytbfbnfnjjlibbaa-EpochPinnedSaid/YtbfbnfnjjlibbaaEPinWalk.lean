/-
  EpochPinned returns true. No conditions.
-/
import Derived.Test.YtbfbnfnjjlibbaaEAwake
import Derived.IntWalk
namespace Go.Proofs.Ytbfbnfnjjlibbaa
open Go.RowKit
set_option linter.unusedVariables false
set_option linter.unusedSimpArgs false
set_option maxRecDepth 100000

def EP1 (W : World) (g p : Nat) (vi : Value) (wr : World) : Prop := ∃ k : Nat, k ≤ p ∧ vi = .int .i64 (k : Int) ∧ Ez W wr g k []
def EP2 (W : World) (g p l : Nat) (vi : Value) (wr : World) : Prop := ∃ k : Nat, k ≤ l ∧ vi = .int .i64 (k : Int) ∧ Ez W wr g (p + k) []
def EP3 (W : World) (g n b kx : Nat) (vi : Value) (wr : World) : Prop := ∃ k : Nat, k ≤ b ∧ vi = .int .i64 (k : Int) ∧ Ez W wr g (n + k) [((1, 1), n)] ∧ Hb wr kx 1 1
theorem Pst.one (n m : Nat) (h : n ≤ m) : Pst [(((1 : Int), (1 : Int)), n)] m := ((Pst.nil n).retire [(1, 1)]).later h
theorem may_behind (n b : Nat) (h : n ≤ 1000) : may 4611686018427387904 (n + b) n = decide (2 ≤ b) := by
  unfold may
  rw [decide_eq_true (show (n : Int) < 4611686018427387904 by omega)]
  by_cases hb : 2 ≤ b
  · rw [decide_eq_true hb, decide_eq_true (by omega)]; rfl
  · rw [decide_eq_false hb, decide_eq_false (by omega)]; rfl
set_option maxHeartbeats 2000000 in
theorem epochPinned_walk (a b c : Int) (W : World) (ha : (Lit.int .u8 a).wf = true) (hb : (Lit.int .u8 b).wf = true) (hc : (Lit.int .u8 c).wf = true) :
    Calls Try.prog 6 #[.int .u8 a, .int .u8 b, .int .u8 c] W (TrueRet W) := by
  have ha := bounds_u8 ha
  have hb := bounds_u8 hb
  have hc := bounds_u8 hc
  obtain ⟨p, rfl⟩ : ∃ n : Nat, a = n := ⟨a.toNat, by omega⟩
  obtain ⟨l, rfl⟩ : ∃ n : Nat, b = n := ⟨b.toNat, by omega⟩
  obtain ⟨c, rfl⟩ : ∃ n : Nat, c = n := ⟨c.toNat, by omega⟩
  go_enter Try.func6, Try.ntmps6
  go_wp2_with fail
  refine (awake_any W).mono ?_
  rintro e w1 ⟨rfl, hb1⟩
  have B1 := hide hb1
  clear hb1
  go_wp2_with fail
  refine (znew_any (w0 := W) B1.out).mono ?_
  rintro e w2 ⟨rfl, hz, hb2⟩
  have HZ := hide hz
  clear hz hb2
  generalize w1.heap.size = g at *
  go_wp2_with fail
  go_loopw [9] (EP1 W g p) (fun i _ => p - (intOf i).toNat)
  case atStart => exact ⟨0, Nat.zero_le _, rfl, HZ.out⟩
  case round =>
    obtain ⟨k, hk, rfl, hz⟩ := hrel
    have HZ := hide hz
    clear hz
    by_cases hlt : k < p
    · have K := hide (zadv_any (by omega) HZ.out)
      go_wp2_with fail
      refine K.out.mono ?_
      rintro e w3 ⟨rfl, hz, hk3⟩
      have HZ := hide hz
      clear hz hk3 K
      go_wp2_with fail
      go_roundw
      case rel => exact ⟨k + 1, by omega, by go_num, HZ.out⟩
      case measure => simp [intOf]; omega
    · obtain rfl : p = k := by omega
      have K := hide (znow_any HZ.out)
      have we : IntKind.i64.wrap ((p : Int) + 1) = (p : Int) + 1 := wrap_in _ (by omega) (by omega)
      go_wp2_with fail
      refine K.out.mono ?_
      rintro e w3 ⟨rfl, hb3⟩
      have HZ := hide (HZ.out.below hb3)
      clear hb3 K
      go_wp2_with fail
      clear hk hlt we
      go_loopw [11] (EP2 W g p l) (fun i _ => l - (intOf i).toNat)
      case atStart => exact ⟨0, Nat.zero_le _, rfl, HZ.out⟩
      case round =>
        obtain ⟨k, hk, rfl, hz⟩ := hrel
        have HZ := hide hz
        clear hz
        by_cases hlt : k < l
        · have K := hide (zadv_any (by omega) HZ.out)
          go_wp2_with fail
          refine K.out.mono ?_
          rintro e w4 ⟨rfl, hz, hk3⟩
          have HZ := hide hz
          clear hz hk3 K
          go_wp2_with fail
          go_roundw
          case rel => exact ⟨k + 1, by omega, by go_num, HZ.out⟩
          case measure => simp [intOf]; omega
        · obtain rfl : l = k := by omega
          have hnb : p + l ≤ 510 := by omega
          have hpl : (p : Int) ≤ ((p + l : Nat) : Int) := by omega
          generalize p + l = n at *
          clear hk hlt
          go_upto_region 15 with (fail)
          have X := hide (Hb.new wr 1 1)
          have HZ := hide (HZ.out.alloc (.cells #[.int .i64 1, .int .i64 1] 43))
          generalize wr.heap.size = kx at X ⊢
          generalize wr.alloc (.cells #[.int .i64 1, .int .i64 1] 43) = w4 at HZ X ⊢
          have K := hide (show Calls Try.prog 11 #[.pointer (some ⟨g, 0, none⟩), .slice (some ⟨kx, 0, none⟩) 1 1] w4 (EzRet (.tuple #[]) W g n [((1, 1), n)] w4) from zret_any (l := [(1, 1)]) (by decide) X.out.hs X.out.apart HZ.out)
          go_wp2_with fail
          refine K.out.mono ?_
          rintro e w5 ⟨rfl, hz, hk5⟩
          have HZ := hide hz
          have X := hide (X.out.kq hk5)
          clear hz hk5 K
          go_wp2_with fail
          go_loopw [13, 14] (fun i _ wr => EP3 W g n c kx i wr) (fun i _ _ => c - (intOf i).toNat)
          case atStart => exact ⟨0, Nat.zero_le _, rfl, HZ.out, X.out⟩
          case round =>
            obtain ⟨k, hk, rfl, hz, hx⟩ := hrel
            have HZ := hide hz
            have X := hide hx
            clear hz hx
            by_cases hlt : k < c
            · have K := hide (zadv_any (by omega) HZ.out)
              go_wp2_with fail
              refine K.out.mono ?_
              rintro e w6 ⟨rfl, hz, hk6⟩
              have HZ := hide hz
              have X := hide (X.out.kq hk6)
              clear hz hk6 K
              have KL := hide (fun W : World => show Calls Try.prog 19 #[.slice (some ⟨W.heap.size, 0, none⟩) 2 2] (W.alloc (.cells #[.int .i64 0, .int .i64 ((p : Int) + 1)] 3)) _ from least_any _ 2 [0, (p : Int) + 1] (by intro x hx; simp at hx; unfold i64B; omega) _ (Is.new2 W 0 ((p : Int) + 1)))
              rw [lst_pin ((p : Int) + 1) (by omega) (by omega), show (p : Int) + 1 - 1 = p by omega] at KL
              go_wp2_with fail
              refine (KL.out w6).mono ?_
              rintro e w7 ⟨rfl, hb7⟩
              have hb7' := ((Below.refl _ w6).alloc (Nat.le_refl _) (.cells #[.int .i64 0, .int .i64 ((p : Int) + 1)] 3)).trans (hb7.mono (by simp))
              have HZ := hide (HZ.out.below hb7')
              have X := hide (X.out.below hb7')
              clear hb7 hb7' KL
              have KF := hide (zfree_any (p : Int) (by simp) (by omega) (Pst.one n (n + (k + 1)) (by omega)) HZ.out)
              rw [List.filter_cons_of_neg (by simp [may_pinned hpl]), List.filter_nil, List.filter_cons_of_pos (by simp [may_pinned hpl]), List.filter_nil] at KF
              go_wp2_with fail
              refine KF.out.mono ?_
              rintro e w8 ⟨v8, rfl, ho, hz, hk8⟩
              obtain ⟨a8, c8, rfl⟩ := row_form ho
              have HZ := hide hz
              have X := hide (X.out.kq hk8)
              clear hz hk8 KF ho
              go_wp2_with fail
              go_roundw
              case rel => exact ⟨k + 1, by omega, by go_num, HZ.out, X.out⟩
              case measure => simp [intOf]; omega
            · obtain rfl : c = k := by omega
              have K := hide (zwait_any (by simp) HZ.out)
              go_wp2_with fail
              refine K.out.mono ?_
              rintro e w6 ⟨v6, rfl, ho, hb6⟩
              have HZ := hide (HZ.out.below hb6)
              have X := hide (X.out.below hb6)
              obtain ⟨a6, c6, rfl, hs6⟩ := ho.hs
              have KH := hide (handles_any a6 c6 [(1, 1)] (some ⟨kx, 0, none⟩) 1 [(1, 1)] (by decide) (by decide) w6 hs6 X.out.hs)
              rw [show decide ([((1 : Int), (1 : Int))] = [(1, 1)]) = true from by decide] at KH
              clear hb6 K ho hs6
              go_wp2_with fail
              refine KH.out.mono ?_
              rintro e w7 ⟨rfl, hb7⟩
              have HZ := hide (HZ.out.below hb7)
              clear hb7 KH X
              have KL := hide (fun W : World => show Calls Try.prog 19 #[.slice (some ⟨W.heap.size, 0, none⟩) 2 2] (W.alloc (.cells #[.int .i64 0, .int .i64 0] 3)) _ from least_any _ 2 [0, 0] (by intro x hx; simp at hx; unfold i64B; omega) _ (Is.new2 W 0 0))
              rw [lst_two] at KL
              go_wp2_with fail
              refine (KL.out w7).mono ?_
              rintro e w8 ⟨rfl, hb8⟩
              have HZ := hide (HZ.out.below (((Below.refl _ w7).alloc (Nat.le_refl _) (.cells #[.int .i64 0, .int .i64 0] 3)).trans (hb8.mono (by simp))))
              clear hb8 KL
              have KF := hide (zfree_any 4611686018427387904 (by simp) (by omega) (Pst.one n (n + c) (by omega)) HZ.out)
              by_cases h2 : 2 ≤ c
              · have d2 : decide ((c : Int) ≥ 2) = true := decide_eq_true (by omega)
                have d2' : (2 : Int) ≤ (c : Int) := by omega
                have hm : may 4611686018427387904 (n + c) n = true := by rw [may_behind n c (by omega)]; exact decide_eq_true h2
                rw [List.filter_cons_of_pos (by simp [hm]), List.filter_nil] at KF
                go_wp2_with fail
                refine KF.out.mono ?_
                rintro e w9 ⟨v9, rfl, ho, hz, hk9⟩
                obtain ⟨a9, c9, rfl⟩ := row_form ho
                have BE := hide hz.bel
                clear hz hk9 KF ho
                go_wp2_with fail
                go_ret
                exact ⟨rfl, BE.out⟩
              · have d2 : decide ((c : Int) ≥ 2) = false := decide_eq_false (by omega)
                have d2' : ¬ (2 : Int) ≤ (c : Int) := by omega
                have hm : may 4611686018427387904 (n + c) n = false := by rw [may_behind n c (by omega)]; exact decide_eq_false h2
                rw [List.filter_cons_of_neg (by simp [hm]), List.filter_nil] at KF
                go_wp2_with fail
                refine KF.out.mono ?_
                rintro e w9 ⟨v9, rfl, ho, hz, hk9⟩
                obtain ⟨a9, c9, rfl⟩ := row_form ho
                have BE := hide hz.bel
                clear hz hk9 KF ho
                go_wp2_with fail
                go_ret
                exact ⟨rfl, BE.out⟩
end Go.Proofs.Ytbfbnfnjjlibbaa
