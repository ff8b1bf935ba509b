/-
  The contract of the document's Handles: are two lists of handles one? Conditions: both can be read, and are not longer than a million.
-/
import Derived.Test.YtcckamajiebgeaaHRow
namespace Go.Proofs.Ytcckamajiebgeaa
open Go.RowKit Go.Maps
set_option linter.unusedVariables false
set_option linter.unusedSimpArgs false
set_option maxRecDepth 100000

theorem handle_eql (a b c d : Int) (w : World) : (binOp .eql 28 (.agg #[.int .i64 a, .int .i64 b]) (.agg #[.int .i64 c, .int .i64 d])).run Try.prog w = .ok (.bool (decide ((a, b) = (c, d)))) w := by
  have u3 := Try.underlying3
  have a3 := Try.isAgg3
  have z3 := Try.sizeOf3
  have e : decide ((a, b) = (c, d)) = decide (a = c ∧ b = d) := by simp
  rw [e, run_eql_struct, show (10000 : Nat) = 9998 + 1 + 1 from rfl, run_equalIn_agg w (9998 + 1) 28 _ _ (by kernel_rfl) (by kernel_rfl)]
  simp only [Program.fieldsOf, Try.underlying28]
  go_simp
  by_cases h1 : a = c <;> by_cases h2 : b = d <;> simp [h1, h2]
theorem handle_ne (a b c d : Int) (w : World) : (binOp .neq 28 (.agg #[.int .i64 a, .int .i64 b]) (.agg #[.int .i64 c, .int .i64 d])).run Try.prog w = .ok (.bool (!decide ((a, b) = (c, d)))) w := by
  have u3 := Try.underlying3
  have a3 := Try.isAgg3
  have z3 := Try.sizeOf3
  have e : decide ((a, b) = (c, d)) = decide (a = c ∧ b = d) := by simp
  rw [e, run_neq_struct, show (10000 : Nat) = 9998 + 1 + 1 from rfl, run_equalIn_agg w (9998 + 1) 28 _ _ (by kernel_rfl) (by kernel_rfl)]
  simp only [Program.fieldsOf, Try.underlying28]
  go_simp
  by_cases h1 : a = c <;> by_cases h2 : b = d <;> simp [h1, h2]
def HaRel (w : World) (a b : List (Int × Int)) (i : Value) (wr : World) : Prop := ∃ k : Nat, k ≤ a.length ∧ i = .int .i64 (k : Int) ∧ a.take k = b.take k ∧ Below w.heap.size w wr
set_option maxHeartbeats 1000000 in
theorem handles_any (A : Option Addr) (c : Nat) (a : List (Int × Int)) (B : Option Addr) (d : Nat) (b : List (Int × Int)) (hn : a.length ≤ 1000000) (hn2 : b.length ≤ 1000000) (w : World) (ha : Hs w A c a) (hb : Hs w B d b) :
    Calls Try.prog 28 #[.slice A a.length c, .slice B b.length d] w (BoolRet (decide (a = b)) w) := by
  have HA := hide ha
  have HB := hide hb
  have B0 := hide (Below.refl w.heap.size w)
  clear ha hb
  by_cases hl : a.length = b.length
  · have HL := hide hl
    have d0 : ((a.length : Int) != (b.length : Int)) = false := by simp [hl]
    clear hl
    go_enter Try.func28, Try.ntmps28
    go_wp2_with fail
    go_loopw [5] (HaRel w a b) (fun i _ => a.length - (intOf i).toNat)
    case atStart => exact ⟨0, Nat.zero_le _, rfl, by simp, Below.refl _ _⟩
    case round =>
      obtain ⟨k, hk, rfl, ht, hb⟩ := hrel
      have HBl := hide hb
      have HT := hide ht
      by_cases hlt : k < a.length
      · have hlt2 : k < b.length := by have := HL.out; omega
        obtain ⟨b1, o1, rfl, hat⟩ := (HA.out.below hb).lit (by omega)
        obtain ⟨b2, o2, rfl, hat2⟩ := (HB.out.below hb).lit (by omega)
        obtain ⟨y0, y1⟩ := hat.two k hlt
        obtain ⟨z0, z1⟩ := hat2.two k hlt2
        have i0 : (0 : Int) ≤ (k : Int) := by omega
        have i1 : (k : Int) < (a.length : Int) := by omega
        have i2 : (k : Int) < (b.length : Int) := by omega
        have e1 := List.take_succ_eq_append_getElem hlt
        have e2 := List.take_succ_eq_append_getElem hlt2
        have hne := HL.out
        obtain ⟨⟨p, q⟩, hpq⟩ : ∃ pq, a[k] = pq := ⟨_, rfl⟩
        obtain ⟨⟨s, t⟩, hst⟩ : ∃ st, b[k] = st := ⟨_, rfl⟩
        rw [hpq] at y0 y1 e1
        rw [hst] at z0 z1 e2
        have hq := fun V => handle_ne p q s t V
        simp only at y0 y1 z0 z1
        have HPQ := hide hpq
        have HST := hide hst
        have E1 := hide e1
        have E2 := hide e2
        clear hb ht hat hat2 hpq hst e1 e2 hne
        by_cases e : (p, q) = (s, t)
        · have hd : (!decide ((p, q) = (s, t))) = false := by simpa using e
          have HY := hide (show a.take (k + 1) = b.take (k + 1) by rw [E1.out, E2.out, HT.out, e])
          simp only [hd] at hq
          clear e
          go_wp2_with fail
          go_quiet (fail)
          go_wp2
          go_roundw
          case rel => exact ⟨k + 1, by omega, by go_num, HY.out, below_q HBl.out _⟩
          case measure => simp [intOf]; omega
        · have hd : (!decide ((p, q) = (s, t))) = true := by rw [decide_eq_false e]; rfl
          have HY := hide (show decide (a = b) = false by
            refine decide_eq_false fun h => e ?_
            subst h
            exact HPQ.out.symm.trans HST.out)
          simp only [hd] at hq
          clear e
          go_wp2_with fail
          go_quiet (fail)
          go_wp2
          go_ret
          exact ⟨by rw [HY.out]; rfl, below_q HBl.out _⟩
      · obtain rfl : k = a.length := by omega
        have HY := hide (show decide (a = b) = true by
          have h1 := HT.out
          rw [List.take_length, HL.out, List.take_length] at h1
          simpa using h1)
        clear hb ht
        go_wp2
        go_ret
        exact ⟨by rw [HY.out]; rfl, HBl.out⟩
  · have HY := hide (show decide (a = b) = false from decide_eq_false fun h => hl (by rw [h]))
    have d0 : ((a.length : Int) != (b.length : Int)) = true := by simp; omega
    go_enter Try.func28, Try.ntmps28
    go_wp2
    go_ret
    exact ⟨by rw [HY.out]; rfl, B0.out⟩
end Go.Proofs.Ytcckamajiebgeaa
