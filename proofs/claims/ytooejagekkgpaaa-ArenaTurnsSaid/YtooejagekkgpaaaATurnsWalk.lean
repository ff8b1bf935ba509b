/-
  The walk of ArenaTurns. No conditions.
-/
import Derived.Test.YtooejagekkgpaaaALaw
namespace Go.Proofs.Ytooejagekkgpaaa
open Go.RowKit
set_option linter.unusedVariables false
set_option linter.unusedSimpArgs false
set_option maxRecDepth 100000

/-- One slot that was used so often, and isn't now. -/
def tA (i : Nat) : Ar := if i = 0 then ⟨[], []⟩ else ⟨[⟨i, none⟩], [1]⟩
theorem tA_live (i : Nat) : (tA i).live = 0 := by unfold tA; split <;> rfl
theorem tA_nxt (i : Nat) : (tA i).nxt = (1, i + 1) := by
  unfold tA
  split
  · next h => subst h; rfl
  · rfl
theorem tA_put (i : Nat) (x : Int) : (tA i).put x = ⟨[⟨i + 1, some x⟩], []⟩ := by
  unfold tA
  split
  · next h => subst h; rfl
  · rfl
theorem tA_get (i : Nat) (x : Int) : Ar.get ⟨[⟨i + 1, some x⟩], []⟩ 1 ((i + 1 : Nat) : Int) = some x := by simp [Ar.get]
theorem tA_free (i : Nat) (x : Int) : Ar.free ⟨[⟨i + 1, some x⟩], []⟩ 1 = tA (i + 1) := by simp [Ar.free, tA]
def TuRel (w : World) (g most n : Nat) (v : Value) (wr : World) : Prop := ∃ i : Nat, i ≤ n ∧ v = .int .i64 (i : Int) ∧ Az w wr g most i (tA i)
set_option maxHeartbeats 4000000 in
theorem arenaTurns_walk (a b : Int) (W : World) (ha : (Lit.int .u8 a).wf = true) (hb : (Lit.int .u8 b).wf = true) :
    Calls Try.prog 7 #[.int .u8 a, .int .u8 b] W (TrueRet W) := by
  have ha := bounds_u8 ha
  have hb := bounds_u8 hb
  obtain ⟨a, rfl⟩ : ∃ n : Nat, a = n := ⟨a.toNat, by omega⟩
  obtain ⟨b, rfl⟩ : ∃ n : Nat, b = n := ⟨b.toNat, by omega⟩
  obtain ⟨m, hm⟩ : ∃ m : Nat, (1 + (a : Int) % 20).toNat = m := ⟨_, rfl⟩
  have m1 : 1 ≤ m := by omega
  have KN := hide (fun (W w : World) (hb : Below W.heap.size W w) => znew_any (w0 := W) (w := w) (1 + (a : Int) % 20) (by omega) (by omega) hb)
  rw [hm] at KN
  clear hm
  go_enter Try.func7, Try.ntmps7
  go_wp2_with fail
  refine (awake_any W).mono ?_
  rintro e w1 ⟨rfl, hb1⟩
  have B1 := hide hb1
  clear hb1
  go_wp2_with fail
  refine (KN.out W w1 B1.out).mono ?_
  rintro e w2 ⟨rfl, hz, hb2⟩
  have HZ2 := hide hz
  have HS := hide (show Az W w2 w1.heap.size m 0 (tA 0) from hz)
  clear hz hb2 HZ2 KN B1
  generalize w1.heap.size = g at *
  go_wp2_with fail
  go_loopw [7] (TuRel W g m b) (fun i _ => b - (intOf i).toNat)
  case atStart => exact ⟨0, Nat.zero_le _, rfl, HS.out⟩
  case round =>
    obtain ⟨i, hi, rfl, hz⟩ := hrel
    have HZ := hide hz
    by_cases hlt : i < b
    · have d0 : decide ((i : Int) < (b : Int)) = true := by simp; omega
      have K1 := hide (show Calls Try.prog 10 #[.pointer (some ⟨g, 0, none⟩), .int .i64 (i : Int)] wr (AzRet (.tuple #[.agg #[.int .i64 1, .int .i64 ((i : Int) + 1)], .bool true]) W g m (i + 1) ⟨[⟨i + 1, some (i : Int)⟩], []⟩ wr) from by
        have := zput_any (i : Int) (by omega) hz (by rw [tA_live]; omega)
        rw [tA_nxt, tA_put] at this
        simpa using this)
      clear hz
      go_wp2_with fail
      refine K1.out.mono ?_
      rintro e w3 ⟨rfl, hz, hk⟩
      have HZ3 := hide (hz.alloc (.cells #[.int .i64 1, .int .i64 ((i : Int) + 1)] 31))
      have X3 := hide (Hb.new w3 1 ((i : Int) + 1))
      clear hz hk K1 HZ
      go_upto_region 9 with (fail)
      generalize w3.heap.size = k3 at X3 ⊢
      generalize w3.alloc (.cells #[.int .i64 1, .int .i64 ((i : Int) + 1)] 31) = w4 at HZ3 X3 ⊢
      obtain ⟨x0, x1⟩ := X3.out.two
      have K2 := hide (show Calls Try.prog 14 #[.pointer (some ⟨g, 0, none⟩), .agg #[.int .i64 1, .int .i64 ((i : Int) + 1)]] w4 (ZRet (.tuple #[.int .i64 (i : Int), .bool true]) W g m (i + 1) ⟨[⟨i + 1, some (i : Int)⟩], []⟩ w4) from by
        have := zget_any 1 ((i : Int) + 1) (by unfold i64B; omega) (by unfold i64B; omega) (by omega) HZ3.out
        have e := tA_get i (i : Int)
        rw [show ((i + 1 : Nat) : Int) = (i : Int) + 1 by omega] at e
        rw [e] at this
        exact this)
      go_wp2_with fail
      refine K2.out.mono ?_
      rintro e w5 ⟨rfl, hz, hb⟩
      have HZ5 := hide hz
      have X5 := hide (X3.out.below hb)
      clear hz hb K2 HZ3 X3 x0 x1
      obtain ⟨x0, x1⟩ := X5.out.two
      go_wp2_with fail
      refine (show Calls Try.prog 16 #[.pointer (some ⟨g, 0, none⟩)] w5 (ZRet (.int .i64 1) W g m (i + 1) ⟨[⟨i + 1, some (i : Int)⟩], []⟩ w5) from zlive_any (by omega) HZ5.out).mono ?_
      rintro e w6 ⟨rfl, hz, hb⟩
      have HZ6 := hide hz
      have X6 := hide (X5.out.below hb)
      clear hz hb HZ5 X5 x0 x1
      obtain ⟨x0, x1⟩ := X6.out.two
      have K3 := hide (show Calls Try.prog 12 #[.pointer (some ⟨g, 0, none⟩), .agg #[.int .i64 1, .int .i64 ((i : Int) + 1)]] w6 (AzRet (.bool true) W g m (i + 1) (tA (i + 1)) w6) from by
        have e := tA_get i (i : Int)
        rw [show ((i + 1 : Nat) : Int) = (i : Int) + 1 by omega] at e
        have := zfree_any 1 ((i : Int) + 1) (i : Int) (by unfold i64B; omega) (by omega) HZ6.out e
        rw [show (1 : Int).toNat = 1 from rfl, tA_free] at this
        exact this)
      go_wp2_with fail
      refine K3.out.mono ?_
      rintro e w7 ⟨rfl, hz, hk⟩
      have HZ7 := hide hz
      clear hz hk K3 HZ6 X6 x0 x1
      go_wp2_with fail
      refine (show Calls Try.prog 16 #[.pointer (some ⟨g, 0, none⟩)] w7 (ZRet (.int .i64 0) W g m (i + 1) (tA (i + 1)) w7) from by
        have := zlive_any (by omega) HZ7.out
        rw [tA_live] at this
        exact this).mono ?_
      rintro e w8 ⟨rfl, hz, hb⟩
      have HZ8 := hide hz
      clear hz hb HZ7
      go_wp2_with fail
      go_roundw
      case rel => exact ⟨i + 1, by omega, by go_num, HZ8.out⟩
      case measure => simp [intOf]; omega
    · obtain rfl : i = b := by omega
      have B := hide hz.bel
      clear hz HZ
      go_wp2
      go_ret
      exact ⟨rfl, B.out⟩
end Go.Proofs.Ytooejagekkgpaaa
