/-
  The walk of the law StampBack: it answers true at every input, and changes nothing that was there. Conditions: the number is of the machine's.
-/
import Derived.Test.YtmmnnmljilhahaaSAwake
import Derived.Test.YtmmnnmljilhahaaPair
import Derived.Test.YtmmnnmljilhahaaSBackPure
namespace Go.Proofs.Ytmmnnmljilhahaa
open Go.RowKit
set_option linter.unusedVariables false

set_option maxHeartbeats 2000000 in
set_option maxRecDepth 100000 in
theorem stampBack_in (i n r : Int) (w : World) (h0 : -9223372036854775808 ≤ i) (h1 : i ≤ 9223372036854775807) : Calls Try.prog 5 #[.int .i64 i, st n r] w (TrueRet w) := by
  have K0 := hide (fun w => of_any i w h0 h1)
  have K1 := hide (sright_any (ofN i) (ofR i))
  have K2 := hide (sid_any (ofN i) (ofR i))
  have K3 := hide (sright_any n r)
  have K4 := hide (sid_any n r)
  have Y := hide (@of_yes i)
  have N := hide (@of_no i)
  have P := hide (@of_id n r)
  have Q := hide (@id_no n r)
  unfold OfRet at K0
  unfold st at K1 K2 K3 K4
  unfold st
  have K5 : Hid (stR n r = true → ∀ w, Calls Try.prog 17 #[.int .i64 (stI n r)] w (fun e w' => e = .returned (.tuple #[.agg #[.int .i64 n, .int .i64 r], .bool true]) ∧ Below w.heap.size w w')) := hide (fun h w => by
    have p := P.out h
    have k := of_any (stI n r) w (by omega) (by omega)
    unfold OfRet at k
    rw [p.1, p.2.1, p.2.2.1] at k
    exact k)
  clear h0 h1
  go_enter Try.func5, Try.ntmps5
  go_wp2_with fail
  refine (sAwake_any _).mono ?_
  rintro e w1 ⟨rfl, hb⟩
  obtain ⟨a0, a1⟩ := (Bx.new w n r 23).below hb (by simp)
  have B1 := hide (((Below.refl w.heap.size w).alloc (Nat.le_refl _) _).trans (hb.mono (by simp)))
  have s1 := B1.out.size
  have A1 := hide (show Bx w1 w.heap.size n r from ⟨a0, a1⟩)
  clear hb a0 a1
  go_wp2_with fail
  refine (K0.out _).mono ?_
  rintro e w2 ⟨rfl, hb⟩
  have A2 := hide (A1.out.below hb A1.out.lt)
  have B2 := hide (B1.out.trans (hb.mono s1))
  have s2 := B2.out.size
  clear hb A1 B1 s1
  cases hB : ofB i with
  | false =>
    obtain ⟨e1, e2⟩ := N.out hB
    clear hB K1 K2 Y N K0
    have A3 := hide (A2.out.alloc (.cells #[.int .i64 (ofN i), .int .i64 (ofR i)] 23))
    rw [e1, e2]
    rw [e1, e2] at A3
    clear e1 e2
    have B3 := hide (B2.out.alloc s2 (.cells #[.int .i64 0, .int .i64 0] 23))
    have s3 := B3.out.size
    clear A2 B2 s2
    obtain ⟨a0, a1⟩ := A3.out
    go_wp2_with fail
    refine (K4.out _).mono ?_
    rintro e w5 ⟨rfl, hb⟩
    have A5 := hide (A3.out.below hb A3.out.lt)
    have B5 := hide (B3.out.trans (hb.mono s3))
    have s5 := B5.out.size
    clear hb A3 B3 s3 a0 a1
    obtain ⟨a0, a1⟩ := A5.out
    go_wp2_with fail
    refine (K3.out _).mono ?_
    rintro e w6 ⟨rfl, hb⟩
    have A6 := hide (A5.out.below hb A5.out.lt)
    have B6 := hide (B5.out.trans (hb.mono s5))
    have s6 := B6.out.size
    clear hb A5 B5 s5 a0 a1
    cases hr : stR n r with
    | false =>
      have e0 := Q.out hr
      clear hr
      go_wp2
      go_ret
      exact ⟨rfl, B6.out⟩
    | true =>
      obtain ⟨-, -, -, g1, -⟩ := P.out hr
      have K6 := hide (K5.out hr)
      clear hr
      go_wp2_with fail
      refine (K6.out _).mono ?_
      rintro e w7 ⟨rfl, hb⟩
      obtain ⟨a0, a1⟩ := (A6.out.below hb A6.out.lt).alloc (.cells #[.int .i64 n, .int .i64 r] 23)
      have B7 := hide (B6.out.trans (hb.mono s6))
      have s7 := B7.out.size
      clear hb A6 B6 s6
      go_wp2
      go_ret
      exact ⟨rfl, B7.out.alloc s7 _⟩
  | true =>
    obtain ⟨e1, e2⟩ := Y.out hB
    clear hB Y N K0
    go_wp2_with fail
    refine (K1.out _).mono ?_
    rintro e w3 ⟨rfl, hb⟩
    obtain ⟨b0, b1⟩ := (Bx.new w2 (ofN i) (ofR i) 23).below hb (by simp)
    have A3 := hide ((A2.out.alloc _).below hb (A2.out.alloc _).lt)
    have B3 := hide ((B2.out.alloc s2 _).trans (hb.mono (by simp; omega)))
    have s3 := B3.out.size
    clear hb A2 B2 s2
    rw [e1]
    go_wp2_with fail
    refine (K2.out _).mono ?_
    rintro e w4 ⟨rfl, hb⟩
    have A4 := hide (A3.out.below hb A3.out.lt)
    have B4 := hide (B3.out.trans (hb.mono s3))
    have s4 := B4.out.size
    clear hb A3 B3 s3 b0 b1
    rw [e2]
    clear e1 e2 K1 K2
    obtain ⟨a0, a1⟩ := A4.out
    go_wp2_with fail
    refine (K4.out _).mono ?_
    rintro e w5 ⟨rfl, hb⟩
    have A5 := hide (A4.out.below hb A4.out.lt)
    have B5 := hide (B4.out.trans (hb.mono s4))
    have s5 := B5.out.size
    clear hb A4 B4 s4 a0 a1
    obtain ⟨a0, a1⟩ := A5.out
    go_wp2_with fail
    refine (K3.out _).mono ?_
    rintro e w6 ⟨rfl, hb⟩
    have A6 := hide (A5.out.below hb A5.out.lt)
    have B6 := hide (B5.out.trans (hb.mono s5))
    have s6 := B6.out.size
    clear hb A5 B5 s5 a0 a1
    cases hr : stR n r with
    | false =>
      have e0 := Q.out hr
      clear hr
      go_wp2
      go_ret
      exact ⟨rfl, B6.out⟩
    | true =>
      obtain ⟨-, -, -, g1, -⟩ := P.out hr
      have K6 := hide (K5.out hr)
      clear hr
      go_wp2_with fail
      refine (K6.out _).mono ?_
      rintro e w7 ⟨rfl, hb⟩
      obtain ⟨a0, a1⟩ := (A6.out.below hb A6.out.lt).alloc (.cells #[.int .i64 n, .int .i64 r] 23)
      have B7 := hide (B6.out.trans (hb.mono s6))
      have s7 := B7.out.size
      clear hb A6 B6 s6
      go_wp2
      go_ret
      exact ⟨rfl, B7.out.alloc s7 _⟩
theorem stampBack_walk (i n r : Int) (w : World) (hi : (Lit.int .i64 i).wf = true) (hn : (Lit.int .i64 n).wf = true) (hr : (Lit.int .i64 r).wf = true) :
    Calls Try.prog 5 #[.int .i64 i, .agg #[.int .i64 n, .int .i64 r]] w (TrueRet w) := by
  have b := bounds_i64 hi
  exact stampBack_in i n r w (by omega) (by omega)
end Go.Proofs.Ytmmnnmljilhahaa
