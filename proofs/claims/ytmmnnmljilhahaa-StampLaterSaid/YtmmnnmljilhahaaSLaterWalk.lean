/-
  The walk of the law StampLater: it answers true at every input, and changes nothing that was there. Conditions: the numbers are of their types.
-/
import Derived.Test.YtmmnnmljilhahaaSAwake
import Derived.Test.YtmmnnmljilhahaaPair
namespace Go.Proofs.Ytmmnnmljilhahaa
open Go.RowKit
set_option linter.unusedVariables false

set_option maxHeartbeats 2000000 in
set_option maxRecDepth 100000 in
theorem stampLater_in (n r q t : Int) (w : World) (q0 : 0 ≤ q) (q1 : q ≤ 255) (t0 : 0 ≤ t) (t1 : t ≤ 4294967295) : Calls Try.prog 7 #[st n r, .int .u8 q, .int .u32 t] w (TrueRet w) := by
  have K1 := hide (sright_any n r)
  unfold st at K1
  unfold st
  go_enter Try.func7, Try.ntmps7
  go_wp2_with fail
  refine (sAwake_any _).mono ?_
  rintro e w1 ⟨rfl, hb⟩
  obtain ⟨a0, a1⟩ := (Bx.new w n r 23).below hb (by simp)
  have B1 := hide (((Below.refl w.heap.size w).alloc (Nat.le_refl _) _).trans (hb.mono (by simp)))
  have s1 := B1.out.size
  have A1 := hide (show Bx w1 w.heap.size n r from ⟨a0, a1⟩)
  clear hb
  go_wp2_with fail
  obtain ⟨p0, p1⟩ : 0 ≤ t % 16777216 ∧ t % 16777216 ≤ 16777215 := by omega
  generalize t % 16777216 = p at p0 p1 ⊢
  refine (K1.out _).mono ?_
  rintro e w2 ⟨rfl, hb⟩
  have A2 := hide (A1.out.below hb A1.out.lt)
  have B2 := hide (B1.out.trans (hb.mono s1))
  have s2 := B2.out.size
  clear hb A1 B1 s1 a0 a1
  obtain ⟨a0, a1⟩ := A2.out
  cases hr : stR n r with
  | false =>
    clear hr
    go_wp2
    go_ret
    exact ⟨rfl, B2.out⟩
  | true =>
    have R := hide (stR_t hr)
    clear hr
    have T := hide (inP_all (a := n) (b := p) (c := q) (by have := R.out; omega))
    have K2 := hide (next_any n q p)
    unfold NextRet at K2
    by_cases hp : p ≤ n
    · obtain ⟨e1, e2, e3⟩ := next_end T.out hp
      rw [e1, e2, e3] at K2
      clear e1 e2 e3
      go_wp2_with fail
      refine (K2.out _).mono ?_
      rintro e w3 ⟨rfl, hb⟩
      have A3 := hide ((A2.out.below hb A2.out.lt).alloc (.cells #[.int .i64 0, .int .i64 0] 23))
      have B3 := hide (B2.out.trans (hb.mono s2))
      have s3 := B3.out.size
      clear hb A2 B2 s2 a0 a1
      obtain ⟨a0, a1⟩ := A3.out
      go_wp2
      go_ret
      exact ⟨rfl, B3.out.alloc s3 _⟩
    · obtain ⟨e1, e2, e3⟩ := next_good T.out (by omega)
      rw [e1, e2, e3] at K2
      clear e1 e2 e3
      have K3 := hide (scmp_any n r (n + 1) q)
      have K4 := hide (sright_any (n + 1) q)
      rw [stC_lt (.inl (by omega))] at K3
      rw [show stR (n + 1) q = true by simp [stR]; have := R.out; omega] at K4
      unfold st at K3 K4
      generalize n + 1 = m at K2 K3 K4
      go_wp2_with fail
      refine (K2.out _).mono ?_
      rintro e w3 ⟨rfl, hb⟩
      have A3 := hide ((A2.out.below hb A2.out.lt).alloc (.cells #[.int .i64 m, .int .i64 q] 23))
      have N3 := hide (Bx.new w3 m q 23)
      have B3 := hide ((B2.out.trans (hb.mono s2)).alloc ((B2.out.trans (hb.mono s2)).size) (.cells #[.int .i64 m, .int .i64 q] 23))
      have s3 := B3.out.size
      clear hb A2 B2 s2 a0 a1
      obtain ⟨a0, a1⟩ := A3.out
      go_wp2_with fail
      refine (K3.out _).mono ?_
      rintro e w4 ⟨rfl, hb⟩
      obtain ⟨b0, b1⟩ := N3.out.below hb N3.out.lt
      have B4 := hide (B3.out.trans (hb.mono s3))
      have s4 := B4.out.size
      have l4 := hb.size
      simp at l4
      clear hb A3 B3 s3 a0 a1 N3
      go_wp2_with fail
      refine (K4.out _).mono ?_
      rintro e w5 ⟨rfl, hb⟩
      have N5 := hide (Bx.below ⟨b0, b1⟩ hb (by omega))
      have B5 := hide (B4.out.trans (hb.mono s4))
      clear hb B4 s4 b0 b1
      obtain ⟨b0, b1⟩ := N5.out
      go_wp2
      go_ret
      exact ⟨rfl, B5.out⟩
theorem stampLater_walk (n r q t : Int) (w : World) (hn : (Lit.int .i64 n).wf = true) (hr : (Lit.int .i64 r).wf = true) (hq : (Lit.int .u8 q).wf = true) (ht : (Lit.int .u32 t).wf = true) :
    Calls Try.prog 7 #[.agg #[.int .i64 n, .int .i64 r], .int .u8 q, .int .u32 t] w (TrueRet w) := by
  have b := bounds_u8 hq
  have c := bounds_u32 ht
  exact stampLater_in n r q t w (by omega) (by omega) (by omega) (by omega)
end Go.Proofs.Ytmmnnmljilhahaa
