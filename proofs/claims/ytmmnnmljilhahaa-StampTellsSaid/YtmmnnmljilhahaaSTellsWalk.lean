/-
  The walk of the law StampTells: it answers true at every input, and changes nothing that was there. No conditions.
-/
import Derived.Test.YtmmnnmljilhahaaSAwake
import Derived.Test.YtmmnnmljilhahaaPair
import Derived.Deep.RegionHeld3
namespace Go.Proofs.Ytmmnnmljilhahaa
open Go.RowKit
set_option linter.unusedVariables false

theorem keep4 {w w' : World} {g h : Nat} {n r m s : Int} (H : w.cell? ⟨g, 0, none⟩ = some (.int .i64 n) ∧ w.cell? ⟨g, 1, none⟩ = some (.int .i64 r) ∧ w.cell? ⟨h, 0, none⟩ = some (.int .i64 m) ∧ w.cell? ⟨h, 1, none⟩ = some (.int .i64 s)) (hb : Below w.heap.size w w') :
    w'.cell? ⟨g, 0, none⟩ = some (.int .i64 n) ∧ w'.cell? ⟨g, 1, none⟩ = some (.int .i64 r) ∧ w'.cell? ⟨h, 0, none⟩ = some (.int .i64 m) ∧ w'.cell? ⟨h, 1, none⟩ = some (.int .i64 s) := by
  obtain ⟨h1, h2, h3, h4⟩ := H
  have p := Bx.below ⟨h1, h2⟩ hb (Bx.lt ⟨h1, h2⟩)
  have q := Bx.below ⟨h3, h4⟩ hb (Bx.lt ⟨h3, h4⟩)
  exact ⟨p.1, p.2, q.1, q.2⟩

set_option maxHeartbeats 2000000 in
set_option maxRecDepth 100000 in
theorem stampTells_in (n r m s : Int) (w : World) : Calls Try.prog 3 #[st n r, st m s] w (TrueRet w) := by
  have K0 := hide (sright_any n r)
  have K1 := hide (refRight_any n r)
  have K2 := hide (sid_any n r)
  have K3 := hide (refID_any n r)
  have K4 := hide (scmp_any n r m s)
  have K5 := hide (refCmp_any n r m s)
  unfold st at K0 K1 K2 K3 K4 K5
  unfold st
  generalize stR n r = q at K0 K1
  generalize stI n r = i at K2 K3
  generalize stC n r m s = c at K4 K5
  go_enter Try.func3, Try.ntmps3
  go_wp2_with fail
  refine (sAwake_any _).mono ?_
  rintro e w1 ⟨rfl, hb⟩
  obtain ⟨a0, a1⟩ := ((Bx.new w n r 23).alloc (.cells #[.int .i64 m, .int .i64 s] 23)).below hb (by simp; omega)
  have hm2 := Bx.new (w.alloc (.cells #[.int .i64 n, .int .i64 r] 23)) m s 23
  rw [show (w.alloc (.cells #[.int .i64 n, .int .i64 r] 23)).heap.size = w.heap.size + 1 by simp] at hm2
  obtain ⟨b0, b1⟩ := hm2.below hb (by simp)
  have l1 := hb.size
  simp at l1
  have B1 := hide ((((Below.refl w.heap.size w).alloc (Nat.le_refl _) _).alloc (by simp) _).trans (hb.mono (by simp; omega)))
  have s1 := B1.out.size
  clear hb hm2
  have hq : (q == q) = true := beq_self_eq_true _
  have hi : (i == i) = true := beq_self_eq_true _
  have hc : (c == c) = true := beq_self_eq_true _
  have hS : w1.cell? ⟨w.heap.size, 0, none⟩ = some (.int .i64 n) ∧ w1.cell? ⟨w.heap.size, 1, none⟩ = some (.int .i64 r) ∧ w1.cell? ⟨w.heap.size + 1, 0, none⟩ = some (.int .i64 m) ∧ w1.cell? ⟨w.heap.size + 1, 1, none⟩ = some (.int .i64 s) := ⟨a0, a1, b0, b1⟩
  go_wp2_with fail
  go_region_held3 (fun w' => w'.cell? ⟨w.heap.size, 0, none⟩ = some (.int .i64 n) ∧ w'.cell? ⟨w.heap.size, 1, none⟩ = some (.int .i64 r) ∧ w'.cell? ⟨w.heap.size + 1, 0, none⟩ = some (.int .i64 m) ∧ w'.cell? ⟨w.heap.size + 1, 1, none⟩ = some (.int .i64 s))
      (first | exact hSF | exact hSE | exact hSD | exact hSC | exact hSB | exact hSA | exact hS | go_keep)
      (first
        | (go_at_call 9
           (with_reducible refine (K0.out _).mono ?_)
           rintro e wA ⟨rfl, hbA⟩
           have hbA' : Below w1.heap.size w1 wA := ⟨hbA.os, hbA.tape, hbA.output, hbA.size, hbA.block⟩
           have BA := hide (B1.out.trans (hbA'.mono s1))
           have sA := BA.out.size
           have hSA : wA.cell? ⟨w.heap.size, 0, none⟩ = some (.int .i64 n) ∧ wA.cell? ⟨w.heap.size, 1, none⟩ = some (.int .i64 r) ∧ wA.cell? ⟨w.heap.size + 1, 0, none⟩ = some (.int .i64 m) ∧ wA.cell? ⟨w.heap.size + 1, 1, none⟩ = some (.int .i64 s) := keep4 hS hbA'
           clear hbA hbA')
        | (go_at_call 10
           (with_reducible refine (K1.out _).mono ?_)
           rintro e wB ⟨rfl, hbB⟩
           have hbB' : Below wA.heap.size wA wB := ⟨hbB.os, hbB.tape, hbB.output, hbB.size, hbB.block⟩
           have BB := hide (BA.out.trans (hbB'.mono sA))
           have sB := BB.out.size
           have hSB : wB.cell? ⟨w.heap.size, 0, none⟩ = some (.int .i64 n) ∧ wB.cell? ⟨w.heap.size, 1, none⟩ = some (.int .i64 r) ∧ wB.cell? ⟨w.heap.size + 1, 0, none⟩ = some (.int .i64 m) ∧ wB.cell? ⟨w.heap.size + 1, 1, none⟩ = some (.int .i64 s) := keep4 hSA hbB'
           clear hbB hbB')
        | (go_at_call 11
           (with_reducible refine (K2.out _).mono ?_)
           rintro e wC ⟨rfl, hbC⟩
           have hbC' : Below wB.heap.size wB wC := ⟨hbC.os, hbC.tape, hbC.output, hbC.size, hbC.block⟩
           have BC := hide (BB.out.trans (hbC'.mono sB))
           have sC := BC.out.size
           have hSC : wC.cell? ⟨w.heap.size, 0, none⟩ = some (.int .i64 n) ∧ wC.cell? ⟨w.heap.size, 1, none⟩ = some (.int .i64 r) ∧ wC.cell? ⟨w.heap.size + 1, 0, none⟩ = some (.int .i64 m) ∧ wC.cell? ⟨w.heap.size + 1, 1, none⟩ = some (.int .i64 s) := keep4 hSB hbC'
           clear hbC hbC')
        | (go_at_call 12
           (with_reducible refine (K3.out _).mono ?_)
           rintro e wD ⟨rfl, hbD⟩
           have hbD' : Below wC.heap.size wC wD := ⟨hbD.os, hbD.tape, hbD.output, hbD.size, hbD.block⟩
           have BD := hide (BC.out.trans (hbD'.mono sC))
           have sD := BD.out.size
           have hSD : wD.cell? ⟨w.heap.size, 0, none⟩ = some (.int .i64 n) ∧ wD.cell? ⟨w.heap.size, 1, none⟩ = some (.int .i64 r) ∧ wD.cell? ⟨w.heap.size + 1, 0, none⟩ = some (.int .i64 m) ∧ wD.cell? ⟨w.heap.size + 1, 1, none⟩ = some (.int .i64 s) := keep4 hSC hbD'
           clear hbD hbD')
        | (go_at_call 13
           (with_reducible refine (K4.out _).mono ?_)
           rintro e wE ⟨rfl, hbE⟩
           have hbE' : Below wD.heap.size wD wE := ⟨hbE.os, hbE.tape, hbE.output, hbE.size, hbE.block⟩
           have BE := hide (BD.out.trans (hbE'.mono sD))
           have sE := BE.out.size
           have hSE : wE.cell? ⟨w.heap.size, 0, none⟩ = some (.int .i64 n) ∧ wE.cell? ⟨w.heap.size, 1, none⟩ = some (.int .i64 r) ∧ wE.cell? ⟨w.heap.size + 1, 0, none⟩ = some (.int .i64 m) ∧ wE.cell? ⟨w.heap.size + 1, 1, none⟩ = some (.int .i64 s) := keep4 hSD hbE'
           clear hbE hbE')
        | (go_at_call 14
           (with_reducible refine (K5.out _).mono ?_)
           rintro e wF ⟨rfl, hbF⟩
           have hbF' : Below wE.heap.size wE wF := ⟨hbF.os, hbF.tape, hbF.output, hbF.size, hbF.block⟩
           have BF := hide (BE.out.trans (hbF'.mono sE))
           have sF := BF.out.size
           have hSF : wF.cell? ⟨w.heap.size, 0, none⟩ = some (.int .i64 n) ∧ wF.cell? ⟨w.heap.size, 1, none⟩ = some (.int .i64 r) ∧ wF.cell? ⟨w.heap.size + 1, 0, none⟩ = some (.int .i64 m) ∧ wF.cell? ⟨w.heap.size + 1, 1, none⟩ = some (.int .i64 s) := keep4 hSE hbF'
           clear hbF hbF'))
  all_goals (try go_wp2)
  all_goals go_ret
  all_goals exact ⟨rfl, BF.out⟩
theorem stampTells_walk (n r m s : Int) (w : World) (hn : (Lit.int .i64 n).wf = true) (hr : (Lit.int .i64 r).wf = true) (hm : (Lit.int .i64 m).wf = true) (hs : (Lit.int .i64 s).wf = true) :
    Calls Try.prog 3 #[.agg #[.int .i64 n, .int .i64 r], .agg #[.int .i64 m, .int .i64 s]] w (TrueRet w) := stampTells_in n r m s w
end Go.Proofs.Ytmmnnmljilhahaa
