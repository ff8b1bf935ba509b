/-
  The walk of the law OpTells: it answers true at every input, and changes nothing that was there. Conditions: the two tables of unicode/utf8 as the program's text lays them.
-/
import Derived.Test.YtjgnneajpkhppaaDoorOAwake
import Derived.Test.YtjgnneajpkhppaaDoorOShort
import Derived.Test.YtjgnneajpkhppaaDoorORefPut
namespace Go.Proofs.YtjgnneajpkhppaaDoor
open Go.RowKit
set_option linter.unusedVariables false

theorem same_rows (v1 v2 : Value) (R : List UInt8) (W : World) (h1 : RSl W v1 R) (h2 : RSl W v2 R) : Calls Tryd.prog 16 #[v1, v2] W (fun e w' => e = .returned (.bool true) ∧ W = w') :=
  same_yes v1 v2 (bs R) W (conv_any W v1 R h1) (conv_any W v2 R h2)
theorem shB_all {ns : List (List UInt8)} (h : shB ns = true) : ∀ x ∈ ns, x.length ≤ 60 := by
  intro x hx
  unfold shB at h
  have := List.all_eq_true.1 h x hx
  simpa using this
set_option maxHeartbeats 8000000 in
set_option maxRecDepth 100000 in
theorem opTells_in (n r d t : Int) (l : List UInt8) (m s e u : Int) (k : List UInt8) (z : Int) (w : World) (hl : l.length ≤ maxLen) (hk : k.length ≤ maxLen) (hE : Env w) :
    Calls Tryd.prog 3 #[opv n r d t l, opv m s e u k, .int .i64 z] w (TrueRet w) := by
  have HE := hide hE
  clear hE
  have HA := hide (Bo.new w n r d t l 25)
  have HB := hide (Bo.new2 w m s e u k 25 (.cells #[.int .i64 n, .int .i64 r, .int .i64 d, .int .i64 t, .string (bs l)] 25))
  have K0 := hide (node_any z)
  have K1 := hide (refNode_any z)
  have K2 := hide (fun W => oright_any n r d t l W hl)
  have K3 : Hid (l.length ≤ 1000 → ∀ W, Calls Tryd.prog 13 #[opv n r d t l] W (BoolRet (opR n r d t l) W)) := hide fun h W => orefRight_any n r d t l W h
  have K4 := hide (ocmp_any n r d t l m s e u k)
  have K5 := hide (orefCmp_any n r d t l m s e u k)
  have K6 := hide (fun W => oput_any n r d t l W hl)
  have K7 : Hid (l.length ≤ 1000 → ∀ W, Calls Tryd.prog 18 #[opv n r d t l] W (OwnRet W (opB n r d t l))) := hide fun h W => orefPut_any n r d t l W h
  unfold opv at K2 K3 K4 K5 K6 K7
  unfold opv
  generalize ndB z = q0 at K0 K1
  generalize opR n r d t l = q1 at K2 K3
  generalize opC n r d t l m s e u k = c at K4 K5
  generalize opB n r d t l = R at K6 K7
  go_enter Tryd.func3, Tryd.ntmps3
  go_wp2_with fail
  refine (oAwake_any _ ((HE.out.alloc _).alloc _)).mono ?_
  rintro x w1 ⟨rfl, hb⟩
  have a1 := (HA.out.alloc _).below hb (by simp; omega)
  have b1 := HB.out.below hb (by simp)
  have B1 := hide ((below_two w _ _).trans (hb.mono (by simp; omega)))
  have E1 := hide (((HE.out.alloc _).alloc _).below hb)
  have s1 := B1.out.size
  clear hb HA HB HE
  have HA1 := hide a1
  have HB1 := hide b1
  obtain ⟨x0, x1, x2, x3, x4⟩ := a1
  obtain ⟨y0, y1, y2, y3, y4⟩ := b1
  go_wp2_with fail
  have KS := oshort_any w1.heap.size 2 [l, k] (w1.alloc (.cells #[.int .i64 n, .int .i64 r, .int .i64 d, .int .i64 t, .string (bs l), .int .i64 m, .int .i64 s, .int .i64 e, .int .i64 u, .string (bs k)] 25)) (by simp)
    (by intro j hj; match j, hj with | 0, _ => exact hl | 1, _ => exact hk)
    (by intro j hj; match j, hj with | 0, _ => exact cell_at_new _ _ _ 4 _ rfl | 1, _ => exact cell_at_new _ _ _ 9 _ rfl)
  refine KS.mono ?_
  rintro x w2 ⟨rfl, hw⟩
  have a2 := HA1.out.alloc (.cells #[.int .i64 n, .int .i64 r, .int .i64 d, .int .i64 t, .string (bs l), .int .i64 m, .int .i64 s, .int .i64 e, .int .i64 u, .string (bs k)] 25)
  have b2 := HB1.out.alloc (.cells #[.int .i64 n, .int .i64 r, .int .i64 d, .int .i64 t, .string (bs l), .int .i64 m, .int .i64 s, .int .i64 e, .int .i64 u, .string (bs k)] 25)
  have B2 := hide (B1.out.alloc s1 (.cells #[.int .i64 n, .int .i64 r, .int .i64 d, .int .i64 t, .string (bs l), .int .i64 m, .int .i64 s, .int .i64 e, .int .i64 u, .string (bs k)] 25))
  have E2 := hide (E1.out.alloc (.cells #[.int .i64 n, .int .i64 r, .int .i64 d, .int .i64 t, .string (bs l), .int .i64 m, .int .i64 s, .int .i64 e, .int .i64 u, .string (bs k)] 25))
  rw [← hw] at a2 b2 B2 E2
  clear KS hw x0 x1 x2 x3 x4 y0 y1 y2 y3 y4 HA1 HB1 E1 B1
  have s2 := B2.out.size
  cases hs : shB [l, k] with
  | false =>
    clear hs
    go_wp2
    go_ret
    exact ⟨rfl, B2.out⟩
  | true =>
    have hl2 : l.length ≤ 60 := shB_all hs l (by simp)
    have K3' := hide (K3.out (by omega))
    have K7' := hide (K7.out (by omega))
    clear hs K3 K7
    have h0 : (q0 == q0) = true := beq_self_eq_true _
    have h1 : (q1 == q1) = true := beq_self_eq_true _
    have hc : (c == c) = true := beq_self_eq_true _
    have H2a := hide a2
    have H2b := hide b2
    obtain ⟨x0, x1, x2, x3, x4⟩ := a2
    obtain ⟨y0, y1, y2, y3, y4⟩ := b2
    have a2 := H2a.out
    have b2 := H2b.out
    go_wp2_with fail
    go_region_held3 (fun w' => w'.cell? ⟨w.heap.size, 0, none⟩ = some (.int .i64 n) ∧ w'.cell? ⟨w.heap.size, 1, none⟩ = some (.int .i64 r) ∧ w'.cell? ⟨w.heap.size, 2, none⟩ = some (.int .i64 d) ∧ w'.cell? ⟨w.heap.size, 3, none⟩ = some (.int .i64 t) ∧ w'.cell? ⟨w.heap.size, 4, none⟩ = some (.string (bs l)) ∧ w'.cell? ⟨w.heap.size + 1, 0, none⟩ = some (.int .i64 m) ∧ w'.cell? ⟨w.heap.size + 1, 1, none⟩ = some (.int .i64 s) ∧ w'.cell? ⟨w.heap.size + 1, 2, none⟩ = some (.int .i64 e) ∧ w'.cell? ⟨w.heap.size + 1, 3, none⟩ = some (.int .i64 u) ∧ w'.cell? ⟨w.heap.size + 1, 4, none⟩ = some (.string (bs k)))
      (first | exact ⟨aI.1, aI.2.1, aI.2.2.1, aI.2.2.2.1, aI.2.2.2.2, bI⟩ | exact ⟨aH.1, aH.2.1, aH.2.2.1, aH.2.2.2.1, aH.2.2.2.2, bH⟩ | exact ⟨aG.1, aG.2.1, aG.2.2.1, aG.2.2.2.1, aG.2.2.2.2, bG⟩ | exact ⟨aF.1, aF.2.1, aF.2.2.1, aF.2.2.2.1, aF.2.2.2.2, bF⟩ | exact ⟨aD.1, aD.2.1, aD.2.2.1, aD.2.2.2.1, aD.2.2.2.2, bD⟩ | exact ⟨aC.1, aC.2.1, aC.2.2.1, aC.2.2.2.1, aC.2.2.2.2, bC⟩ | exact ⟨a2.1, a2.2.1, a2.2.2.1, a2.2.2.2.1, a2.2.2.2.2, b2⟩ | go_keep)
      (first
        | (go_at_call 10
           (with_reducible refine (K0.out _).mono ?_)
           rintro x wX ⟨rfl, hwX⟩
           subst hwX)
        | (go_at_call 11
           (with_reducible refine (K1.out _).mono ?_)
           rintro x wY ⟨rfl, hwY⟩
           subst hwY)
        | (go_at_call 12
           (with_reducible refine (K2.out _ ?hE).mono ?_)
           (case hE => exact ⟨E2.out.tabs⟩)
           rintro x wC ⟨rfl, hbC⟩
           have hbC' : Below w2.heap.size w2 wC := ⟨hbC.os, hbC.tape, hbC.output, hbC.size, hbC.block⟩
           have BC := hide (B2.out.trans (hbC'.mono s2))
           have sC := BC.out.size
           have EC := hide (E2.out.below hbC')
           have aC : Bo wC w.heap.size n r d t l := a2.below hbC' a2.lt
           have bC : Bo wC (w.heap.size + 1) m s e u k := b2.below hbC' b2.lt
           clear hbC hbC')
        | (go_at_call 13
           (with_reducible refine (K3'.out _).mono ?_)
           rintro x wD ⟨rfl, hbD⟩
           have hbD' : Below wC.heap.size wC wD := ⟨hbD.os, hbD.tape, hbD.output, hbD.size, hbD.block⟩
           have BD := hide (BC.out.trans (hbD'.mono sC))
           have sD := BD.out.size
           have ED := hide (EC.out.below hbD')
           have aD : Bo wD w.heap.size n r d t l := aC.below hbD' aC.lt
           have bD : Bo wD (w.heap.size + 1) m s e u k := bC.below hbD' bC.lt
           clear hbD hbD')
        | (go_at_call 14
           (with_reducible refine (K4.out _).mono ?_)
           rintro x wF ⟨rfl, hbF⟩
           have hbF' : Below wD.heap.size wD wF := ⟨hbF.os, hbF.tape, hbF.output, hbF.size, hbF.block⟩
           have BF := hide (BD.out.trans (hbF'.mono sD))
           have sF := BF.out.size
           have EF := hide (ED.out.below hbF')
           have aF : Bo wF w.heap.size n r d t l := aD.below hbF' aD.lt
           have bF : Bo wF (w.heap.size + 1) m s e u k := bD.below hbF' bD.lt
           clear hbF hbF')
        | (go_at_call 15
           (with_reducible refine (K5.out _).mono ?_)
           rintro x wG ⟨rfl, hbG⟩
           have hbG' : Below wF.heap.size wF wG := ⟨hbG.os, hbG.tape, hbG.output, hbG.size, hbG.block⟩
           have BG := hide (BF.out.trans (hbG'.mono sF))
           have sG := BG.out.size
           have EG := hide (EF.out.below hbG')
           have aG : Bo wG w.heap.size n r d t l := aF.below hbG' aF.lt
           have bG : Bo wG (w.heap.size + 1) m s e u k := bF.below hbG' bF.lt
           clear hbG hbG')
        | (go_at_call 17
           (with_reducible refine (K6.out _ ?hE).mono ?_)
           (case hE => exact ⟨EG.out.tabs⟩)
           rintro x wH ⟨vH, rfl, hoH, hbH⟩
           have hbH' : Below wG.heap.size wG wH := ⟨hbH.os, hbH.tape, hbH.output, hbH.size, hbH.block⟩
           have BH := hide (BG.out.trans (hbH'.mono sG))
           have sH := BH.out.size
           have EH := hide (EG.out.below hbH')
           have aH : Bo wH w.heap.size n r d t l := aG.below hbH' aG.lt
           have bH : Bo wH (w.heap.size + 1) m s e u k := bG.below hbH' bG.lt
           have RH := hide (RSl.of_own (show wH.ownsRow wG.heap.size 5 1 vH R.length (bc R) from hoH))
           clear hoH
           clear hbH hbH')
        | (go_at_call 18
           (with_reducible refine (K7'.out _).mono ?_)
           rintro x wI ⟨vI, rfl, hoI, hbI⟩
           have hbI' : Below wH.heap.size wH wI := ⟨hbI.os, hbI.tape, hbI.output, hbI.size, hbI.block⟩
           have BI := hide (BH.out.trans (hbI'.mono sH))
           have sI := BI.out.size
           have EI := hide (EH.out.below hbI')
           have aI : Bo wI w.heap.size n r d t l := aH.below hbI' aH.lt
           have bI : Bo wI (w.heap.size + 1) m s e u k := bH.below hbI' bH.lt
           have RI := hide (RSl.of_own (show wI.ownsRow wH.heap.size 5 1 vI R.length (bc R) from hoI))
           have RJ := hide (RH.out.below hbI')
           clear hoI
           clear hbI hbI')
        | (go_at_call 16
           (with_reducible refine (same_rows vH vI R _ ?hj ?hi).mono ?_)
           (case hj => exact RJ.out)
           (case hi => exact RI.out)
           rintro x wK ⟨rfl, hwK⟩
           subst hwK))
    all_goals (try go_wp2)
    all_goals go_ret
    all_goals exact ⟨rfl, ⟨BI.out.os, BI.out.tape, BI.out.output, BI.out.size, BI.out.block⟩⟩
theorem opTells_walk (n r d t : Int) (l : ByteArray) (m s e u : Int) (k : ByteArray) (z : Int) (w : World) (_ : (Lit.int .i64 n).wf = true) (_ : (Lit.int .i64 r).wf = true) (_ : (Lit.int .i64 d).wf = true) (_ : (Lit.int .i64 t).wf = true) (hl : l.size ≤ maxLen)
    (_ : (Lit.int .i64 m).wf = true) (_ : (Lit.int .i64 s).wf = true) (_ : (Lit.int .i64 e).wf = true) (_ : (Lit.int .i64 u).wf = true) (hk : k.size ≤ maxLen) (_ : (Lit.int .i64 z).wf = true) (hE : Env w) :
    Calls Tryd.prog 3 #[.agg #[.int .i64 n, .int .i64 r, .int .i64 d, .int .i64 t, .string l], .agg #[.int .i64 m, .int .i64 s, .int .i64 e, .int .i64 u, .string k], .int .i64 z] w (TrueRet w) := by
  have h := opTells_in n r d t l.data.toList m s e u k.data.toList z w (by simpa using hl) (by simpa using hk) hE
  unfold opv at h
  rw [bs_of, bs_of] at h
  exact h
end Go.Proofs.YtjgnneajpkhppaaDoor
