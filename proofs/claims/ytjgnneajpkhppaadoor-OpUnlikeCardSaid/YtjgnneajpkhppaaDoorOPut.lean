/-
  The contract of package op's Put. Conditions: the two tables of unicode/utf8 as the program's text lays them.
-/
import Derived.Test.YtjgnneajpkhppaaDoorORight
import Derived.Test.YtjgnneajpkhppaaDoorConcat
import Derived.Test.YtjgnneajpkhppaaDoorText
import Derived.Deep.RegionHeld3
namespace Go.Proofs.YtjgnneajpkhppaaDoor
open Go.RowKit
set_option linter.unusedVariables false

theorem num_le (n : Int) : (num n).length ≤ 5 := by
  unfold num
  split
  · simp
  · rw [form_length]
    have := ext_le n.toNat
    omega
theorem txt_le (l : List UInt8) : (txt l).length ≤ 4101 := by
  unfold txt
  split
  · simp
  · rw [List.length_append, form_length]
    have := ext_le l.length
    omega
theorem opB_le (n r d t : Int) (l : List UInt8) : (opB n r d t l).length ≤ 5000 := by
  unfold opB
  split
  · have h1 := num_le n
    have h2 := num_le r
    have h3 := num_le d
    have h4 := num_le t
    have h5 := txt_le l
    simp only [List.length_append]
    omega
  · simp
theorem keep5 {w w' : World} {g : Nat} {n r d t : Int} {l : List UInt8} (h : Bo w g n r d t l) (hb : Below w.heap.size w w') : Bo w' g n r d t l := h.below hb h.lt
theorem concat5 (g : Nat) (v1 v2 v3 v4 v5 : Value) (N1 N2 N3 N4 N5 : List UInt8) (W : World) (hc : W.heap[g]? = some (.cells #[v1, v2, v3, v4, v5] 33 (0, 0)))
    (h1 : RSl W v1 N1) (h2 : RSl W v2 N2) (h3 : RSl W v3 N3) (h4 : RSl W v4 N4) (h5 : RSl W v5 N5) (hlen : [N1, N2, N3, N4, N5].flatten.length ≤ 5000) :
    Calls Tryd.prog 34 #[.slice (some ⟨g, 0, none⟩) 5 5] W (OwnRet W [N1, N2, N3, N4, N5].flatten) := by
  refine concat_any g 5 [N1, N2, N3, N4, N5] W ⟨[v1, v2, v3, v4, v5], rfl, ?_⟩ (by simp) (by omega)
  intro j hj hj'
  rw [cell_of_row W g j _ _ (0, 0) hc]
  match j, hj with
  | 0, _ => exact ⟨rfl, h1⟩
  | 1, _ => exact ⟨rfl, h2⟩
  | 2, _ => exact ⟨rfl, h3⟩
  | 3, _ => exact ⟨rfl, h4⟩
  | 4, _ => exact ⟨rfl, h5⟩
set_option maxHeartbeats 4000000 in
set_option maxRecDepth 100000 in
theorem oput_any (n r d t : Int) (l : List UInt8) (w : World) (hl : l.length ≤ maxLen) (hE : Env w) : Calls Tryd.prog 17 #[opv n r d t l] w (OwnRet w (opB n r d t l)) := by
  have K0 := hide (fun w => oright_any n r d t l w hl)
  have HE := hide (hE.alloc (.cells #[.int .i64 n, .int .i64 r, .int .i64 d, .int .i64 t, .string (bs l)] 25))
  clear hE
  have HA := hide (Bo.new w n r d t l 25)
  have EB := hide (show opR n r d t l = false → opB n r d t l = [] from fun h => by unfold opB; rw [h]; rfl)
  have ET := hide (show opR n r d t l = true → opB n r d t l = [num n, num r, num d, num t, txt l].flatten from fun h => by unfold opB; rw [if_pos h]; simp)
  have HL := hide (opB_le n r d t l)
  unfold opv at K0
  unfold opv
  generalize opB n r d t l = R at EB ET HL
  generalize opR n r d t l = q at K0 EB ET
  go_enter Tryd.func17, Tryd.ntmps17
  go_wp2_with fail
  refine (K0.out _ HE.out).mono ?_
  rintro e w1 ⟨rfl, hb⟩
  have HB1 := hide (HA.out.below hb (by simp))
  have B1 := hide ((Below.refl w.heap.size w).alloc (Nat.le_refl _) _ |>.trans (hb.mono (by simp)))
  have s1 := B1.out.size
  clear hb K0 HA HE
  cases q with
  | false =>
    go_wp2
    go_ret
    rw [EB.out (by simp)]
    exact ⟨_, rfl, World.ownsRow_nil _ _ _ _, B1.out⟩
  | true =>
    have KN := hide (num_any n)
    have KR := hide (num_any r)
    have KD := hide (num_any d)
    have KT := hide (num_any t)
    have KL := hide (Text_any (bs l))
    rw [bs_data] at KL
    have RE := hide (ET.out (by simp))
    clear EB ET
    generalize num n = N1 at KN RE
    generalize num r = N2 at KR RE
    generalize num d = N3 at KD RE
    generalize num t = N4 at KT RE
    generalize txt l = N5 at KL RE
    obtain ⟨a0, a1, a2, a3, a4⟩ := HB1.out
    go_wp2_with fail
    go_region_held3 (fun w' => w'.cell? ⟨w.heap.size, 0, none⟩ = some (.int .i64 n) ∧ w'.cell? ⟨w.heap.size, 1, none⟩ = some (.int .i64 r) ∧ w'.cell? ⟨w.heap.size, 2, none⟩ = some (.int .i64 d) ∧ w'.cell? ⟨w.heap.size, 3, none⟩ = some (.int .i64 t) ∧ w'.cell? ⟨w.heap.size, 4, none⟩ = some (.string (bs l)))
      (first | exact hSF | exact hSE | exact hSD | exact hSC | exact hSB | exact hSA | exact HB1.out | go_keep)
      (first
        | (go_at_call 35
           (with_reducible refine (KN.out _).mono ?_)
           rintro e wA ⟨vA, rfl, hoA, hbA⟩
           have hbA' : Below w1.heap.size w1 wA := ⟨hbA.os, hbA.tape, hbA.output, hbA.size, hbA.block⟩
           have hoA' : wA.ownsRow w1.heap.size 5 1 vA N1.length (bc N1) := hoA
           have BA := hide (B1.out.trans (hbA'.mono s1))
           have sA := BA.out.size
           have hSA : Bo wA w.heap.size n r d t l := keep5 HB1.out hbA'
           obtain ⟨fA, cA, rfl, _, _, _⟩ := (RSl.of_own hoA').form
           have RA1 := hide (RSl.of_own hoA')
           clear hbA hbA' hoA hoA')
        | (go_at_call 35
           (with_reducible refine (KR.out _).mono ?_)
           rintro e wB ⟨vB, rfl, hoB, hbB⟩
           have hbB' : Below wA.heap.size wA wB := ⟨hbB.os, hbB.tape, hbB.output, hbB.size, hbB.block⟩
           have hoB' : wB.ownsRow wA.heap.size 5 1 vB N2.length (bc N2) := hoB
           have BB := hide (BA.out.trans (hbB'.mono sA))
           have sB := BB.out.size
           have hSB : Bo wB w.heap.size n r d t l := keep5 hSA hbB'
           obtain ⟨fB, cB, rfl, _, _, _⟩ := (RSl.of_own hoB').form
           have RB2 := hide (RSl.of_own hoB')
           have RB1 := hide (RA1.out.below hbB')
           clear hbB hbB' hoB hoB' RA1)
        | (go_at_call 35
           (with_reducible refine (KD.out _).mono ?_)
           rintro e wC ⟨vC, rfl, hoC, hbC⟩
           have hbC' : Below wB.heap.size wB wC := ⟨hbC.os, hbC.tape, hbC.output, hbC.size, hbC.block⟩
           have hoC' : wC.ownsRow wB.heap.size 5 1 vC N3.length (bc N3) := hoC
           have BC := hide (BB.out.trans (hbC'.mono sB))
           have sC := BC.out.size
           have hSC : Bo wC w.heap.size n r d t l := keep5 hSB hbC'
           obtain ⟨fC, cC, rfl, _, _, _⟩ := (RSl.of_own hoC').form
           have RC3 := hide (RSl.of_own hoC')
           have RC1 := hide (RB1.out.below hbC')
           have RC2 := hide (RB2.out.below hbC')
           clear hbC hbC' hoC hoC' RB1 RB2)
        | (go_at_call 35
           (with_reducible refine (KT.out _).mono ?_)
           rintro e wD ⟨vD, rfl, hoD, hbD⟩
           have hbD' : Below wC.heap.size wC wD := ⟨hbD.os, hbD.tape, hbD.output, hbD.size, hbD.block⟩
           have hoD' : wD.ownsRow wC.heap.size 5 1 vD N4.length (bc N4) := hoD
           have BD := hide (BC.out.trans (hbD'.mono sC))
           have sD := BD.out.size
           have hSD : Bo wD w.heap.size n r d t l := keep5 hSC hbD'
           obtain ⟨fD, cD, rfl, _, _, _⟩ := (RSl.of_own hoD').form
           have RD4 := hide (RSl.of_own hoD')
           have RD1 := hide (RC1.out.below hbD')
           have RD2 := hide (RC2.out.below hbD')
           have RD3 := hide (RC3.out.below hbD')
           clear hbD hbD' hoD hoD' RC1 RC2 RC3)
        | (go_at_call 36
           (with_reducible refine (KL.out _).mono ?_)
           rintro e wE ⟨vE, rfl, hoE, hbE⟩
           have hbE' : Below wD.heap.size wD wE := ⟨hbE.os, hbE.tape, hbE.output, hbE.size, hbE.block⟩
           have hoE' : wE.ownsRow wD.heap.size 5 1 vE N5.length (bc N5) := hoE
           have BE := hide (BD.out.trans (hbE'.mono sD))
           have sE := BE.out.size
           have hSE : Bo wE w.heap.size n r d t l := keep5 hSD hbE'
           obtain ⟨fE, cE, rfl, _, _, _⟩ := (RSl.of_own hoE').form
           have RE5 := hide (RSl.of_own hoE')
           have RE1 := hide (RD1.out.below hbE')
           have RE2 := hide (RD2.out.below hbE')
           have RE3 := hide (RD3.out.below hbE')
           have RE4 := hide (RD4.out.below hbE')
           clear hbE hbE' hoE hoE' RD1 RD2 RD3 RD4)
        | (go_at_call 34
           (with_reducible refine (concat5 wE.heap.size (.slice fA N1.length cA) (.slice fB N2.length cB) (.slice fC N3.length cC) (.slice fD N4.length cD) (.slice fE N5.length cE) N1 N2 N3 N4 N5 _ ?hc ?h1 ?h2 ?h3 ?h4 ?h5 ?hlen).mono ?_)
           (case hc => exact heap_alloc_new wE _)
           (case h1 => exact RE1.out.alloc _)
           (case h2 => exact RE2.out.alloc _)
           (case h3 => exact RE3.out.alloc _)
           (case h4 => exact RE4.out.alloc _)
           (case h5 => exact RE5.out.alloc _)
           (case hlen => rw [← RE.out]; exact HL.out)
           rintro e wF ⟨vF, rfl, hoF, hbF⟩
           have hbF' : Below (wE.heap.size + 1) (wE.alloc (.cells #[.slice fA N1.length cA, .slice fB N2.length cB, .slice fC N3.length cC, .slice fD N4.length cD, .slice fE N5.length cE] 33)) wF := ⟨hbF.os, hbF.tape, hbF.output, by have := hbF.size; simpa using this, fun k hk => hbF.block k (by simpa using hk)⟩
           have BF := hide ((BE.out.alloc sE (.cells #[.slice fA N1.length cA, .slice fB N2.length cB, .slice fC N3.length cC, .slice fD N4.length cD, .slice fE N5.length cE] 33)).trans (hbF'.mono (by omega)))
           have OF := hide (own_base hoF (by simp; omega : w.heap.size ≤ _))
           have hSF : Bo wF w.heap.size n r d t l := (hSE.alloc (.cells #[.slice fA N1.length cA, .slice fB N2.length cB, .slice fC N3.length cC, .slice fD N4.length cD, .slice fE N5.length cE] 33)).below hbF' (by have := hSE.lt; omega)
           clear hbF hbF' hoF))
    go_wp2
    go_ret
    rw [RE.out]
    exact ⟨_, rfl, OF.out, BF.out⟩
end Go.Proofs.YtjgnneajpkhppaaDoor
