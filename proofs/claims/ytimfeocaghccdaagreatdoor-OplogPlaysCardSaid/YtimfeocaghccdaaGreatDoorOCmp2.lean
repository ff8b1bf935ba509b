/-
  The contract of package op's Cmp. No conditions.
-/
import Derived.Test.YtimfeocaghccdaaGreatDoorOCmp
import Derived.LoopTactic
namespace Go.Proofs.YtimfeocaghccdaaGreatDoor
set_option maxRecDepth 100000
open Go.RowKit
set_option linter.unusedVariables false

def CmpRel (w : World) (n r d t : Int) (l : List UInt8) (m s e u : Int) (k : List UInt8) (v : Value) (w' : World) : Prop :=
  ∃ i : Nat, i ≤ 4 ∧ v = .int .i64 (i : Int) ∧ Below w.heap.size w w' ∧ Bo w' w.heap.size n r d t l ∧ Bo w' (w.heap.size + 1) m s e u k ∧
    (1 ≤ i → stC n r m s = 0) ∧ (2 ≤ i → cm d e = 0) ∧ (3 ≤ i → cm t u = 0) ∧ (4 ≤ i → cN l k = 0)
theorem Bo.new2 (w : World) (n r d t : Int) (l : List UInt8) (ty : TypeId) (o : Obj) : Bo ((w.alloc o).alloc (.cells #[.int .i64 n, .int .i64 r, .int .i64 d, .int .i64 t, .string (bs l)] ty)) (w.heap.size + 1) n r d t l := by
  have h := Bo.new (w.alloc o) n r d t l ty
  rwa [show (w.alloc o).heap.size = w.heap.size + 1 by simp] at h
set_option maxHeartbeats 2000000 in
set_option maxRecDepth 100000 in
theorem ocmp_any (n r d t : Int) (l : List UInt8) (m s e u : Int) (k : List UInt8) (w : World) : Calls Tryz.prog 55 #[opv n r d t l, opv m s e u k] w (NumRet (opC n r d t l m s e u k) w) := by
  have K1 := hide (byStamp_any n r d t l m s e u k)
  have K2 := hide (byNode_any n r d t l m s e u k)
  have K3 := hide (byTo_any n r d t l m s e u k)
  have K4 := hide (byName_any n r d t l m s e u k)
  have H1 := hide (show stC n r m s ≠ 0 → opC n r d t l m s e u k = stC n r m s from fun h => by unfold opC; rw [if_pos h])
  have H2 := hide (show stC n r m s = 0 → cm d e ≠ 0 → opC n r d t l m s e u k = cm d e from fun h h2 => by unfold opC; rw [if_neg (by simpa using h), if_pos h2])
  have H3 := hide (show stC n r m s = 0 → cm d e = 0 → cm t u ≠ 0 → opC n r d t l m s e u k = cm t u from fun h h2 h3 => by unfold opC; rw [if_neg (by simpa using h), if_neg (by simpa using h2), if_pos h3])
  have H4 := hide (show stC n r m s = 0 → cm d e = 0 → cm t u = 0 → opC n r d t l m s e u k = cN l k from fun h h2 h3 => by unfold opC; rw [if_neg (by simpa using h), if_neg (by simpa using h2), if_neg (by simpa using h3)])
  have HA := hide (Bo.new w n r d t l 50)
  have HB := hide (Bo.new2 w m s e u k 50 (.cells #[.int .i64 n, .int .i64 r, .int .i64 d, .int .i64 t, .string (bs l)] 50))
  unfold opv at K1 K2 K3 K4
  unfold opv
  go_enter Tryz.func55, Tryz.ntmps55
  go_wp2_with fail
  go_loopw [9] (CmpRel w n r d t l m s e u k) (fun k _ => 4 - (intOf k).toNat)
  case atStart => exact ⟨0, by omega, rfl, below_two w _ _, HA.out.alloc _, HB.out, by omega, by omega, by omega, by omega⟩
  case round =>
    obtain ⟨i, hi, rfl, hb, ha, ho, q1, q2, q3, q4⟩ := hrel
    have B := hide hb
    have sz := hb.size
    have Q1 := hide q1
    have Q2 := hide q2
    have Q3 := hide q3
    have Q4 := hide q4
    have HX := hide ha
    have HY := hide ho
    obtain ⟨a0, a1, a2, a3, a4⟩ := ha
    obtain ⟨b0, b1, b2, b3, b4⟩ := ho
    clear hb q1 q2 q3 q4
    have hcase : i = 0 ∨ i = 1 ∨ i = 2 ∨ i = 3 ∨ i = 4 := by omega
    rcases hcase with rfl | rfl | rfl | rfl | rfl
    · have ix : ∀ w, (Instr.index 122 (.agg #[.func (.func 80) #[] #[], .func (.func 81) #[] #[], .func (.func 82) #[] #[], .func (.func 83) #[] #[]]) (.int .i64 0)).run Tryz.prog w = .ok (.func (.func 80) #[] #[]) w := fun _ => by kernel_rfl
      go_wp2_with fail
      refine (K1.out _).mono ?_
      rintro e w1 ⟨rfl, hb1⟩
      have B2 := hide (B.out.trans (hb1.mono sz))
      have HX2 := hide (HX.out.below hb1 HX.out.lt)
      have HY2 := hide (HY.out.below hb1 HY.out.lt)
      clear hb1
      by_cases h0 : stC n r m s = 0
      · have Z := hide h0
        rw [h0]
        clear h0
        go_wp2_with fail
        refine ⟨⟨1, by omega, rfl, B2.out, HX2.out, HY2.out, fun _ => Z.out, by omega, by omega, by omega⟩, by simp [intOf]⟩
      · have Z := hide (H1.out h0)
        go_wp2
        go_ret
        rw [Z.out]
        exact ⟨rfl, B2.out⟩
    · have ix : ∀ w, (Instr.index 122 (.agg #[.func (.func 80) #[] #[], .func (.func 81) #[] #[], .func (.func 82) #[] #[], .func (.func 83) #[] #[]]) (.int .i64 1)).run Tryz.prog w = .ok (.func (.func 81) #[] #[]) w := fun _ => by kernel_rfl
      go_wp2_with fail
      refine (K2.out _).mono ?_
      rintro e w1 ⟨rfl, hb1⟩
      have B2 := hide (B.out.trans (hb1.mono sz))
      have HX2 := hide (HX.out.below hb1 HX.out.lt)
      have HY2 := hide (HY.out.below hb1 HY.out.lt)
      clear hb1
      by_cases h0 : cm d e = 0
      · have Z := hide h0
        rw [h0]
        clear h0
        go_wp2_with fail
        refine ⟨⟨2, by omega, rfl, B2.out, HX2.out, HY2.out, fun _ => Q1.out (by omega), fun _ => Z.out, by omega, by omega⟩, by simp [intOf]⟩
      · have Z := hide (H2.out (Q1.out (by omega)) h0)
        go_wp2
        go_ret
        rw [Z.out]
        exact ⟨rfl, B2.out⟩
    · have ix : ∀ w, (Instr.index 122 (.agg #[.func (.func 80) #[] #[], .func (.func 81) #[] #[], .func (.func 82) #[] #[], .func (.func 83) #[] #[]]) (.int .i64 2)).run Tryz.prog w = .ok (.func (.func 82) #[] #[]) w := fun _ => by kernel_rfl
      go_wp2_with fail
      refine (K3.out _).mono ?_
      rintro e w1 ⟨rfl, hb1⟩
      have B2 := hide (B.out.trans (hb1.mono sz))
      have HX2 := hide (HX.out.below hb1 HX.out.lt)
      have HY2 := hide (HY.out.below hb1 HY.out.lt)
      clear hb1
      by_cases h0 : cm t u = 0
      · have Z := hide h0
        rw [h0]
        clear h0
        go_wp2_with fail
        refine ⟨⟨3, by omega, rfl, B2.out, HX2.out, HY2.out, fun _ => Q1.out (by omega), fun _ => Q2.out (by omega), fun _ => Z.out, by omega⟩, by simp [intOf]⟩
      · have Z := hide (H3.out (Q1.out (by omega)) (Q2.out (by omega)) h0)
        go_wp2
        go_ret
        rw [Z.out]
        exact ⟨rfl, B2.out⟩
    · have ix : ∀ w, (Instr.index 122 (.agg #[.func (.func 80) #[] #[], .func (.func 81) #[] #[], .func (.func 82) #[] #[], .func (.func 83) #[] #[]]) (.int .i64 3)).run Tryz.prog w = .ok (.func (.func 83) #[] #[]) w := fun _ => by kernel_rfl
      go_wp2_with fail
      refine (K4.out _).mono ?_
      rintro e w1 ⟨rfl, hb1⟩
      have B2 := hide (B.out.trans (hb1.mono sz))
      have HX2 := hide (HX.out.below hb1 HX.out.lt)
      have HY2 := hide (HY.out.below hb1 HY.out.lt)
      clear hb1
      by_cases h0 : cN l k = 0
      · have Z := hide h0
        rw [h0]
        clear h0
        go_wp2_with fail
        refine ⟨⟨4, by omega, rfl, B2.out, HX2.out, HY2.out, fun _ => Q1.out (by omega), fun _ => Q2.out (by omega), fun _ => Q3.out (by omega), fun _ => Z.out⟩, by simp [intOf]⟩
      · have Z := hide (H4.out (Q1.out (by omega)) (Q2.out (by omega)) (Q3.out (by omega)))
        go_wp2
        go_ret
        rw [Z.out]
        exact ⟨rfl, B2.out⟩
    · have Z := hide ((H4.out (Q1.out (by omega)) (Q2.out (by omega)) (Q3.out (by omega))).trans (Q4.out (by omega)))
      go_wp2
      go_ret
      rw [Z.out]
      exact ⟨rfl, B.out⟩
end Go.Proofs.YtimfeocaghccdaaGreatDoor
