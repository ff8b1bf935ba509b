/-
  The contract of the document's Put. Conditions: the name is no longer than a thousand bytes.
-/
import Derived.Test.YtjgnneajpkhppaaDoorOPut
import Derived.Test.YtjgnneajpkhppaaDoorRef
import Derived.Deep.RegionHeld3
import Derived.Deep.AppendLies
namespace Go.Proofs.YtjgnneajpkhppaaDoor
open Go.RowKit
set_option linter.unusedVariables false

theorem num_pos (n : Int) (h0 : 0 ≤ n) (h1 : n ≤ 4294967295) : 0 < (num n).length := by rw [num_in n h0 h1, form_length]; omega
set_option maxHeartbeats 4000000 in
set_option maxRecDepth 100000 in
theorem orefPut_any (n r d t : Int) (l : List UInt8) (w : World) (hl : l.length ≤ 1000) : Calls Tryd.prog 18 #[opv n r d t l] w (OwnRet w (opB n r d t l)) := by
  obtain ⟨i0, hi0, hz0, hz1, hz2⟩ := info_parts u8info
  have K0 := hide (fun w => orefRight_any n r d t l w hl)
  have HA := hide (Bo.new w n r d t l 25)
  have EB := hide (show opR n r d t l = false → opB n r d t l = [] from fun h => by unfold opB; rw [h]; rfl)
  have ET := hide (show opR n r d t l = true → opB n r d t l = num n ++ num r ++ num d ++ num t ++ txt l from fun h => by unfold opB; rw [if_pos h])
  have EP := hide (show opR n r d t l = true → 0 < (num n).length ∧ 0 < (num r).length ∧ 0 < (num d).length ∧ 0 < (num t).length ∧ 0 < (txt l).length from fun h => by
    obtain ⟨h1, h2, h3, h4⟩ := opR_t h
    have h1 := stR_t h1
    have h2 := ndB_t h2
    have h3 := toB_t h3
    refine ⟨num_pos n (by omega) (by omega), num_pos r (by omega) (by omega), num_pos d (by omega) (by omega), num_pos t (by omega) (by omega), ?_⟩
    rw [txt_in l (by omega), List.length_append, form_length]
    omega)
  unfold opv at K0
  unfold opv
  generalize opB n r d t l = R at EB ET
  generalize opR n r d t l = q at K0 EB ET EP
  go_enter Tryd.func18, Tryd.ntmps18
  go_wp2_with fail
  refine (K0.out _).mono ?_
  rintro e w1 ⟨rfl, hb⟩
  obtain ⟨a0, a1, a2, a3, a4⟩ := HA.out.below hb (by simp)
  have l1 : w.heap.size < w1.heap.size := World.block_lt_of_cell? w1 _ a0
  have B1 := hide ((Below.refl w.heap.size w).alloc (Nat.le_refl _) _ |>.trans (hb.mono (by simp)))
  clear hb K0 HA
  cases q with
  | false =>
    go_wp2
    go_ret
    rw [EB.out (by simp)]
    exact ⟨_, rfl, World.ownsRow_nil _ _ _ _, B1.out⟩
  | true =>
    have KN := hide (refnum_any n)
    have KR := hide (refnum_any r)
    have KD := hide (refnum_any d)
    have KT := hide (refnum_any t)
    have KL := hide (refText_any (bs l))
    rw [bs_data] at KL
    have RE := hide (ET.out (by simp))
    obtain ⟨p1, p2, p3, p4, p5⟩ := EP.out (by simp)
    have q1 := num_le n
    have q2 := num_le r
    have q3 := num_le d
    have q4 := num_le t
    have q5 := txt_le l
    clear EB ET EP
    generalize num n = N1 at KN RE p1 q1
    generalize num r = N2 at KR RE p2 q2
    generalize num d = N3 at KD RE p3 q3
    generalize num t = N4 at KT RE p4 q4
    generalize txt l = N5 at KL RE p5 q5
    have B0 := hide (Below.refl w1.heap.size w1)
    have s0 : w1.heap.size ≤ w1.heap.size := Nat.le_refl _
    go_wp2_with fail
    go_region_held3 (fun w' => w'.cell? ⟨w.heap.size, 0, none⟩ = some (.int .i64 n) ∧ w'.cell? ⟨w.heap.size, 1, none⟩ = some (.int .i64 r))
      (first | exact ⟨(BC.out.cell (p := ⟨w.heap.size, 0, none⟩) l1).trans a0, (BC.out.cell (p := ⟨w.heap.size, 1, none⟩) l1).trans a1⟩ | exact ⟨(BB.out.cell (p := ⟨w.heap.size, 0, none⟩) l1).trans a0, (BB.out.cell (p := ⟨w.heap.size, 1, none⟩) l1).trans a1⟩ | exact ⟨(BA.out.cell (p := ⟨w.heap.size, 0, none⟩) l1).trans a0, (BA.out.cell (p := ⟨w.heap.size, 1, none⟩) l1).trans a1⟩ | exact ⟨(B0.out.cell (p := ⟨w.heap.size, 0, none⟩) l1).trans a0, (B0.out.cell (p := ⟨w.heap.size, 1, none⟩) l1).trans a1⟩ | go_keep)
      (first
        | (go_at_call 37
           (with_reducible refine (KN.out _).mono ?_)
           rintro e wA ⟨vA, rfl, hoA, hbA⟩
           have hbA' : Below w1.heap.size w1 wA := ⟨hbA.os, hbA.tape, hbA.output, hbA.size, hbA.block⟩
           have hoA' : wA.ownsRow w1.heap.size 5 1 vA N1.length (bc N1) := hoA
           have BA := hide (B0.out.trans (hbA'.mono s0))
           have sA := BA.out.size
           obtain ⟨gA, capA, rfl, hgA, hcA⟩ := own_some hoA' p1
           have CA := hide hcA
           have OA := hide (own_base hoA' s0)
           clear hoA hbA hbA' hcA hgA hoA')
        | (go_at_call 37
           (with_reducible refine (KR.out _).mono ?_)
           rintro e wB ⟨vB, rfl, hoB, hbB⟩
           have hbB' : Below wA.heap.size wA wB := ⟨hbB.os, hbB.tape, hbB.output, hbB.size, hbB.block⟩
           have hoB' : wB.ownsRow wA.heap.size 5 1 vB N2.length (bc N2) := hoB
           have BB := hide (BA.out.trans (hbB'.mono sA))
           have sB := BB.out.size
           obtain ⟨gB, capB, rfl, hgB, hcB⟩ := own_some hoB' p2
           have CB := hide hcB
           have OB := hide (own_below OA.out hbB')
           clear hoB hbB hbB' hcB hgB hoB')
        | (refine step_append_lies _ (by rfl) _ _ _ (by rfl) w1.heap.size 5 i0 _ 1 1 Tryd.underlying33 hi0 hz0 hz1 hz2 rfl (by omega) (.slice (some ⟨gA, 0, none⟩) N1.length capA) (N1.length) (bc N1) (by rfl) OB.out ⟨gB, 0, none⟩ N2.length capB (bc N2) (by rfl) (by simp only [bc_length, Nat.mul_one]) CB.out (bc_one _) p2 (by simp only [maxLen]; omega) (by omega) sB wB.heap.size rfl ?_
           intro gC capC wC hownC hgrowC hatC hltC
           have BC := hide (BB.out.grown hgrowC sB (fun q hq => (OB.out.lt q hq).1))
           have sC : w1.heap.size ≤ wC.heap.size := BC.out.size
           have OC := hide hownC
           clear hownC hgrowC hatC hltC)
)
    clear BA BB OA OB CA CB sA sB
    go_wp2_with fail
    go_region_held3 (fun w' => w'.cell? ⟨w.heap.size, 2, none⟩ = some (.int .i64 d) ∧ w'.cell? ⟨w.heap.size, 3, none⟩ = some (.int .i64 t))
      (first | exact ⟨(BG.out.cell (p := ⟨w.heap.size, 2, none⟩) l1).trans a2, (BG.out.cell (p := ⟨w.heap.size, 3, none⟩) l1).trans a3⟩ | exact ⟨(BF.out.cell (p := ⟨w.heap.size, 2, none⟩) l1).trans a2, (BF.out.cell (p := ⟨w.heap.size, 3, none⟩) l1).trans a3⟩ | exact ⟨(BE.out.cell (p := ⟨w.heap.size, 2, none⟩) l1).trans a2, (BE.out.cell (p := ⟨w.heap.size, 3, none⟩) l1).trans a3⟩ | exact ⟨(BD.out.cell (p := ⟨w.heap.size, 2, none⟩) l1).trans a2, (BD.out.cell (p := ⟨w.heap.size, 3, none⟩) l1).trans a3⟩ | exact ⟨(BC.out.cell (p := ⟨w.heap.size, 2, none⟩) l1).trans a2, (BC.out.cell (p := ⟨w.heap.size, 3, none⟩) l1).trans a3⟩ | go_keep)
      (first
        | (go_at_call 37
           (with_reducible refine (KD.out _).mono ?_)
           rintro e wD ⟨vD, rfl, hoD, hbD⟩
           have hbD' : Below wC.heap.size wC wD := ⟨hbD.os, hbD.tape, hbD.output, hbD.size, hbD.block⟩
           have hoD' : wD.ownsRow wC.heap.size 5 1 vD N3.length (bc N3) := hoD
           have BD := hide (BC.out.trans (hbD'.mono sC))
           have sD := BD.out.size
           obtain ⟨gD, capD, rfl, hgD, hcD⟩ := own_some hoD' p3
           have CD := hide hcD
           have OD := hide (own_below OC.out hbD')
           clear hoD hbD hbD' hcD hgD hoD')
        | (refine step_append_lies _ (by rfl) _ _ _ (by rfl) w1.heap.size 5 i0 _ 1 1 Tryd.underlying33 hi0 hz0 hz1 hz2 rfl (by omega) (.slice (some ⟨gC, 0, none⟩) (N1.length + N2.length) capC) (N1.length + N2.length) (bc N1 ++ bc N2) (by rfl) OD.out ⟨gD, 0, none⟩ N3.length capD (bc N3) (by rfl) (by simp only [bc_length, Nat.mul_one]) CD.out (bc_one _) p3 (by simp only [maxLen]; omega) (by omega) sD wD.heap.size rfl ?_
           intro gE capE wE hownE hgrowE hatE hltE
           have BE := hide (BD.out.grown hgrowE sD (fun q hq => (OD.out.lt q hq).1))
           have sE : w1.heap.size ≤ wE.heap.size := BE.out.size
           have OE := hide hownE
           clear hownE hgrowE hatE hltE)
        | (go_at_call 37
           (with_reducible refine (KT.out _).mono ?_)
           rintro e wF ⟨vF, rfl, hoF, hbF⟩
           have hbF' : Below wE.heap.size wE wF := ⟨hbF.os, hbF.tape, hbF.output, hbF.size, hbF.block⟩
           have hoF' : wF.ownsRow wE.heap.size 5 1 vF N4.length (bc N4) := hoF
           have BF := hide (BE.out.trans (hbF'.mono sE))
           have sF := BF.out.size
           obtain ⟨gF, capF, rfl, hgF, hcF⟩ := own_some hoF' p4
           have CF := hide hcF
           have OF := hide (own_below OE.out hbF')
           clear hoF hbF hbF' hcF hgF hoF')
        | (refine step_append_lies _ (by rfl) _ _ _ (by rfl) w1.heap.size 5 i0 _ 1 1 Tryd.underlying33 hi0 hz0 hz1 hz2 rfl (by omega) (.slice (some ⟨gE, 0, none⟩) (N1.length + N2.length + N3.length) capE) (N1.length + N2.length + N3.length) (bc N1 ++ bc N2 ++ bc N3) (by rfl) OF.out ⟨gF, 0, none⟩ N4.length capF (bc N4) (by rfl) (by simp only [bc_length, Nat.mul_one]) CF.out (bc_one _) p4 (by simp only [maxLen]; omega) (by omega) sF wF.heap.size rfl ?_
           intro gG capG wG hownG hgrowG hatG hltG
           have BG := hide (BF.out.grown hgrowG sF (fun q hq => (OF.out.lt q hq).1))
           have sG : w1.heap.size ≤ wG.heap.size := BG.out.size
           have OG := hide hownG
           clear hownG hgrowG hatG hltG)
)
    clear BC BD BE BF OC OD OE OF CD CF sC sD sE sF
    have c4 := (BG.out.cell (p := ⟨w.heap.size, 4, none⟩) l1).trans a4
    go_wp2_with fail
    refine (KL.out _).mono ?_
    rintro e wH ⟨vH, rfl, hoH, hbH⟩
    have BH := hide (BG.out.trans (hbH.mono sG))
    have sH := BH.out.size
    have OH := hide (own_below OG.out hbH)
    have NH := hide (Hnd.of_RSl (RSl.of_own hoH))
    obtain ⟨fH, cH, rfl, hA, _, _⟩ := (RSl.of_own hoH).form
    have FA := hide hA
    clear hbH hoH hA
    rw [← bc_append, ← bc_append, ← bc_append] at OH
    go_wp2_with (at_builtin; refine wpList_append_b _ rfl _ _ rfl w1.heap.size _ (N1.length + N2.length + N3.length + N4.length) (N1 ++ N2 ++ N3 ++ N4) rfl OH.out fH N5.length cH N5 rfl rfl FA.out NH.out (by omega) sH ?_)
    intro vI wI hoI hgI _
    have BI := hide (BH.out.grown hgI sH (fun q hq => (OH.out.lt q hq).1))
    have OI := hide (own_base hoI (Nat.le_of_lt l1))
    clear hoI hgI
    go_wp2
    go_ret
    rw [RE.out]
    refine ⟨_, rfl, ?_, B1.out.trans (BI.out.mono (Nat.le_of_lt l1))⟩
    have hn : (N1 ++ N2 ++ N3 ++ N4 ++ N5).length = N1.length + N2.length + N3.length + N4.length + N5.length := by simp only [List.length_append]
    rw [hn, show N1 ++ N2 ++ N3 ++ N4 ++ N5 = N1 ++ (N2 ++ (N3 ++ (N4 ++ N5))) by simp only [List.append_assoc]]
    exact OI.out
end Go.Proofs.YtjgnneajpkhppaaDoor
