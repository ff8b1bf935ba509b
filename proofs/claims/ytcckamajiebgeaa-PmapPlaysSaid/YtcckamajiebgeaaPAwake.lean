/-
  The law's awake over maps answers true, if the program keeps the contracts. Condition: these.
-/
import Derived.Test.YtcckamajiebgeaaPMapOk
import Derived.Test.YtcckamajiebgeaaPAvl
namespace Go.Proofs.Ytcckamajiebgeaa
open Go.RowKit
set_option linter.unusedVariables false
set_option linter.unusedSimpArgs false
set_option maxRecDepth 100000

/-- An edit in a block. -/
def Eb (w : World) (k : Nat) (r : Int × Int) (vm vg : Value) : Prop := w.heap[k]? = some (.cells #[.int .i64 r.1, .int .i64 r.2, vm, vg] 34 (0, 0))
theorem Eb.kp {w w' : World} {k : Nat} {r : Int × Int} {vm vg : Value} (h : Eb w k r vm vg) (hk : Kp w w') : Eb w' k r vm vg := hk.2 k _ _ _ h (by decide) (by decide) (by decide)
theorem Eb.below {w w' : World} {k : Nat} {r : Int × Int} {vm vg : Value} (h : Eb w k r vm vg) (hb : Below w.heap.size w w') : Eb w' k r vm vg := (hb.block k (Array.getElem?_eq_some_iff.1 h).1).trans h
theorem Eb.new (w : World) (r : Int × Int) (vm vg : Value) : Eb (w.alloc (.cells #[.int .i64 r.1, .int .i64 r.2, vm, vg] 34)) w.heap.size r vm vg := heap_alloc_new w _
theorem Eb.four {w : World} {k : Nat} {r : Int × Int} {vm vg : Value} (h : Eb w k r vm vg) : w.cell? ⟨k, 0, none⟩ = some (.int .i64 r.1) ∧ w.cell? ⟨k, 1, none⟩ = some (.int .i64 r.2) ∧ w.cell? ⟨k, 2, none⟩ = some vm ∧ w.cell? ⟨k, 3, none⟩ = some vg :=
  ⟨cell_of_row _ _ 0 _ _ (0, 0) h, cell_of_row _ _ 1 _ _ (0, 0) h, cell_of_row _ _ 2 _ _ (0, 0) h, cell_of_row _ _ 3 _ _ (0, 0) h⟩
theorem mo_alloc {P : MapPred} (H : MapOk P) {W w : World} {gm most U : Nat} {A : Ar} (h : P W w gm most U A) (o : Obj) : P W (w.alloc o) gm most U A := H.below h ((Below.refl _ _).alloc (Nat.le_refl _) o)
set_option maxHeartbeats 2000000 in
theorem awake_any {P : MapPred} (H : MapOk P) (w : World) : Calls Try.prog 9 #[] w (TrueRet w) := by
  have KN := hide (H.new w w 20 (by omega) (Below.refl _ _))
  unfold cmpV at KN
  have i5 : i64B 5 ∧ i64B 50 ∧ i64B 3 ∧ i64B 30 ∧ i64B 1 ∧ i64B 10 := by unfold i64B; omega
  obtain ⟨j5, j50, j3, j30, j1, j10⟩ := i5
  go_enter Try.func9, Try.ntmps9
  go_wp2_with fail
  refine KN.out.mono ?_
  rintro e w1 ⟨gm, rfl, hp, hb⟩
  have HP1 := hide hp
  clear hp hb KN
  have K1 := hide (H.put .nil 5 50 HP1.out (by omega) (Stands.nil _) (by simp [Tr.prs]) (by simp [Tr.high, Ar.live]) j5 j50)
  simp only [Tr.root] at K1
  go_wp2_with fail
  refine K1.out.mono ?_
  rintro e w2 ⟨vm, vg, T1, A1, U1, made, gone, rfl, E⟩
  have hp1 : T1.prs = [(5, 50)] := E.prs
  obtain ⟨g1, hT1⟩ := Tr.one_of hp1
  have hh1 : T1.high = 1 := by rw [hT1]; rfl
  have hl1 : A1.live ≤ 1 := by have h1 := E.live; have h2 := E.few; simp [Tr.high, Ar.live] at h1 h2; unfold Ar.live; omega
  have hu1 : U1 ≤ 1000 := by have := E.uu; omega
  have S1 := hide E.st
  have HP2 := hide E.pm
  obtain ⟨am, cm, rfl⟩ := row_form E.om
  obtain ⟨ag, cg, rfl⟩ := row_form E.og
  unfold edv
  have HPR1 := hide hp1
  obtain ⟨⟨s1, t1⟩, hr1⟩ : ∃ x, T1.root = x := ⟨_, rfl⟩
  rw [hr1]
  have HR1 := hide hr1
  clear E K1 hp1 hr1 hT1
  go_upto_region 5 with (fail)
  have X2 := hide (Eb.new w2 (s1, t1) (.slice am made.length cm) (.slice ag gone.length cg))
  have HP3 := hide (mo_alloc H HP2.out (.cells #[.int .i64 s1, .int .i64 t1, .slice am made.length cm, .slice ag gone.length cg] 34))
  simp only at X2
  clear HP2
  generalize w2.heap.size = k2 at X2 ⊢
  generalize w2.alloc (.cells #[.int .i64 s1, .int .i64 t1, .slice am made.length cm, .slice ag gone.length cg] 34) = w3 at X2 HP3 ⊢
  have K2 := hide (H.put T1 3 30 HP3.out (by omega) S1.out (by rw [HPR1.out]; simp) (by omega) j3 j30)
  rw [HR1.out, HPR1.out] at K2
  obtain ⟨x0, x1, -, -⟩ := X2.out.four
  simp only at x0 x1 K2
  go_wp2_with fail
  refine K2.out.mono ?_
  rintro e w4 ⟨vm, vg, T2, A2, U2, made2, gone2, rfl, E⟩
  have hp2 : T2.prs = [(3, 30), (5, 50)] := E.prs
  have hh2 : T2.high ≤ 2 := E.st.bal.high_le (m := 2) (by rw [hp2]; decide)
  have hl2 : A2.live ≤ 5 := by have h1 := E.live; have h2 := E.few; rw [hh1] at h2; omega
  have hu2 : U2 ≤ 2000 := by have := E.uu; omega
  have M12 := hide E.mono
  have S2 := hide E.st
  have HP4 := hide E.pm
  have X4 := hide (X2.out.kp E.kp)
  obtain ⟨am2, cm2, rfl⟩ := row_form E.om
  obtain ⟨ag2, cg2, rfl⟩ := row_form E.og
  unfold edv
  have HPR2 := hide hp2
  obtain ⟨⟨s2, t2⟩, hr2⟩ : ∃ x, T2.root = x := ⟨_, rfl⟩
  rw [hr2]
  have HR2 := hide hr2
  clear E K2 hp2 hr2 x0 x1 X2 HP3
  go_upto_region 6 with (fail)
  have D := (Below.refl w4.heap.size w4).alloc (Nat.le_refl _) (.cells #[.int .i64 s2, .int .i64 t2, .slice am2 made2.length cm2, .slice ag2 gone2.length cg2] 34)
  have Y5 := hide (Eb.new w4 (s2, t2) (.slice am2 made2.length cm2) (.slice ag2 gone2.length cg2))
  have HP5 := hide (H.below HP4.out D)
  have X5 := hide (X4.out.below D)
  simp only at Y5
  clear HP4 D X4
  generalize w4.heap.size = k4 at Y5 ⊢
  generalize w4.alloc (.cells #[.int .i64 s2, .int .i64 t2, .slice am2 made2.length cm2, .slice ag2 gone2.length cg2] 34) = w5 at Y5 X5 HP5 ⊢
  have K3 := hide (H.put T2 1 10 HP5.out (by omega) S2.out (by rw [HPR2.out]; simp) (by omega) j1 j10)
  rw [HR2.out, HPR2.out] at K3
  obtain ⟨x0, x1, -, -⟩ := Y5.out.four
  simp only at x0 x1 K3
  go_wp2_with fail
  refine K3.out.mono ?_
  rintro e w6 ⟨vm, vg, T3, A3, U3, made3, gone3, rfl, E⟩
  have hp3 : T3.prs = [(1, 10), (3, 30), (5, 50)] := E.prs
  obtain ⟨⟨s3, t3⟩, l3, r3, hT3, hh3⟩ := Tr.three_of hp3 E.st.bal
  have hlies := E.st.lies
  rw [hT3] at hlies hh3
  obtain ⟨f1, f2, f3, f4, f5, f6⟩ := hlies
  simp only at f1 f2 f3 f4
  have hnd : Tr.nd (s3, t3) 3 30 l3 r3 = ⟨3, 30, l3.root, r3.root, 2⟩ := by
    simp only [Tr.nd]
    simp only [Tr.high] at hh3
    rw [hh3]
    rfl
  rw [hnd] at f1
  have hu3 : U3 ≤ 3000 := by have := E.uu; omega
  have S13 := hide ((S1.out.mono M12.out).mono E.mono)
  have HP6 := hide E.pm
  have X6 := hide (X5.out.kp E.kp)
  obtain ⟨am3, cm3, rfl⟩ := row_form E.om
  obtain ⟨ag3, cg3, rfl⟩ := row_form E.og
  unfold edv
  rw [show T3.root = (s3, t3) by rw [hT3]; rfl]
  have HF := hide f1
  clear E K3 hp3 x0 x1 X5 HP5 Y5 f1 f2 f5 f6 hnd hh3 hT3
  go_upto_region 7 with (fail)
  have D := (Below.refl w6.heap.size w6).alloc (Nat.le_refl _) (.cells #[.int .i64 s3, .int .i64 t3, .slice am3 made3.length cm3, .slice ag3 gone3.length cg3] 34)
  have Z7 := hide (Eb.new w6 (s3, t3) (.slice am3 made3.length cm3) (.slice ag3 gone3.length cg3))
  have HP7 := hide (H.below HP6.out D)
  have X7 := hide (X6.out.below D)
  simp only at Z7
  clear HP6 D X6
  generalize w6.heap.size = k6 at Z7 ⊢
  generalize w6.alloc (.cells #[.int .i64 s3, .int .i64 t3, .slice am3 made3.length cm3, .slice ag3 gone3.length cg3] 34) = w7 at Z7 X7 HP7 ⊢
  have KL := hide (H.load HP7.out (by omega) w7 s3 t3 (Below.refl _ _) f3 f4)
  rw [HF.out] at KL
  obtain ⟨x0, x1, -, -⟩ := Z7.out.four
  simp only at x0 x1
  go_wp2_with fail
  refine KL.out.mono ?_
  unfold GetRet
  simp only [Option.getD_some, Option.isSome_some, ndv]
  rintro e w8 ⟨rfl, hb8⟩
  have HP8 := hide (H.below HP7.out hb8)
  have X8 := hide (X7.out.below hb8)
  clear hb8 KL HP7 X7 Z7 x0 x1
  obtain ⟨⟨l1, l2⟩, hlr⟩ : ∃ x, l3.root = x := ⟨_, rfl⟩
  obtain ⟨⟨r1, r2⟩, hrr⟩ : ∃ x, r3.root = x := ⟨_, rfl⟩
  rw [hlr, hrr]
  clear hlr hrr
  go_upto_region 8 with (fail)
  have D := (Below.refl w8.heap.size w8).alloc (Nat.le_refl _) (.cells #[.int .i64 3, .int .i64 30, .int .i64 l1, .int .i64 l2, .int .i64 r1, .int .i64 r2, .int .i64 2] 60)
  have HZ := hide (heap_alloc_new w8 (.cells #[.int .i64 3, .int .i64 30, .int .i64 l1, .int .i64 l2, .int .i64 r1, .int .i64 r2, .int .i64 2] 60))
  have HP9 := hide (H.below HP8.out D)
  have X9 := hide (X8.out.below D)
  clear D X8 HP8
  generalize w8.heap.size = k8 at *
  generalize w8.alloc (.cells #[.int .i64 3, .int .i64 30, .int .i64 l1, .int .i64 l2, .int .i64 r1, .int .i64 r2, .int .i64 2] 60) = w9 at *
  have G1 := hide (H.get T1 5 HP9.out (by omega) S13.out (by rw [HPR1.out]; simp) j5)
  rw [HR1.out, HPR1.out, show fiP 5 [(5, 50)] = some 50 from by decide] at G1
  simp only [Option.getD_some, Option.isSome_some] at G1
  obtain ⟨x0, x1, -, -⟩ := X9.out.four
  simp only at x0 x1
  go_wp2_with fail
  refine G1.out.mono ?_
  rintro e w10 ⟨rfl, hb⟩
  have HP10 := hide (H.below HP9.out hb)
  have X10 := hide (X9.out.below hb)
  have HZ10 := hide ((hb.block _ (Array.getElem?_eq_some_iff.1 HZ.out).1).trans HZ.out)
  clear hb G1 HP9 X9 HZ x0 x1
  have G2 := hide (H.get T1 3 HP10.out (by omega) S13.out (by rw [HPR1.out]; simp) j3)
  rw [HR1.out, HPR1.out, show fiP 3 [(5, 50)] = none from by decide] at G2
  simp only [Option.getD_none, Option.isSome_none] at G2
  obtain ⟨x0, x1, -, -⟩ := X10.out.four
  simp only at x0 x1
  go_wp2_with fail
  refine G2.out.mono ?_
  rintro e w11 ⟨rfl, hb⟩
  have BE := hide (H.bel (H.below HP10.out hb))
  obtain ⟨z0, z1, z2, z3, z4, z5, z6, -⟩ := nd_cells ((hb.block _ (Array.getElem?_eq_some_iff.1 HZ10.out).1).trans HZ10.out)
  clear hb G2 HP10 X10 HZ10 x0 x1
  go_wp2_with fail
  go_ret
  exact ⟨rfl, BE.out⟩
end Go.Proofs.Ytcckamajiebgeaa
