/-
  The walk of the law OpBack: it answers true at every input, and changes nothing that was there. Conditions: the two tables of unicode/utf8 as the program's text lays them.
-/
import Derived.Test.YtjgnneajpkhppaaDoorOTellsWalk
import Derived.Test.YtjgnneajpkhppaaDoorOBackPure
namespace Go.Proofs.YtjgnneajpkhppaaDoor
open Go.RowKit
set_option linter.unusedVariables false

theorem Bo.grown {w w' : World} {g h : Nat} {n r d t : Int} {l : List UInt8} (hb : Bo w g n r d t l) (gr : w.grownBy w' (some h)) (hne : g ≠ h) : Bo w' g n r d t l := by
  have ok : ∀ j, w'.cell? ⟨g, j, none⟩ = w.cell? ⟨g, j, none⟩ := fun j => World.cell?_of_block (gr.block g hb.lt (by intro e; injection e with e; exact hne e))
  exact ⟨(ok 0).trans hb.1, (ok 1).trans hb.2.1, (ok 2).trans hb.2.2.1, (ok 3).trans hb.2.2.2.1, (ok 4).trans hb.2.2.2.2⟩
theorem same_hnd (v1 v2 : Value) (R : List UInt8) (W : World) (h1 : Hnd W v1 R) (h2 : Hnd W v2 R) : Calls Tryd.prog 16 #[v1, v2] W (fun e w' => e = .returned (.bool true) ∧ W = w') :=
  same_yes v1 v2 (bs R) W (conv_hnd h1) (conv_hnd h2)
set_option maxHeartbeats 8000000 in
set_option maxRecDepth 100000 in
theorem opBack_in (n r d t : Int) (l : List UInt8) (a1 : Option Addr) (c1 : Nat) (M : List UInt8) (a2 : Option Addr) (c2 : Nat) (Bl : List UInt8) (w : World) (hl : l.length ≤ maxLen) (hE : Env w)
    (hM : Hnd w (.slice a1 M.length c1) M) (hM1 : a1 = none → c1 = 0) (hB : Hnd w (.slice a2 Bl.length c2) Bl) (hB1 : Bl.length ≤ c2) (hc1 : M.length ≤ maxLen) (hc2 : Bl.length ≤ maxLen) :
    Calls Tryd.prog 4 #[opv n r d t l, .slice a1 M.length c1, .slice a2 Bl.length c2] w (TrueRet w) := by
  have HE := hide hE
  have HM := hide hM
  have HM1 := hide hM1
  have HB := hide hB
  clear hE hM hM1 hB
  have HA := hide (Bo.new w n r d t l 25)
  unfold maxLen at hc1 hc2
  have K2 := hide (fun W => oright_any n r d t l W hl)
  have K6 := hide (fun W => oput_any n r d t l W hl)
  unfold opv at K2 K6
  have RF : Hid (opR n r d t l = false → opB n r d t l = []) := hide fun h => by unfold opB; rw [h]; rfl
  have RT : Hid (opR n r d t l = true → tkR (opB n r d t l ++ M) 0 = true ∧ tkV (opB n r d t l ++ M) 0 = opv n r d t l ∧ (tk5 (opB n r d t l ++ M) 0).2 = (M, 0)) := hide fun h => put_take h M
  have hR := opB_le n r d t l
  unfold opv
  generalize opR n r d t l = rt at K2 RF RT
  generalize opB n r d t l = R at K6 RF RT hR
  go_enter Tryd.func4, Tryd.ntmps4
  go_wp2_with fail
  refine (oAwake_any _ (HE.out.alloc _)).mono ?_
  rintro x w1 ⟨rfl, hb⟩
  have A1 := hide (HA.out.below hb (by simp))
  have B1 := hide (((Below.refl w.heap.size w).alloc (Nat.le_refl _) _).trans (hb.mono (by simp)))
  have E1 := hide ((HE.out.alloc _).below hb)
  have s1 := B1.out.size
  have l1 := A1.out.lt
  clear hb HA HE
  obtain ⟨x0, x1, x2, x3, x4⟩ := A1.out
  go_wp2_with fail
  have QS := oshort_any w1.heap.size 1 [l] (w1.alloc (.cells #[.int .i64 n, .int .i64 r, .int .i64 d, .int .i64 t, .string (bs l)] 25)) (by simp)
    (by intro j hj; match j, hj with | 0, _ => exact hl)
    (by intro j hj; match j, hj with | 0, _ => exact cell_at_new _ _ _ 4 _ rfl)
  refine QS.mono ?_
  rintro x w2 ⟨rfl, hw⟩
  have A2 := hide (A1.out.alloc (.cells #[.int .i64 n, .int .i64 r, .int .i64 d, .int .i64 t, .string (bs l)] 25))
  have B2 := hide (B1.out.alloc s1 (.cells #[.int .i64 n, .int .i64 r, .int .i64 d, .int .i64 t, .string (bs l)] 25))
  have E2 := hide (E1.out.alloc (.cells #[.int .i64 n, .int .i64 r, .int .i64 d, .int .i64 t, .string (bs l)] 25))
  rw [← hw] at A2 B2 E2
  clear QS hw x0 x1 x2 x3 x4 A1 E1 B1
  have s2 := B2.out.size
  have l2 := A2.out.lt
  cases hs : shB [l] with
  | false =>
    clear hs
    go_wp2
    go_ret
    exact ⟨rfl, B2.out⟩
  | true =>
    clear hs
    by_cases g1 : 300 < M.length
    · go_wp2
      go_ret
      exact ⟨rfl, B2.out⟩
    · by_cases g2 : 300 < Bl.length
      · go_wp2
        go_ret
        exact ⟨rfl, B2.out⟩
      · have NB := hide (HB.out.below B2.out)
        go_wp2_with fail
        refine (new_any _ Bl w2 (by omega) NB.out).mono ?_
        rintro x w3 ⟨g, rfl, hg, hr, hb3⟩
        have B3 := hide (B2.out.trans (hb3.mono s2))
        have E3 := hide (E2.out.below hb3)
        have A3 := hide (A2.out.below hb3 l2)
        have R3 := hide hr
        have s3 := hb3.size
        clear hr hb3 NB
        go_wp2_with fail
        refine (otake_any g 0 Bl w3 R3.out E3.out).mono ?_
        rintro x w4 ⟨rfl, hr4, gr4⟩
        obtain ⟨n', r', d', t', l', hv, hl', hle, hput⟩ := taken Bl
        rw [hv]
        have HP := hide hput
        have B4 := hide (B3.out.grown gr4 (by omega) (fun k hk => by injection hk with hk; omega))
        have E4 := hide (E3.out.grown R3.out gr4)
        have A4 := hide (A3.out.grown gr4 (by omega))
        have R4 := hide hr4
        have s4 := gr4.size
        clear hr4 gr4 hv hput R3 E3 A3 B3
        generalize (tk5 Bl 0).2.1 = rest at HP hle R4
        generalize (tk5 Bl 0).2.2 = er at R4
        generalize tkR Bl 0 = can at HP ⊢
        unfold opv
        go_upto_region 9 with (fail)
        have B5 := hide (B4.out.alloc (by omega) (.cells #[.int .i64 n', .int .i64 r', .int .i64 d', .int .i64 t', .string (bs l')] 25))
        have E5 := hide (E4.out.alloc (.cells #[.int .i64 n', .int .i64 r', .int .i64 d', .int .i64 t', .string (bs l')] 25))
        have A5 := hide (A4.out.alloc (.cells #[.int .i64 n', .int .i64 r', .int .i64 d', .int .i64 t', .string (bs l')] 25))
        have P5 := hide (Bo.new w4 n' r' d' t' l' 25)
        have R5 := hide (R4.out.below ((Below.refl w4.heap.size w4).alloc (Nat.le_refl _) (.cells #[.int .i64 n', .int .i64 r', .int .i64 d', .int .i64 t', .string (bs l')] 25)))
        have s5 : (w4.alloc (.cells #[.int .i64 n', .int .i64 r', .int .i64 d', .int .i64 t', .string (bs l')] 25)).heap.size = w4.heap.size + 1 := by simp
        generalize w4.alloc (.cells #[.int .i64 n', .int .i64 r', .int .i64 d', .int .i64 t', .string (bs l')] 25) = w5 at B5 E5 A5 P5 R5 s5 ⊢
        clear B4 E4 A4 R4
        go_wp2_with fail
        refine (left_any g er rest w5 R5.out).mono ?_
        rintro x w6 ⟨rfl, rfl⟩
        have hk : ((Bl.length : Int) - (rest.length : Int)) = ((Bl.length - rest.length : Nat) : Int) := by omega
        have HK := hide hk
        clear hk
        go_upto_region 10 with (fail)
        rw [HK.out]
        generalize hq : Bl.length - rest.length = q at HP HK ⊢
        have hq2 : q ≤ Bl.length := by omega
        clear hq HK
        cases can with
        | false =>
          obtain ⟨x0, x1, x2, x3, x4⟩ := P5.out
          go_wp2_with fail
          go_region
          have B6 : Hid (Below w.heap.size w w5.drew) := hide ⟨B5.out.os, B5.out.tape, B5.out.output, B5.out.size, B5.out.block⟩
          have E6 : Hid (Env w5.drew) := hide ⟨E5.out.tabs⟩
          have A6 : Hid (Bo w5.drew w.heap.size n r d t l) := hide A5.out
          have s56 : w5.drew.heap.size = w5.heap.size := rfl
          generalize w5.drew = w6 at B6 E6 A6 s56 ⊢
          clear x0 x1 x2 x3 x4 B5 E5 A5 P5 R5
          have s6 := B6.out.size
          have l6 := A6.out.lt
          obtain ⟨x0, x1, x2, x3, x4⟩ := A6.out
          go_wp2_with fail
          refine (K6.out w6 E6.out).mono ?_
          rintro x w7 ⟨v7, rfl, ho7, hb7⟩
          have B67 := hide hb7
          have s7 := hb7.size
          have B7 := hide (B6.out.trans (hb7.mono s6))
          have O7 := hide ho7
          have N7 := hide (HM.out.below B7.out)
          clear ho7 hb7 x0 x1 x2 x3 x4
          go_wp2_with (at_builtin; refine wpList_append_b _ rfl _ _ rfl w6.heap.size _ R.length R rfl O7.out a1 M.length c1 M rfl rfl HM1.out N7.out (by omega) s7 ?_)
          intro v8 w8 ho8 hg8 _
          have B68 := hide (B67.out.grown hg8 s7 (fun q hq => (O7.out.lt q hq).1))
          have s8 := B68.out.size
          have B8 := hide (B6.out.trans (B68.out.mono s6))
          have E8 := hide (E6.out.below B68.out)
          have A8 := hide (A6.out.below B68.out l6)
          have N8 := hide (Hnd.of_RSl (RSl.of_own (l := R ++ M) (by rw [List.length_append]; exact ho8)))
          clear ho8 hg8 O7 N7 B67 B68 B6 E6 A6 B7
          go_wp2_with fail
          refine (new_any v8 (R ++ M) w8 (by rw [List.length_append]; omega) N8.out).mono ?_
          rintro x w9 ⟨g9, rfl, hg9, hr9, hb9⟩
          have B9 := hide (B8.out.trans (hb9.mono (by omega)))
          have E9 := hide (E8.out.below hb9)
          have A9 := hide (A8.out.below hb9 (by omega))
          have R9 := hide hr9
          have s9 := hb9.size
          clear hr9 hb9 N8 B8 E8 A8
          obtain ⟨x0, x1, x2, x3, x4⟩ := A9.out
          go_wp2_with fail
          refine (K2.out w9 E9.out).mono ?_
          rintro x wA ⟨rfl, hbA⟩
          have BA := hide (B9.out.trans (hbA.mono (by omega)))
          have EA := hide (E9.out.below hbA)
          have AA := hide (A9.out.below hbA (by omega))
          have RA := hide (R9.out.below hbA)
          have sA := hbA.size
          clear hbA x0 x1 x2 x3 x4 B9 E9 A9 R9
          obtain ⟨x0, x1, x2, x3, x4⟩ := AA.out
          cases rt with
          | false =>
            have hz := RF.out (by simp)
            go_wp2_with fail
            refine (K6.out wA EA.out).mono ?_
            rintro x wB ⟨vB, rfl, hoB, hbB⟩
            have BB := hide (BA.out.trans (hbB.mono (by omega)))
            rw [hz] at hoB
            obtain ⟨fB, cB, rfl, _, _, _⟩ := (RSl.of_own hoB).form
            clear hoB hbB
            go_wp2
            go_ret
            exact ⟨rfl, BB.out⟩
          | true =>
            obtain ⟨u1, u2, u3⟩ := RT.out (by simp)
            go_wp2_with fail
            refine (otake_any g9 0 (R ++ M) wA RA.out EA.out).mono ?_
            rintro x wB ⟨rfl, hrB, grB⟩
            rw [u1, u2]
            rw [u3] at hrB
            unfold opv
            have BB := hide (BA.out.grown grB (by omega) (fun k hk => by injection hk with hk; omega))
            have AB := hide (AA.out.grown grB (by omega))
            have RB : Hid (Rd wB g9 M 0) := hide hrB
            have sB := grB.size
            clear hrB grB u1 u2 u3 x0 x1 x2 x3 x4 BA AA RA EA
            go_upto_region 18 with (fail)
            have BC := hide (BB.out.alloc (by omega) (.cells #[.int .i64 n, .int .i64 r, .int .i64 d, .int .i64 t, .string (bs l)] 25))
            have AC := hide (AB.out.alloc (.cells #[.int .i64 n, .int .i64 r, .int .i64 d, .int .i64 t, .string (bs l)] 25))
            have PC := hide (Bo.new wB n r d t l 25)
            have RC := hide (RB.out.below ((Below.refl wB.heap.size wB).alloc (Nat.le_refl _) (.cells #[.int .i64 n, .int .i64 r, .int .i64 d, .int .i64 t, .string (bs l)] 25)))
            generalize wB.alloc (.cells #[.int .i64 n, .int .i64 r, .int .i64 d, .int .i64 t, .string (bs l)] 25) = wC at BC AC PC RC ⊢
            obtain ⟨x0, x1, x2, x3, x4⟩ := AC.out
            obtain ⟨y0, y1, y2, y3, y4⟩ := PC.out
            clear BB AB RB
            go_wp2_with fail
            refine (left_any g9 0 M wC RC.out).mono ?_
            rintro x wD ⟨rfl, rfl⟩
            go_wp2
            go_ret
            exact ⟨rfl, BC.out⟩
        | true =>
          have HP2 := hide (HP.out rfl)
          have K7 := hide (fun W => oput_any n' r' d' t' l' W hl')
          unfold opv at K7
          rw [HP2.out] at K7
          have hsl : ∀ W, (Instr.slice 33 (.slice a2 Bl.length c2) none (some (.int .i64 (q : Int))) none).run Tryd.prog W = .ok (.slice a2 q c2) W := fun W => run_head_any a2 Bl.length c2 q (by omega) W
          obtain ⟨x0, x1, x2, x3, x4⟩ := P5.out
          go_wp2_with fail
          go_region_held3 (fun w' => w'.cell? ⟨w4.heap.size, 0, none⟩ = some (.int .i64 n') ∧ w'.cell? ⟨w4.heap.size, 1, none⟩ = some (.int .i64 r') ∧ w'.cell? ⟨w4.heap.size, 2, none⟩ = some (.int .i64 d') ∧ w'.cell? ⟨w4.heap.size, 3, none⟩ = some (.int .i64 t') ∧ w'.cell? ⟨w4.heap.size, 4, none⟩ = some (.string (bs l')))
            (first | exact P6 | exact P5.out | go_keep)
            (first
              | (go_at_call 17
                 (with_reducible refine (K7.out _ ?hE).mono ?_)
                 (case hE => exact ⟨E5.out.tabs⟩)
                 rintro x w6 ⟨v6, rfl, ho6, hb6⟩
                 have hb6' : Below w5.heap.size w5 w6 := ⟨hb6.os, hb6.tape, hb6.output, hb6.size, hb6.block⟩
                 have ho6' : w6.ownsRow w5.heap.size 5 1 v6 (Bl.take q).length (bc (Bl.take q)) := ho6
                 have B6 := hide (B5.out.trans (hb6'.mono (by omega)))
                 have E6 := hide (E5.out.below hb6')
                 have A6 := hide (A5.out.below hb6' (by omega))
                 have P6 : Bo w6 w4.heap.size n' r' d' t' l' := P5.out.below hb6' (by omega)
                 have Q6 := hide (RSl.of_own ho6')
                 have N6 := hide ((HB.out.below B6.out).head q hq2)
                 clear ho6 ho6' hb6 hb6')
              | (go_at_call 16
                 (with_reducible refine (same_hnd v6 (.slice a2 q c2) (Bl.take q) _ ?hj ?hi).mono ?_)
                 (case hj => exact Hnd.of_RSl Q6.out)
                 (case hi => exact N6.out)
                 rintro x wK ⟨rfl, hwK⟩
                 subst hwK))
          clear hsl K7 HP2 P6 Q6 N6 B5 E5 A5 P5 R5 x0 x1 x2 x3 x4
          have s6 := B6.out.size
          have l6 := A6.out.lt
          obtain ⟨x0, x1, x2, x3, x4⟩ := A6.out
          go_wp2_with fail
          refine (K6.out w6 E6.out).mono ?_
          rintro x w7 ⟨v7, rfl, ho7, hb7⟩
          have B67 := hide hb7
          have s7 := hb7.size
          have B7 := hide (B6.out.trans (hb7.mono s6))
          have O7 := hide ho7
          have N7 := hide (HM.out.below B7.out)
          clear ho7 hb7 x0 x1 x2 x3 x4
          go_wp2_with (at_builtin; refine wpList_append_b _ rfl _ _ rfl w6.heap.size _ R.length R rfl O7.out a1 M.length c1 M rfl rfl HM1.out N7.out (by omega) s7 ?_)
          intro v8 w8 ho8 hg8 _
          have B68 := hide (B67.out.grown hg8 s7 (fun q hq => (O7.out.lt q hq).1))
          have s8 := B68.out.size
          have B8 := hide (B6.out.trans (B68.out.mono s6))
          have E8 := hide (E6.out.below B68.out)
          have A8 := hide (A6.out.below B68.out l6)
          have N8 := hide (Hnd.of_RSl (RSl.of_own (l := R ++ M) (by rw [List.length_append]; exact ho8)))
          clear ho8 hg8 O7 N7 B67 B68 B6 E6 A6 B7
          go_wp2_with fail
          refine (new_any v8 (R ++ M) w8 (by rw [List.length_append]; omega) N8.out).mono ?_
          rintro x w9 ⟨g9, rfl, hg9, hr9, hb9⟩
          have B9 := hide (B8.out.trans (hb9.mono (by omega)))
          have E9 := hide (E8.out.below hb9)
          have A9 := hide (A8.out.below hb9 (by omega))
          have R9 := hide hr9
          have s9 := hb9.size
          clear hr9 hb9 N8 B8 E8 A8
          obtain ⟨x0, x1, x2, x3, x4⟩ := A9.out
          go_wp2_with fail
          refine (K2.out w9 E9.out).mono ?_
          rintro x wA ⟨rfl, hbA⟩
          have BA := hide (B9.out.trans (hbA.mono (by omega)))
          have EA := hide (E9.out.below hbA)
          have AA := hide (A9.out.below hbA (by omega))
          have RA := hide (R9.out.below hbA)
          have sA := hbA.size
          clear hbA x0 x1 x2 x3 x4 B9 E9 A9 R9
          obtain ⟨x0, x1, x2, x3, x4⟩ := AA.out
          cases rt with
          | false =>
            have hz := RF.out (by simp)
            go_wp2_with fail
            refine (K6.out wA EA.out).mono ?_
            rintro x wB ⟨vB, rfl, hoB, hbB⟩
            have BB := hide (BA.out.trans (hbB.mono (by omega)))
            rw [hz] at hoB
            obtain ⟨fB, cB, rfl, _, _, _⟩ := (RSl.of_own hoB).form
            clear hoB hbB
            go_wp2
            go_ret
            exact ⟨rfl, BB.out⟩
          | true =>
            obtain ⟨u1, u2, u3⟩ := RT.out (by simp)
            go_wp2_with fail
            refine (otake_any g9 0 (R ++ M) wA RA.out EA.out).mono ?_
            rintro x wB ⟨rfl, hrB, grB⟩
            rw [u1, u2]
            rw [u3] at hrB
            unfold opv
            have BB := hide (BA.out.grown grB (by omega) (fun k hk => by injection hk with hk; omega))
            have AB := hide (AA.out.grown grB (by omega))
            have RB : Hid (Rd wB g9 M 0) := hide hrB
            have sB := grB.size
            clear hrB grB u1 u2 u3 x0 x1 x2 x3 x4 BA AA RA EA
            go_upto_region 18 with (fail)
            have BC := hide (BB.out.alloc (by omega) (.cells #[.int .i64 n, .int .i64 r, .int .i64 d, .int .i64 t, .string (bs l)] 25))
            have AC := hide (AB.out.alloc (.cells #[.int .i64 n, .int .i64 r, .int .i64 d, .int .i64 t, .string (bs l)] 25))
            have PC := hide (Bo.new wB n r d t l 25)
            have RC := hide (RB.out.below ((Below.refl wB.heap.size wB).alloc (Nat.le_refl _) (.cells #[.int .i64 n, .int .i64 r, .int .i64 d, .int .i64 t, .string (bs l)] 25)))
            generalize wB.alloc (.cells #[.int .i64 n, .int .i64 r, .int .i64 d, .int .i64 t, .string (bs l)] 25) = wC at BC AC PC RC ⊢
            obtain ⟨x0, x1, x2, x3, x4⟩ := AC.out
            obtain ⟨y0, y1, y2, y3, y4⟩ := PC.out
            clear BB AB RB
            go_wp2_with fail
            refine (left_any g9 0 M wC RC.out).mono ?_
            rintro x wD ⟨rfl, rfl⟩
            go_wp2
            go_ret
            exact ⟨rfl, BC.out⟩
theorem opBack_walk (n r d t : Int) (l : ByteArray) (a1 : Option Addr) (len1 cap1 : Nat) (z1 : List Int) (a2 : Option Addr) (len2 cap2 : Nat) (z2 : List Int) (w : World)
    (_ : (Lit.int .i64 n).wf = true) (_ : (Lit.int .i64 r).wf = true) (_ : (Lit.int .i64 d).wf = true) (_ : (Lit.int .i64 t).wf = true) (hl : l.size ≤ maxLen) (h1 : IsRow .u8 w a1 len1 cap1 z1) (h2 : IsRow .u8 w a2 len2 cap2 z2) (hE : Env w) :
    Calls Tryd.prog 4 #[.agg #[.int .i64 n, .int .i64 r, .int .i64 d, .int .i64 t, .string l], .slice a1 len1 cap1, .slice a2 len2 cap2] w (TrueRet w) := by
  have b1 := ByteArg.of_row h1
  have b2 := ByteArg.of_row h2
  have c1 := ByteArg.nilcap h1
  obtain ⟨e1, f1, m1, n1, _⟩ := b1
  obtain ⟨e2, f2, m2, n2, _⟩ := b2
  generalize rowBytes z1 len1 = M at e1 n1
  generalize rowBytes z2 len2 = Bl at e2 n2
  subst e1 e2
  have h := opBack_in n r d t l.data.toList a1 cap1 M a2 cap2 Bl w (by simpa using hl) hE n1 c1 n2 f2 (Nat.le_trans f1 m1) (Nat.le_trans f2 m2)
  unfold opv at h
  rw [bs_of] at h
  exact h
end Go.Proofs.YtjgnneajpkhppaaDoor
