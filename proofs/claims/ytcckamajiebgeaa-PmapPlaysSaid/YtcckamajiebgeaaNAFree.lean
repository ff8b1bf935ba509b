/-
  The contract of the arena's Free. Conditions: the arena is one, in memory; no slot was used more than a million times.
-/
import Derived.Test.YtcckamajiebgeaaNAPut2
namespace Go.Proofs.Ytcckamajiebgeaa
open Go.RowKit
set_option linter.unusedVariables false
set_option linter.unusedSimpArgs false
set_option maxRecDepth 100000

theorem afree_no (g most U : Nat) (A : Ar) (fs : List Nat) (s t : Int) (hs : i64B s) (ht : i64B t) (hU : U ≤ 1000000) (w : World) (h : An w g most U A fs) (hg : A.get s t = none) : Calls Try.prog 35 #[.pointer (some ⟨g, 0, none⟩), .agg #[.int .i64 s, .int .i64 t]] w (BoolRet false w) := by
  have Bz := (Below.refl w.heap.size w).alloc (Nat.le_refl _) (.cells #[.int .i64 s, .int .i64 t] 28)
  have BR := (Below.refl w.heap.size w).alloc (Nat.le_refl _) (.cells #[.int .i64 s, .int .i64 t] 28)
  have K := hide (alies_any g most U A fs s t hs ht (by omega) _ (h.below BR))
  have B := hide Bz
  rw [hg] at K
  clear Bz BR h
  go_enter Try.func35, Try.ntmps35
  go_wp2_with fail
  refine K.out.mono ?_
  rintro e w2 ⟨rfl, hb⟩
  have B2 := hide (B.out.trans (hb.mono (by simp)))
  clear hb K
  go_wp2
  go_ret
  exact ⟨rfl, B2.out⟩
theorem An.free {w w' : World} {g most U : Nat} {A : Ar} {fs : List Nat} {b c j : Nat} {t : Int} {v : Nd} {vf : Value} (h : An w g most U A fs) (hg : A.get ((j : Int) + 1) t = some v) (hM : Am w' g most (.slice (some ⟨b, 0, none⟩) (A.free (j + 1)).sl.length c) vf (A.free (j + 1))) :
    An w' g most U (A.free (j + 1)) (g :: b :: vf.ownBlock.toList) := by
  obtain ⟨h1, k, hk, hgen, hit⟩ := get_some hg
  have e0 : ((j : Int) + 1).toNat = j + 1 := by omega
  rw [e0] at hk
  have ha := h.arw.free hg
  rw [e0] at ha
  have hg' : A.get ((j + 1 : Nat) : Int) ((k.gen : Nat) : Int) = some v := by
    rw [hgen]
    exact hg
  have hlv := live_free hg'
  have hc := h.cnt
  have hl := h.le
  have e1 : A.free (j + 1) = ⟨A.sl.set j ⟨k.gen, none⟩, (j + 1) :: A.fr⟩ := by
    unfold Ar.free
    simp at hk
    simp [hk]
  refine ⟨ha, ?_, by omega, h.mle, ?_, ?_, _, _, hM, by simp [Value.ownBlock]⟩
  · rw [e1] at hlv ⊢
    simp only [List.length_cons, List.length_set]
    omega
  · intro x hx
    rw [e1] at hx
    rcases List.mem_or_eq_of_mem_set hx with hx | rfl
    · exact h.use x hx
    · exact h.use k (List.mem_of_getElem? hk)
  · rw [e1]
    simp only [List.length_set]
    exact h.len
/-- What is left behind the last store. -/
def FrRel (w : World) (g most b c j : Nat) (A : Ar) (fs : List Nat) (wx : World) : Prop :=
  ∃ vf, Am wx g most (.slice (some ⟨b, 0, none⟩) (A.free (j + 1)).sl.length c) vf (A.free (j + 1)) ∧ Mod fs w wx ∧ ∀ k, vf.ownBlock = some k → k ∈ fs ∨ w.heap.size ≤ k
theorem afree_end {w w4 w5 : World} {g most b c gx cx d2 j : Nat} {n : Nat} {a2 : Option Addr} {fs : List Nat} {B : Ar} (h : Am w4 g most (.slice (some ⟨b, 0, none⟩) n c) (.slice a2 B.fr.length d2) B) (hm : Mod fs w w4) (hgf : g ∈ fs) (hff : ∀ k, (Value.slice a2 B.fr.length d2).ownBlock = some k → k ∈ fs)
    (ho : w5.ownsRow 0 3 1 (.slice (some ⟨gx, 0, none⟩) (B.fr.length + 1) cx) (B.fr.length + 1) (icl B.fr.reverse ++ [.int .i64 ((j : Int) + 1)]))
    (hg : (w4.drew.alloc (.cells #[.int .i64 ((j : Int) + 1)] 3)).grownBy w5 (Value.slice a2 B.fr.length d2).ownBlock)
    (hat : (Value.slice a2 B.fr.length d2).ownBlock = some gx ∨ gx = w4.heap.size + 1) :
    w5.cell? ⟨g, 2, none⟩ = some (.slice a2 B.fr.length d2) ∧ w5.frozen? ⟨g, 2, none⟩ = false ∧
    Am (w5.setCell ⟨g, 2, none⟩ (.slice (some ⟨gx, 0, none⟩) (B.fr.length + 1) cx)) g most (.slice (some ⟨b, 0, none⟩) n c) (.slice (some ⟨gx, 0, none⟩) (B.fr.length + 1) cx) ⟨B.sl, (j + 1) :: B.fr⟩ ∧
    Mod fs w (w5.setCell ⟨g, 2, none⟩ (.slice (some ⟨gx, 0, none⟩) (B.fr.length + 1) cx)) ∧ (gx ∈ fs ∨ w.heap.size ≤ gx) := by
  have D : Below w4.heap.size w4 (w4.drew.alloc (.cells #[.int .i64 ((j : Int) + 1)] 3)) := ((Below.refl _ w4).drew).alloc (Nat.le_refl _) _
  have h1 := h.below D
  have hb := (hg.block g h1.lt (fun e => h.neF e.symm)).trans h1.blk
  have hsl := h1.sl.kept hg (by
    refine .inr fun e => ?_
    exact h.neSF rfl e.symm)
  have M1 : Mod fs w w5 := (hm.trans (fs' := []) (Mod.of_below D) (by simp)).trans (fs' := fs) (Mod.of_grown hg (fun k hk => hff k hk)) (fun k hk => .inl hk)
  have e : icl ((j + 1) :: B.fr).reverse = icl B.fr.reverse ++ [.int .i64 ((j : Int) + 1)] := by rw [icl_last]; simp
  refine ⟨cell_of_row w5 g 2 _ _ (0, 0) hb, Joins.unfrozen_of_block hb 2, ?_, M1.setCell (.inl hgf) _, ?_⟩
  · refine ⟨?_, row_kept hsl fun k hk => Below.heap_setCell _ _ _ _ ?_, row_kept (by rw [e]; exact ho) fun k hk => Below.heap_setCell _ _ _ _ ?_⟩
    · have := Joins.block_setCell (i := 2) hb (.slice (some ⟨gx, 0, none⟩) (B.fr.length + 1) cx)
      simpa using this
    · rintro rfl
      exact h.neS hk
    · rintro rfl
      exact row_ne ho hb (by decide) hk
  · rcases hat with h2 | h2
    · exact .inl (hff _ h2)
    · right
      have := hm.size
      omega
theorem frRel_of {w wx : World} {g most b c j n m gx cx : Nat} {A : Ar} {y : Sl} {fs : List Nat} (EF : A.free (j + 1) = ⟨A.sl.set j ⟨y.gen, none⟩, (j + 1) :: A.fr⟩) (HN : (A.sl.set j ⟨y.gen, none⟩).length = n)
    (h1 : Am wx g most (.slice (some ⟨b, 0, none⟩) n c) (.slice (some ⟨gx, 0, none⟩) m cx) ⟨A.sl.set j ⟨y.gen, none⟩, (j + 1) :: A.fr⟩) (h2 : Mod fs w wx) (h3 : gx ∈ fs ∨ w.heap.size ≤ gx) : FrRel w g most b c j A fs wx := by
  refine ⟨.slice (some ⟨gx, 0, none⟩) m cx, ?_, h2, ?_⟩
  · rw [EF]
    simp only [HN]
    exact h1
  · intro k hk
    simp [Value.ownBlock] at hk
    subst hk
    exact h3
set_option maxHeartbeats 4000000 in
theorem afree_any (g most U : Nat) (A : Ar) (fs : List Nat) (j : Nat) (t : Int) (v : Nd) (ht : i64B t) (hU : U ≤ 1000000) (w : World) (h : An w g most U A fs) (hg : A.get ((j : Int) + 1) t = some v) : Calls Try.prog 35 #[.pointer (some ⟨g, 0, none⟩), .agg #[.int .i64 ((j : Int) + 1), .int .i64 t]] w (AnRet (.bool true) g most U (A.free (j + 1)) fs w) := by
  have Bz := (Below.refl w.heap.size w).alloc (Nat.le_refl _) (.cells #[.int .i64 ((j : Int) + 1), .int .i64 t] 28)
  have bx := heap_alloc_new w (.cells #[.int .i64 ((j : Int) + 1), .int .i64 t] 28)
  have hA1 := h.below Bz
  have lx : w.heap.size < (w.alloc (.cells #[.int .i64 ((j : Int) + 1), .int .i64 t] 28)).heap.size := by simp
  have NX := hide (show w.heap.size ∉ fs from fun hk => by have := h.lt _ hk; omega)
  have HG := hide hg
  obtain ⟨h1, y, hk, hgen, hit⟩ := get_some hg
  rw [show ((j : Int) + 1).toNat - 1 = j by omega] at hk
  have HY := hide hk
  have hj : j < A.sl.length := (List.getElem?_eq_some_iff.1 hk).1
  have hl := h.len
  have hc := h.cnt
  have hjb : i64B ((j : Int) + 1) := by unfold i64B; omega
  have K := hide (alies_any g most U A fs _ t hjb ht (by omega) _ hA1)
  have HA1 := hide hA1
  have HA := hide h
  have B := hide Bz
  have HX := hide bx
  have i0 : (0 : Int) ≤ (j : Int) := by omega
  have i2 : (j : Int) < (A.sl.length : Int) := by omega
  have wk : IntKind.i64.wrap ((j : Int) + 1 - 1) = (j : Int) := (wrap_in _ (by omega) (by omega)).trans (by omega)
  rw [hg] at K
  clear Bz bx h hA1 hg hjb h1 hgen hk
  go_enter Try.func35, Try.ntmps35
  go_upto_region 1 with (fail)
  generalize w.alloc (.cells #[.int .i64 ((j : Int) + 1), .int .i64 t] 28) = w1 at K HA1 B HX lx ⊢
  have x0 := cell_of_row _ _ 0 _ _ (0, 0) HX.out
  have x1 := cell_of_row _ _ 1 _ _ (0, 0) HX.out
  simp at x0 x1
  go_wp2_with fail
  refine K.out.mono ?_
  rintro e w2 ⟨rfl, hb⟩
  have B2 := hide (B.out.trans (hb.mono B.out.size))
  have A2 := HA1.out.below hb
  have HX2 := hide ((hb.block _ lx).trans HX.out)
  have y0 := cell_of_row _ _ 0 _ _ (0, 0) HX2.out
  simp at y0
  have lx2 : w.heap.size < w2.heap.size := by have := hb.size; omega
  obtain ⟨vs, vf, M, hfs⟩ := A2.mem
  obtain ⟨b, c, rfl, hbg⟩ := M.form (by omega)
  have HFS := hide hfs
  have c1 := M.cell1
  have HM := hide M
  have bne : b ≠ w.heap.size := by
    rintro rfl
    obtain ⟨cur, h2⟩ := row_block M.sl rfl
    rw [HX2.out] at h2
    simp at h2
  clear M A2 hb K HA1 HX x0 x1 B lx hfs
  have HN := hide (show (A.sl.set j ⟨y.gen, none⟩).length = A.sl.length by simp)
  have EF := hide (show A.free (j + 1) = ⟨A.sl.set j ⟨y.gen, none⟩, (j + 1) :: A.fr⟩ by
    unfold Ar.free
    simp [HY.out])
  have KS := hide (fun (W : World) (hW : Am W g most (.slice (some ⟨b, 0, none⟩) A.sl.length c) vf A) => hW.stored2 j hj ⟨y.gen, none⟩ ndz rfl (by
    obtain ⟨_, e⟩ := List.getElem?_eq_some_iff.1 HY.out
    rw [e]))
  have KC := hide (fun (W : World) (hW : Am W g most (.slice (some ⟨b, 0, none⟩) A.sl.length c) vf A) => show (∃ nd : Nd, W.cell? ⟨b, j * 9, none⟩ = some (.int .i64 nd.k) ∧ W.cell? ⟨b, j * 9 + 1, none⟩ = some (.int .i64 nd.v) ∧ W.cell? ⟨b, j * 9 + 2, none⟩ = some (.int .i64 nd.l.1) ∧ W.cell? ⟨b, j * 9 + 3, none⟩ = some (.int .i64 nd.l.2) ∧ W.cell? ⟨b, j * 9 + 4, none⟩ = some (.int .i64 nd.r.1) ∧ W.cell? ⟨b, j * 9 + 5, none⟩ = some (.int .i64 nd.r.2) ∧ W.cell? ⟨b, j * 9 + 6, none⟩ = some (.int .i64 nd.h)) ∧ W.cell? ⟨b, j * 9 + 7, none⟩ = some (.bool y.it.isSome) from by
    obtain ⟨_, e⟩ := List.getElem?_eq_some_iff.1 HY.out
    have h := hW.two j hj
    rw [e] at h
    exact ⟨⟨_, hW.all j hj rfl⟩, h.1⟩)
  have KF := hide (fun (W : World) (hW : Am W g most (.slice (some ⟨b, 0, none⟩) A.sl.length c) vf A) (i : Nat) => hW.sl.frozenAt (j * 9 + i))
  generalize hn : A.sl.length = n at *
  go_wp2_with fail
  go_quiet (fail)
  have D := below_q (Below.refl w2.heap.size w2) nq
  have HM3 := hide (HM.out.below D)
  have HX3 := hide ((D.block _ lx2).trans HX2.out)
  have B3 := hide (below_q B2.out nq)
  have lx3 : w.heap.size < (w2.drewN nq).heap.size := by have := D.size; omega
  generalize w2.drewN nq = w3 at HM3 HX3 B3 lx3 ⊢
  clear HM HX2 B2 c1 y0 D
  go_upto_region 5 with (fail)
  have D := (Below.refl w3.heap.size w3).alloc (Nat.le_refl _) (.cells #[.int .i64 0, .int .i64 0, .int .i64 0, .int .i64 0, .int .i64 0, .int .i64 0, .int .i64 0] 60)
  have HZ := heap_alloc_new w3 (.cells #[.int .i64 0, .int .i64 0, .int .i64 0, .int .i64 0, .int .i64 0, .int .i64 0, .int .i64 0] 60)
  have HM3 := hide (HM3.out.below D)
  have HX3 := hide ((D.block _ lx3).trans HX3.out)
  have B3 := hide (B3.out.trans (D.mono B3.out.size))
  clear D
  generalize w3.heap.size = gz at *
  generalize w3.alloc (.cells #[.int .i64 0, .int .i64 0, .int .i64 0, .int .i64 0, .int .i64 0, .int .i64 0, .int .i64 0] 60) = w3 at *
  obtain ⟨v0, v1, v2, v3, v4, v5, v6, -⟩ := nd_cells HZ
  obtain ⟨⟨nd, z0, z1, z2, z3, z4, z5, z6⟩, z7⟩ := KC.out w3 HM3.out
  have f0 := KF.out w3 HM3.out 0
  have f1 := KF.out w3 HM3.out 1
  have f2 := KF.out w3 HM3.out 2
  have f3 := KF.out w3 HM3.out 3
  have f4 := KF.out w3 HM3.out 4
  have f5 := KF.out w3 HM3.out 5
  have f6 := KF.out w3 HM3.out 6
  have f7 := KF.out w3 HM3.out 7
  simp only [Nat.add_zero] at f0
  have HM4 := hide (KS.out w3 HM3.out)
  simp only [Option.isSome_none] at HM4
  have bz : gz ≠ b := by
    rintro rfl
    obtain ⟨cur, h2⟩ := row_block HM3.out.sl rfl
    rw [HZ] at h2
    simp at h2
  clear KC KF KS HZ
  go_upto_region 6 with (fail)
  change Code.wp _ _ _ _ ((stNd w3 b (j * 9) ndz).setCell ⟨b, j * 9 + 7, none⟩ (.bool false))
  have BT := (But.stNd w3 b (j * 9) ndz).set (j * 9 + 7) (.bool false)
  have X4 := (BT.block _ (fun h => bne h.symm)).trans HX3.out
  have hbf : b ∈ fs := by rw [HFS.out]; simp [Value.ownBlock]
  have M4 := hide (BT.mod (Mod.of_below (fs := fs) B3.out) (.inl hbf))
  clear BT
  generalize (stNd w3 b (j * 9) ndz).setCell ⟨b, j * 9 + 7, none⟩ (.bool false) = w4 at HM4 X4 M4 ⊢
  have y0 := cell_of_row _ _ 0 _ _ (0, 0) X4
  simp at y0
  obtain ⟨a2, d2, rfl⟩ := row_form (show w4.ownsRow 0 3 1 vf A.fr.length (icl A.fr.reverse) from HM4.out.fr)
  clear HM3 HX3 z0 z1 z2 z3 z4 z5 z6 z7 f0 f1 f2 f3 f4 f5 f6 f7 v0 v1 v2 v3 v4 v5 v6 lx2 B3 lx3
  have c2 := HM4.out.cell2
  have c2a := (HM4.out.alloc (.cells #[.int .i64 ((j : Int) + 1)] 3)).cell2
  have KE := hide (fun (w5 : World) (gx cx : Nat) ho hg hat => afree_end (w := w) (w4 := w4) (w5 := w5) (fs := fs) (gx := gx) (cx := cx) (j := j) (B := ⟨A.sl.set j ⟨y.gen, none⟩, A.fr⟩) HM4.out M4.out (by rw [HFS.out]; simp) (by rw [HFS.out]; intro k hk; simp [hk]) ho hg hat)
  obtain ⟨i9, hi0, hz0, hz1, hz2⟩ := info_parts intinfo
  have HP := hide (show w4.drew.ownsRow 0 3 1 (.slice a2 A.fr.length d2) A.fr.length (icl A.fr.reverse) from HM4.out.fr)
  have HNW := hide (World.news_of_block (heap_alloc_new w4.drew (.cells #[.int .i64 ((j : Int) + 1)] 3)))
  have hm : A.fr.length ≤ 1000000 := by omega
  generalize hfr : A.fr.length = m at *
  go_cut [4] (fun s4 wx => s4 = .bool false ∧ FrRel w g most b c j A fs wx)
  case first =>
    go_region_law (refine step_append_lies _ (by rfl) _ _ _ (by rfl) 0 3 i9 _ 1 8 Try.underlying83 hi0 hz0 hz1 hz2 rfl (by omega) (.slice a2 m d2) m (icl A.fr.reverse) (by rfl) (HP.out.alloc _) ⟨w4.heap.size, 0, none⟩ 1 1 [.int .i64 ((j : Int) + 1)] (by rfl) rfl HNW.out (by simp [Value.oneCell']) (by omega) (by simp only [maxLen]; omega) (by omega) (Nat.zero_le _) (w4.heap.size + 1) (by simp) ?_
                   intro gx cx w5 hown5 hgrow5 hat5 hlt5
                   obtain ⟨k2, fk, e1, e2, e3⟩ := KE.out w5 gx cx hown5 hgrow5 hat5
                   have E1 := hide e1
                   have E2 := hide e2
                   have E3 := hide e3
                   clear hown5 hgrow5 hat5 hlt5 e1 e2 e3)
    all_goals
      go_wp2_with fail
      go_meet
      exact ⟨rfl, frRel_of EF.out HN.out E1.out E2.out E3.out⟩
  case rest =>
    obtain ⟨rfl, vf', hM, hmod, hob⟩ := hcut
    have HM5 := hide hM
    have HMod := hide hmod
    clear hM hmod c2 c2a y0 X4 HM4 M4 KE HP HNW hi0
    go_wp2
    go_ret
    refine ⟨rfl, _, HA.out.free HG.out HM5.out, HMod.out, ?_⟩
    intro k hk
    simp only [List.mem_cons, Option.mem_toList] at hk
    rcases hk with rfl | rfl | hk
    · exact .inl (by rw [HFS.out]; simp)
    · exact .inl hbf
    · exact hob k hk
end Go.Proofs.Ytcckamajiebgeaa
