/-
  Contracts of package pmap: New, Load, Free, Get. Conditions: the map is one, in memory; versions stand.
  Contracts of package pmap: Load, Get. Conditions: the map is one, in memory; the version stands.
  Contracts of package pmap: Get. Conditions: the map is one, in memory; the version stands.
  Contracts of package pmap: Put. Conditions: the map is one, in memory; the version stands; there is room, or none at all.
  Contracts of package pmap: Put where there is no room, Del; that the map keeps all that the laws ask of it. Conditions: those of each call.
-/
import Derived.Test.YtcckamajiebgeaaRSM
import Derived.Deep.LoopGhost
import Derived.Test.YtcckamajiebgeaaRPM
import Derived.Test.YtcckamajiebgeaaPFrPure
namespace Go.Proofs.Ytcckamajiebgeaa
open Go.RowKit
set_option linter.unusedVariables false
set_option linter.unusedSimpArgs false
set_option maxRecDepth 100000
open Dt

theorem PM.bel {W w : World} {gm most U : Nat} {A : Ar} (h : PM W w gm most U A) : Below W.heap.size W w := by
  obtain ⟨ga, h1, h2, h3⟩ := h
  exact h2.bel
theorem PM.mod {W w w' : World} {gm most U : Nat} {A : Ar} {fs : List Nat} (h : PM W w gm most U A) (hm : Mod fs w w') (hf : ∀ k ∈ fs, W.heap.size ≤ k ∧ Oth w k) : PM W w' gm most U A := by
  obtain ⟨ga, h1, ⟨a1, fs', a2, a3⟩, h3⟩ := h
  refine ⟨ga, (hm.block _ (Array.getElem?_eq_some_iff.1 h1).1 (fun hk => ?_)).trans h1, ⟨a1.trans (hm.below a1.size (fun k hk => (hf k hk).1)), fs', a2.mod hm (fun k hk hk2 => ?_), a3⟩, h3⟩
  · obtain ⟨_, cs, t, z, e, t1, t2, t3, t4⟩ := hf gm hk
    rw [h1] at e
    simp at e
    exact t4 e.2.1.symm
  · obtain ⟨_, cs, t, z, e, t1, t2, t3, t4⟩ := hf k hk2
    exact a2.apart e t1 t2 t3 hk
set_option maxHeartbeats 1000000 in
theorem new_any (W w : World) (n : Nat) (hn : n ≤ 1048576) (hb : Below W.heap.size W w) : Calls Try.prog 10 #[.int .i64 (n : Int), cmpV] w (fun e w' => ∃ gm, e = .returned (.pointer (some ⟨gm, 0, none⟩)) ∧ PM W w' gm n 0 ⟨[], []⟩ ∧ Below w.heap.size w w') := by
  have K := hide (znew_any (w0 := W) (n : Int) (by omega) (by omega) hb)
  have HW := hide hb.size
  unfold cmpV
  clear hb
  go_enter Try.func10, Try.ntmps10
  go_wp2_with fail
  refine K.out.mono ?_
  rintro e w2 ⟨rfl, haz, hb⟩
  have HA := hide haz
  have HB := hide hb
  have D := hide ((Below.refl w2.heap.size w2).alloc (Nat.le_refl _) (.cells #[.pointer (some ⟨w.heap.size, 0, none⟩), .func (.func 11) #[] #[]] 70))
  have HM := hide (heap_alloc_new w2 (.cells #[.pointer (some ⟨w.heap.size, 0, none⟩), .func (.func 11) #[] #[]] 70))
  clear haz hb K
  have hq : ∀ V : World, (binOp .eql 26 (.func (.func 11) #[] #[]) .nilFunc).run Try.prog V = .ok (.bool false) V := fun V => rfl
  go_wp2
  go_ret
  exact ⟨w2.heap.size, rfl, ⟨w.heap.size, HM.out, by have := HA.out.below D.out; simpa using this, Nat.le_trans HW.out HB.out.size⟩, HB.out.trans (D.out.mono HB.out.size)⟩
set_option maxHeartbeats 1000000 in
theorem new_no (w : World) (n : Int) (hn : n < 0 ∨ 1048576 < n) (hi : i64B n) (u : Value) (hu : u = cmpV ∨ u = .nilFunc) : Calls Try.prog 10 #[.int .i64 n, u] w (fun e w' => e = .returned (.pointer none) ∧ Below w.heap.size w w') := by
  have K := hide (anew_any n hi w)
  unfold NewRet at K
  rw [show (fun (e : Ending) (w' : World) => Below w.heap.size w w' ∧ if 0 ≤ n ∧ n ≤ 1048576 then e = .returned (.pointer (some ⟨w.heap.size, 0, none⟩)) ∧ An w' w.heap.size n.toNat 0 ⟨[], []⟩ [w.heap.size] else e = .returned (.pointer none)) = fun e w' => Below w.heap.size w w' ∧ e = .returned (.pointer none) by
    funext e w'
    rw [if_neg (by omega)]] at K
  clear hn hi
  unfold cmpV at hu
  rcases hu with rfl | rfl
  all_goals
    go_enter Try.func10, Try.ntmps10
    go_wp2_with fail
    refine K.out.mono ?_
    rintro e w2 ⟨hb, rfl⟩
    have HB := hide hb
    clear hb K
    go_wp2
    go_ret
    exact ⟨rfl, HB.out⟩
set_option maxHeartbeats 1000000 in
theorem new_nil (w : World) (n : Int) (hi : i64B n) : Calls Try.prog 10 #[.int .i64 n, .nilFunc] w (fun e w' => e = .returned (.pointer none) ∧ Below w.heap.size w w') := by
  by_cases h0 : 0 ≤ n ∧ n ≤ 1048576
  · have K := hide (znew_any (w0 := w) n h0.1 h0.2 (Below.refl _ _))
    clear h0 hi
    go_enter Try.func10, Try.ntmps10
    go_wp2_with fail
    refine K.out.mono ?_
    rintro e w2 ⟨rfl, -, hb⟩
    have HB := hide hb
    clear hb K
    have hq : ∀ V : World, (binOp .eql 26 .nilFunc .nilFunc).run Try.prog V = .ok (.bool true) V := fun V => rfl
    go_wp2
    go_ret
    exact ⟨rfl, HB.out⟩
  · exact new_no w n (by omega) hi _ (.inr rfl)
set_option maxHeartbeats 2000000 in
theorem free_any {W w : World} {gm most U : Nat} {A : Ar} (s t : Int) (x : Nd) (h : PM W w gm most U A) (hU : U ≤ 900000) (hg : A.get s t = some x) (hs : i64B s) (ht : i64B t) :
    Calls Try.prog 23 #[.pointer (some ⟨gm, 0, none⟩), .agg #[.int .i64 s, .int .i64 t]] w (fun e w' => e = .returned (.bool true) ∧ PM W w' gm most U (A.free s.toNat) ∧ Kp w w') := by
  obtain ⟨ga, h1, h2, h3⟩ := h
  have D := (Below.refl w.heap.size w).alloc (Nat.le_refl _) (.cells #[.int .i64 s, .int .i64 t] 28)
  have HH := hide (Hb.new w s t)
  have KZ := hide (fun (V : World) (hV : Below w.heap.size w V) => zfree_any s t x ht (by omega) (h2.below hV) hg)
  have KF := hide (fun (V V' : World) (hV : Below w.heap.size w V) (haz : Az W V' ga most U (A.free s.toNat)) (hk : Kp V V') => show PM W V' gm most U (A.free s.toNat) ∧ Kp w V' from
    ⟨⟨ga, hk.2 _ _ _ _ ((hV.block _ (Array.getElem?_eq_some_iff.1 h1).1).trans h1) (by decide) (by decide) (by decide), haz, h3⟩, (Kp.of_below hV).trans hk⟩)
  have z0 : w.cell? ⟨gm, 0, none⟩ = some (.pointer (some ⟨ga, 0, none⟩)) := cell_of_row w gm 0 _ _ (0, 0) h1
  have z1 := cell_b D z0
  have HM1 := hide ((D.block _ (Array.getElem?_eq_some_iff.1 h1).1).trans h1)
  have B := hide D
  clear h1 h2 h3 D z0
  go_enter Try.func23, Try.ntmps23
  go_upto_region 1 with (fail)
  generalize w.heap.size = kh at HH ⊢
  generalize World.alloc w _ = w1 at *
  obtain ⟨x0, x1⟩ := HH.out.two
  have KS := hide (fun (V : World) (hK : Kp w1 V) => show V.cell? ⟨gm, 0, none⟩ = some (.pointer (some ⟨ga, 0, none⟩)) ∧ V.cell? ⟨kh, 0, none⟩ = some (.int .i64 s) ∧ V.cell? ⟨kh, 1, none⟩ = some (.int .i64 t) from ⟨cell_of_row V gm 0 _ _ (0, 0) (hK.2 _ _ _ _ HM1.out (by decide) (by decide) (by decide)), (HH.out.kp hK).two.1, (HH.out.kp hK).two.2⟩)
  have BD := hide (B.out.drew)
  go_region_held3 (fun w' => w'.cell? ⟨gm, 0, none⟩ = some (.pointer (some ⟨ga, 0, none⟩)) ∧ w'.cell? ⟨kh, 0, none⟩ = some (.int .i64 s) ∧ w'.cell? ⟨kh, 1, none⟩ = some (.int .i64 t))
    (first | with_reducible exact hS1 | with_reducible exact ⟨z1, x0, x1⟩ | go_keep)
    (first
      | (with_reducible refine (KZ.out _ BD.out).mono ?_
         rintro e w2 ⟨rfl, haz, hk⟩
         have HF := hide (KF.out _ _ BD.out haz hk)
         have hS1 := KS.out w2 hk
         clear haz hk))
  go_wp2
  go_ret
  exact ⟨rfl, HF.out⟩
end Go.Proofs.Ytcckamajiebgeaa
namespace Go.Proofs.Ytcckamajiebgeaa
open Go.RowKit
set_option linter.unusedVariables false
set_option linter.unusedSimpArgs false
set_option maxRecDepth 100000
open Dt

theorem hand_node (w : World) (s t : Int) : Below w.heap.size w ((w.alloc (.cells #[.int .i64 s, .int .i64 t] 28)).alloc (.cells #[.int .i64 0, .int .i64 0, .int .i64 0, .int .i64 0, .int .i64 0, .int .i64 0, .int .i64 0] 60)) ∧
    Hb ((w.alloc (.cells #[.int .i64 s, .int .i64 t] 28)).alloc (.cells #[.int .i64 0, .int .i64 0, .int .i64 0, .int .i64 0, .int .i64 0, .int .i64 0, .int .i64 0] 60)) w.heap.size s t ∧
    ((w.alloc (.cells #[.int .i64 s, .int .i64 t] 28)).alloc (.cells #[.int .i64 0, .int .i64 0, .int .i64 0, .int .i64 0, .int .i64 0, .int .i64 0, .int .i64 0] 60)).heap[w.heap.size + 1]? = some (.cells #[.int .i64 0, .int .i64 0, .int .i64 0, .int .i64 0, .int .i64 0, .int .i64 0, .int .i64 0] 60 (0, 0)) := by
  have D1 := (Below.refl w.heap.size w).alloc (Nat.le_refl _) (.cells #[.int .i64 s, .int .i64 t] 28)
  have X1 := Hb.new w s t
  generalize h1 : w.alloc (.cells #[.int .i64 s, .int .i64 t] 28) = w1 at *
  have hs : w1.heap.size = w.heap.size + 1 := by rw [← h1]; simp
  have D2 := (Below.refl w1.heap.size w1).alloc (Nat.le_refl _) (.cells #[.int .i64 0, .int .i64 0, .int .i64 0, .int .i64 0, .int .i64 0, .int .i64 0, .int .i64 0] 60)
  have X2 := heap_alloc_new w1 (.cells #[.int .i64 0, .int .i64 0, .int .i64 0, .int .i64 0, .int .i64 0, .int .i64 0, .int .i64 0] 60)
  rw [hs] at X2
  exact ⟨D1.trans (D2.mono D1.size), X1.below D2, X2⟩
set_option maxHeartbeats 2000000 in
theorem load_any {W w : World} {gm most U : Nat} {A : Ar} (s t : Int) (h : PM W w gm most U A) (hU : U ≤ 900000) (hs : i64B s) (ht : i64B t) :
    Calls Try.prog 27 #[.pointer (some ⟨gm, 0, none⟩), .agg #[.int .i64 s, .int .i64 t]] w (GetRet (A.get s t) w) := by
  obtain ⟨ga, h1, h2, h3⟩ := h
  obtain ⟨D, X1, X2⟩ := hand_node w s t
  have KZ := hide (fun (V : World) (hV : Below w.heap.size w V) => zget_any s t hs ht (by omega) (h2.below hV))
  have HM1 := hide ((D.block _ (Array.getElem?_eq_some_iff.1 h1).1).trans h1)
  have HX1 := hide X1
  have HX2 := hide X2
  have B := hide D
  unfold GetRet
  generalize (A.get s t).isSome = bo at *
  obtain ⟨nd, hnd⟩ : ∃ nd, (A.get s t).getD ndz = nd := ⟨_, rfl⟩
  rw [hnd] at KZ ⊢
  clear h1 h2 h3 D X1 X2 hs ht hnd
  obtain ⟨n0, n1, ⟨n2, n3⟩, ⟨n4, n5⟩, n6⟩ := nd
  unfold ndv at *
  simp only at KZ
  go_enter Try.func27, Try.ntmps27
  go_upto_region 1 with (fail)
  obtain ⟨kn, hkn⟩ : ∃ q, w.heap.size + 1 = q := ⟨_, rfl⟩
  obtain ⟨kh, hkh⟩ : ∃ q, w.heap.size = q := ⟨_, rfl⟩
  have HKX := hide (show w.heap.size ≤ kn by omega)
  rw [hkn] at HX2 ⊢
  rw [hkh] at HX1 ⊢
  clear hkn hkh
  generalize World.alloc (World.alloc w _) _ = w1 at *
  obtain ⟨x0, x1⟩ := HX1.out.two
  have BD := hide B.out.drew
  have KS := hide (fun (V : World) (e1 : V.heap[gm]? = w1.heap[gm]?) (e2 : V.heap[kh]? = w1.heap[kh]?) => show V.cell? ⟨gm, 0, none⟩ = some (.pointer (some ⟨ga, 0, none⟩)) ∧ V.cell? ⟨kh, 0, none⟩ = some (.int .i64 s) ∧ V.cell? ⟨kh, 1, none⟩ = some (.int .i64 t) from ⟨cell_of_row V gm 0 _ _ (0, 0) (e1.trans HM1.out), Hb.two (show Hb V kh s t from e2.trans HX1.out)⟩)
  have z := KS.out w1 rfl rfl
  have HLT := hide (And.intro (Array.getElem?_eq_some_iff.1 HM1.out).1 (And.intro (Array.getElem?_eq_some_iff.1 HX1.out).1 (Array.getElem?_eq_some_iff.1 HX2.out).1))
  have hng : gm ≠ kn := by
    rintro rfl
    have e1 := HM1.out
    have e2 := HX2.out
    rw [e1] at e2
    simp at e2
  have hne : kh ≠ kn := by
    rintro rfl
    have e1 := HX1.out
    have e2 := HX2.out
    unfold Hb at e1
    rw [e1] at e2
    simp at e2
  go_region_held3 (fun w' => w'.cell? ⟨gm, 0, none⟩ = some (.pointer (some ⟨ga, 0, none⟩)) ∧ w'.cell? ⟨kh, 0, none⟩ = some (.int .i64 s) ∧ w'.cell? ⟨kh, 1, none⟩ = some (.int .i64 t))
    (first | with_reducible exact hS2 | with_reducible exact hS1 | with_reducible exact z | go_keep)
    (first
      | (with_reducible refine (KZ.out _ BD.out).mono ?_
         rintro e w2 ⟨rfl, -, hb⟩
         have hb' : Below w1.heap.size w1 w2 := ⟨hb.os, hb.tape, hb.output, hb.size, hb.block⟩
         have hS1 := KS.out w2 (hb'.block gm HLT.out.1) (hb'.block kh HLT.out.2.1)
         have hZ := (hb'.block kn HLT.out.2.2).trans HX2.out
         obtain ⟨c0, c1, c2, c3, c4, c5, c6, g0, g1, g2, g3, g4, g5, g6⟩ := nd_cells hZ
         have HST := nd_stored hZ ⟨n0, n1, (n2, n3), (n4, n5), n6⟩
         have hS2 := KS.out _ ((HST.2.block gm hng).trans (hb'.block gm HLT.out.1)) ((HST.2.block kh hne).trans (hb'.block kh HLT.out.2.1))
         simp only at hS2
         have HX := hide HST.1
         have HL := hide (HST.2.below (BD.out.trans (hb.mono BD.out.size)) HKX.out)
         clear hb hb' HST hZ))
  clear hS1 hS2 c0 c1 c2 c3 c4 c5 c6 g0 g1 g2 g3 g4 g5 g6
  generalize (World.setCell _ _ _) = w3 at HX HL ⊢
  obtain ⟨y0, y1, y2, y3, y4, y5, y6, -⟩ := nd_cells HX.out
  go_wp2_with fail
  refine bodyPost_ret (v := .tuple #[.agg #[.int .i64 n0, .int .i64 n1, .int .i64 n2, .int .i64 n3, .int .i64 n4, .int .i64 n5, .int .i64 n6], .bool bo]) ?_ rfl ⟨rfl, HL.out⟩
  rw [results_cell_tmp rfl]
  go_simp
end Go.Proofs.Ytcckamajiebgeaa
namespace Go.Proofs.Ytcckamajiebgeaa
open Go.RowKit
set_option linter.unusedVariables false
set_option linter.unusedSimpArgs false
set_option maxRecDepth 100000
open Dt

theorem load_ok {W w : World} {gm most U : Nat} {A : Ar} (h : PM W w gm most U A) (hU : U ≤ 900000) : LoadOk gm A.get w := fun V s t hV hs ht => load_any s t (h.below hV) hU hs ht
structure GtRel (W w wr : World) (gm most U : Nat) (A : Ar) (T : Tr) (key : Int) (kb k : Nat) (S : Tr) : Prop where
  pm : PM W wr gm most U A
  hb : Hb wr kb S.root.1 S.root.2
  bel : Below w.heap.size w wr
  lies : S.Lies A.get
  ord : S.Ord
  fi : fiP key S.prs = fiP key T.prs
  le : S.high ≤ k
set_option maxHeartbeats 4000000 in
theorem get_any {W w : World} {gm most U : Nat} {A : Ar} (T : Tr) (key : Int) (h : PM W w gm most U A) (hU : U ≤ 900000) (hst : Stands A T) :
    Calls Try.prog 21 #[.pointer (some ⟨gm, 0, none⟩), .agg #[.int .i64 T.root.1, .int .i64 T.root.2], .int .i64 key] w (fun e w' => e = .returned (.tuple #[.int .i64 ((fiP key T.prs).getD 0), .bool (fiP key T.prs).isSome]) ∧ Below w.heap.size w w') := by
  have D := (Below.refl w.heap.size w).alloc (Nat.le_refl _) (.cells #[.int .i64 T.root.1, .int .i64 T.root.2] 28)
  have G0 := hide (show GtRel W w (w.alloc (.cells #[.int .i64 T.root.1, .int .i64 T.root.2] 28)) gm most U A T key w.heap.size T.high T from ⟨h.below D, Hb.new w _ _, D, hst.lies, hst.ord, rfl, Nat.le_refl _⟩)
  have HUU := hide hU
  have HGE := hide (show W.heap.size ≤ w.heap.size from h.bel.size)
  clear h hst D hU
  go_enter Try.func21, Try.ntmps21
  go_wp2_with fail
  obtain ⟨kb, hkb⟩ : ∃ q, w.heap.size = q := ⟨_, rfl⟩
  have HKB := hide (Nat.le_of_eq hkb)
  rw [hkb] at G0 ⊢
  clear hkb
  generalize World.alloc w _ = w1 at *
  go_loopg [] T.high (fun k wr => ∃ S, GtRel W w wr gm most U A T key kb k S)
  case atStart => exact ⟨T, G0.out⟩
  case round =>
    obtain ⟨S, hR⟩ := hrel
    have HR := hide hR
    have hle := hR.le
    cases S with
    | nil =>
      have KL := hide (load_any 0 0 hR.pm HUU.out (by simp [i64B]) (by simp [i64B]))
      rw [Ar.get_low (A := A) (s := 0) (g := 0) (by omega)] at KL
      unfold GetRet ndv ndz at KL
      simp only [Option.getD_none, Option.isSome_none] at KL
      have x0 : wr.cell? ⟨kb, 0, none⟩ = some (.int .i64 0) := hR.hb.two.1
      have x1 : wr.cell? ⟨kb, 1, none⟩ = some (.int .i64 0) := hR.hb.two.2
      have HFI := hide (show fiP key T.prs = none from by rw [← hR.fi]; rfl)
      have HBL := hide hR.bel
      clear hR HR hle
      go_wp2_with fail
      refine KL.out.mono ?_
      rintro e w2 ⟨rfl, hb⟩
      have HB := hide (HBL.out.trans (hb.mono HBL.out.size))
      have D := hide ((Below.refl w2.heap.size w2).alloc (Nat.le_refl _) (.cells #[.int .i64 0, .int .i64 0, .int .i64 0, .int .i64 0, .int .i64 0, .int .i64 0, .int .i64 0] 60))
      clear hb x0 x1 KL
      go_wp2
      (try go_ret2)
      exact ⟨by rw [HFI.out]; rfl, HB.out.trans (D.out.mono HB.out.size)⟩
    | node g k1 v1 L R =>
      obtain ⟨gs, gt⟩ := g
      have KL := hide (load_any gs gt hR.pm HUU.out hR.lies.2.2.1 hR.lies.2.2.2.1)
      rw [hR.lies.1] at KL
      unfold GetRet ndv Tr.nd at KL
      simp only [Option.getD_some, Option.isSome_some] at KL
      have x0 : wr.cell? ⟨kb, 0, none⟩ = some (.int .i64 gs) := hR.hb.two.1
      have x1 : wr.cell? ⟨kb, 1, none⟩ = some (.int .i64 gt) := hR.hb.two.2
      have HS := hide (srt_split hR.ord)
      have HLE := hide hle
      clear hR hle
      obtain ⟨hh, hhe⟩ : ∃ hh, ((1 + max L.high R.high : Nat) : Int) = hh := ⟨_, rfl⟩
      rw [hhe] at KL
      clear hhe
      obtain ⟨⟨l1, l2⟩, hlr⟩ : ∃ x, L.root = x := ⟨_, rfl⟩
      obtain ⟨⟨r1, r2⟩, hrr⟩ : ∃ x, R.root = x := ⟨_, rfl⟩
      have HRT := hide (And.intro hlr hrr)
      rw [hlr, hrr] at KL
      simp only at KL
      clear hlr hrr
      go_wp2_with fail
      refine KL.out.mono ?_
      rintro e w2 ⟨rfl, hb⟩
      have HB := hide hb
      have D := hide ((Below.refl w2.heap.size w2).alloc (Nat.le_refl _) (.cells #[.int .i64 k1, .int .i64 v1, .int .i64 l1, .int .i64 l2, .int .i64 r1, .int .i64 r2, .int .i64 hh] 60))
      have HN := hide (heap_alloc_new w2 (.cells #[.int .i64 k1, .int .i64 v1, .int .i64 l1, .int .i64 l2, .int .i64 r1, .int .i64 r2, .int .i64 hh] 60))
      have B3 := hide (HB.out.trans (D.out.mono HB.out.size))
      clear hb x0 x1 KL HB D
      go_upto_region 4 with (fail)
      generalize w2.heap.size = kn at *
      generalize World.alloc w2 _ = w3 at *
      obtain ⟨ga, hm, -, -⟩ := (HR.out.pm.below B3.out)
      have KS := hide (fun (V : World) (e1 : V.heap[gm]? = w3.heap[gm]?) (e2 : V.heap[kn]? = w3.heap[kn]?) => show V.cell? ⟨gm, 1, none⟩ = some (.func (.func 11) #[] #[]) ∧ V.cell? ⟨kn, 0, none⟩ = some (.int .i64 k1) from ⟨cell_of_row V gm 1 _ _ (0, 0) (e1.trans hm), (nd_cells (e2.trans HN.out)).1⟩)
      have z := KS.out w3 rfl rfl
      have zd := KS.out w3.drew rfl rfl
      have KCM := hide (fun (V : World) => compare_any key k1 V)
      have hcs : (key < k1 ∧ cmZ key k1 = -1) ∨ (k1 = key ∧ cmZ key k1 = 0) ∨ (k1 < key ∧ cmZ key k1 = 1) := by
        unfold cmZ
        by_cases h1 : key < k1
        · exact .inl ⟨h1, by rw [if_pos h1]⟩
        · by_cases h2 : k1 < key
          · exact .inr (.inr ⟨h2, by rw [if_neg h1, if_pos h2]⟩)
          · exact .inr (.inl ⟨by omega, by rw [if_neg h1, if_neg h2]⟩)
      generalize cmZ key k1 = c at *
      clear hm
      go_region_held3 (fun w' => w'.cell? ⟨gm, 1, none⟩ = some (.func (.func 11) #[] #[]) ∧ w'.cell? ⟨kn, 0, none⟩ = some (.int .i64 k1))
        (first | with_reducible exact z | with_reducible exact zd | go_keep)
        (first
          | (with_reducible refine (KCM.out _).mono ?_
             rintro e w4 ⟨rfl, rfl⟩))
      have B4 := hide B3.out.drew
      have HN4 := hide (show w3.drew.heap[kn]? = _ from HN.out)
      clear KCM z zd KS HN B3
      generalize w3.drew = w4 at *
      obtain ⟨y0, y1, y2, y3, y4, y5, y6, -⟩ := nd_cells HN4.out
      have HK4 := hide (HR.out.hb.below B4.out)
      obtain ⟨b0, b1⟩ := HK4.out.two
      have g0 : w4.frozen? ⟨kb, 0, none⟩ = false := Joins.unfrozen_of_block HK4.out 0
      have g1 : w4.frozen? ⟨kb, 1, none⟩ = false := Joins.unfrozen_of_block HK4.out 1
      have hne : kb ≠ kn := by
        rintro rfl
        have e1 := HK4.out
        unfold Hb at e1
        rw [HN4.out] at e1
        simp at e1
      have KW := hide (fun (s t : Int) => show PM W ((w4.setCell ⟨kb, 0, none⟩ (.int .i64 s)).setCell ⟨kb, 1, none⟩ (.int .i64 t)) gm most U A ∧ Hb ((w4.setCell ⟨kb, 0, none⟩ (.int .i64 s)).setCell ⟨kb, 1, none⟩ (.int .i64 t)) kb s t ∧ Below w.heap.size w ((w4.setCell ⟨kb, 0, none⟩ (.int .i64 s)).setCell ⟨kb, 1, none⟩ (.int .i64 t)) from
        ⟨(HR.out.pm.below B4.out).mod (mod2 w4 kb 0 1 _ _) (fun j hj => by
          rw [List.mem_singleton.1 hj]
          exact ⟨Nat.le_trans HGE.out HKB.out, _, _, _, HK4.out, by decide, by decide, by decide, by decide⟩), hb_set HK4.out, (HR.out.bel.trans (B4.out.mono HR.out.bel.size)).trans ((mod2 w4 kb 0 1 _ _).below (B := w.heap.size) (HR.out.bel.trans (B4.out.mono HR.out.bel.size)).size (by simpa using HKB.out))⟩)
      rcases hcs with ⟨hc, rfl⟩ | ⟨hc, rfl⟩ | ⟨hc, rfl⟩
      case inr.inl =>
        have HFI := hide (show fiP key T.prs = some v1 from by rw [← HR.out.fi]; simp only [Tr.prs]; exact fiP_eq (x := (k1, v1)) hc HS.out.2.2.1)
        have HBF := hide (HR.out.bel.trans (B4.out.mono HR.out.bel.size))
        clear KW
        go_wp2
        (try go_ret2)
        exact ⟨by rw [HFI.out]; rfl, HBF.out⟩
      case inl =>
        have KX := hide (KW.out l1 l2)
        have HFI := hide (show fiP key L.prs = fiP key T.prs from by rw [← HR.out.fi]; simp only [Tr.prs]; exact (fiP_lo (x := (k1, v1)) hc HS.out.2.2.2).symm)
        clear KW
        go_wp2_with fail
        go_roundg L.high
        case measure => have := HLE.out; simp only [Tr.high] at this; omega
        case rel => exact ⟨L, KX.out.1, by rw [HRT.out.1]; exact KX.out.2.1, KX.out.2.2, HR.out.lies.2.2.2.2.1, HR.out.ord.left, HFI.out, Nat.le_refl _⟩
      case inr.inr =>
        have KX := hide (KW.out r1 r2)
        have HFI := hide (show fiP key R.prs = fiP key T.prs from by rw [← HR.out.fi]; simp only [Tr.prs]; exact (fiP_hi (x := (k1, v1)) hc HS.out.2.2.1).symm)
        clear KW
        go_wp2_with fail
        go_roundg R.high
        case measure => have := HLE.out; simp only [Tr.high] at this; omega
        case rel => exact ⟨R, KX.out.1, by rw [HRT.out.2]; exact KX.out.2.1, KX.out.2.2, HR.out.lies.2.2.2.2.2, HR.out.ord.right, HFI.out, Nat.le_refl _⟩
end Go.Proofs.Ytcckamajiebgeaa
namespace Go.Proofs.Ytcckamajiebgeaa
open Go.RowKit
set_option linter.unusedVariables false
set_option linter.unusedSimpArgs false
set_option maxRecDepth 100000
open Dt

theorem ctx_of {W w : World} {gm most U : Nat} {A : Ar} (h : PM W w gm most U A) (hU : U ≤ 900000) : Ctx w gm A.get :=
  ⟨load_ok h hU, by obtain ⟨ga, h1, _⟩ := h; exact ⟨_, h1⟩, Ar.get_low (by omega)⟩
/-- The boxes and the draft that Put and Del make first. -/
def w3D (w : World) (gm : Nat) (s t : Int) : World := ((w.alloc (.cells #[.int .i64 s, .int .i64 t] 28)).alloc (.cells #[.int .i64 0, .int .i64 0, .slice none 0 0, .slice none 0 0] 34)).alloc (.cells #[.pointer (some ⟨gm, 0, none⟩), .slice none 0 0, .slice none 0 0] 73)
structure W3 (w : World) (gm : Nat) (s t : Int) (w1 : World) (kb kr gd : Nat) : Prop where
  bel : Below w.heap.size w w1
  hb : Hb w1 kb s t
  ed : w1.heap[kr]? = some (.cells #[.int .i64 0, .int .i64 0, .slice none 0 0, .slice none 0 0] 34 (0, 0))
  dr : Dr w w1 gm gd [] [gd]
  lo : w.heap.size ≤ kr
theorem W3.of (w : World) (gm : Nat) (s t : Int) : W3 w gm s t (w3D w gm s t) w.heap.size (w.heap.size + 1) (w.heap.size + 2) := by
  unfold w3D
  have D1 := (Below.refl w.heap.size w).alloc (Nat.le_refl _) (.cells #[.int .i64 s, .int .i64 t] 28)
  have X1 := Hb.new w s t
  generalize h1 : w.alloc (.cells #[.int .i64 s, .int .i64 t] 28) = w1 at *
  have hs1 : w1.heap.size = w.heap.size + 1 := by rw [← h1]; simp
  have D2 := (Below.refl w1.heap.size w1).alloc (Nat.le_refl _) (.cells #[.int .i64 0, .int .i64 0, .slice none 0 0, .slice none 0 0] 34)
  have X2 := heap_alloc_new w1 (.cells #[.int .i64 0, .int .i64 0, .slice none 0 0, .slice none 0 0] 34)
  generalize h2 : w1.alloc (.cells #[.int .i64 0, .int .i64 0, .slice none 0 0, .slice none 0 0] 34) = w2 at *
  have hs2 : w2.heap.size = w.heap.size + 2 := by rw [← h2]; simp [hs1]
  have D3 := (Below.refl w2.heap.size w2).alloc (Nat.le_refl _) (.cells #[.pointer (some ⟨gm, 0, none⟩), .slice none 0 0, .slice none 0 0] 73)
  have X3 := heap_alloc_new w2 (.cells #[.pointer (some ⟨gm, 0, none⟩), .slice none 0 0, .slice none 0 0] 73)
  rw [hs1] at X2
  rw [hs2] at X3
  have B2 := D1.trans (D2.mono D1.size)
  have B3 := B2.trans (D3.mono B2.size)
  exact ⟨B3, (X1.below D2).below D3, (D3.block _ (by omega)).trans X2, ⟨B3, by omega, .slice none 0 0, X3, OwnH.nil _ _, rfl⟩, by omega⟩
theorem sd_of {W w w2 : World} {gm ga gd most U : Nat} {A : Ar} {gn : List (Int × Int)} {fs : List Nat} (h1 : w.heap[gm]? = some (.cells #[.pointer (some ⟨ga, 0, none⟩), cmpV] 70 (0, 0))) (h2 : Az W w ga most U A) (hD : Dr w w2 gm gd gn fs) : ∃ vg, Sd W w w2 gm ga gd most U A gn [] vg (.slice none 0 0) := by
  obtain ⟨vg, b1, b2, _⟩ := hD.mem
  exact ⟨vg, h2.below hD.bel, (hD.bel.block _ (Array.getElem?_eq_some_iff.1 h1).1).trans h1, b1, b2, OwnH.nil _ _, by simp [Value.ownBlock], hD.low, Kp.of_below hD.bel, h2.bel.size⟩
theorem mi_made {T T' : Tr} {O op nw : List (Int × Int)} (h1 : T.hds.Perm (O ++ op)) (h2 : T'.hds.Perm (O ++ nw)) (hf : ∀ x ∈ nw, x ∉ T.hds) : nw.Perm (miH T'.hds T.hds) := by
  have e : miH (O ++ nw) T.hds = nw := by
    unfold miH
    rw [List.filter_append, List.filter_eq_nil_iff.2 (fun x hx => by simp; exact h1.mem_iff.2 (List.mem_append_left _ hx)), List.filter_eq_self.2 (fun x hx => by simpa using hf x hx)]
    rfl
  have p : (miH T'.hds T.hds).Perm (miH (O ++ nw) T.hds) := h2.filter _
  rw [e] at p
  exact p.symm
theorem mi_gone {T T' : Tr} {O op nw : List (Int × Int)} (h1 : T.hds.Perm (O ++ op)) (h2 : T'.hds.Perm (O ++ nw)) (hn : T.hds.Nodup) (hf : ∀ x ∈ nw, x ∉ T.hds) : op.Perm (miH T.hds T'.hds) := by
  have hno : (O ++ op).Nodup := h1.nodup_iff.1 hn
  have e : miH (O ++ op) T'.hds = op := by
    unfold miH
    rw [List.filter_append, List.filter_eq_nil_iff.2 (fun x hx => by simp; exact h2.mem_iff.2 (List.mem_append_left _ hx)), List.filter_eq_self.2 (fun x hx => ?_)]
    · rfl
    · simp
      intro hm
      rcases List.mem_append.1 (h2.mem_iff.1 hm) with h | h
      · exact (List.nodup_append.1 hno).2.2 x h x hx rfl
      · exact hf x h (h1.mem_iff.2 (List.mem_append_right _ hx))
  have p : (miH T.hds T'.hds).Perm (miH (O ++ op) T'.hds) := h1.filter _
  rw [e] at p
  exact p.symm
theorem ed_of {W w w3 : World} {gm ga gd most U : Nat} {A A' : Ar} {T T' : Tr} {ps : List Pp} {d : Dt} {op nw : List (Int × Int)} {vm vg : Value} (hst : Stands A T) (hgm : W.heap.size ≤ gm) (hsr : Srt ps) (S3 : Sd W w w3 gm ga gd most (U + d.cnt) A' op nw vg vm) (R3 : StRel d A T' A' nw) (hp : d.prs = ps) (hO : T.hds.Perm (d.olds ++ op)) (hc : d.cnt ≤ 3 * T.high + 1) (hh : T.high ≤ 200) : Ed PM W w w3 gm most U A T ps vm vg T' A' (U + d.cnt) nw op := by
  have hf : ∀ x ∈ nw, x ∉ T.hds := fun x hx hx2 => by
    have h1 := (hst.lies.at x hx2).1
    rw [R3.fresh x hx] at h1
    cases h1
  exact ⟨⟨ga, S3.map, S3.az, hgm⟩, by omega, ⟨R3.lies, R3.bal, by unfold Tr.Ord; rw [R3.prs, hp]; exact hsr⟩, R3.prs.trans hp, S3.om, S3.og, mi_made hO R3.hds hf, mi_gone hO R3.hds (hst.lies.nodup hst.ord) hf, R3.mono, by rw [R3.live, R3.len], by rw [R3.len]; exact hc, S3.kp⟩
theorem ed_box {W w w3 w4 : World} {gm most U U' : Nat} {A A' : Ar} {T T' : Tr} {ps : List Pp} {made gone : List (Int × Int)} {vm vg : Value} (E : Ed PM W w w3 gm most U A T ps vm vg T' A' U' made gone) {kr : Nat} {cs : Array Value} (hk : w3.heap[kr]? = some (.cells cs 34 (0, 0))) (hl : w.heap.size ≤ kr) (hW : W.heap.size ≤ w.heap.size) (M : Mod [kr] w3 w4) : Ed PM W w w4 gm most U A T ps vm vg T' A' U' made gone := by
  have hrow : ∀ {v : Value} {l : List (Int × Int)}, OwnH w3 w.heap.size v l → OwnH w4 w.heap.size v l := fun {v l} h => row_kept h fun b hb => M.block b (row_lt h hb) (by
    simp
    rintro rfl
    exact row_ne h hk (by decide) hb)
  refine ⟨E.pm.mod M (fun j hj => ?_), E.uu, E.st, E.prs, hrow E.om, hrow E.og, E.mad, E.gn, E.mono, E.live, E.few, ⟨Nat.le_trans E.kp.1 M.size, fun j cs' t z e t1 t2 t3 => ?_⟩⟩
  · rw [List.mem_singleton.1 hj]
    exact ⟨Nat.le_trans hW hl, _, _, _, hk, by decide, by decide, by decide, by decide⟩
  · have e2 := E.kp.2 j cs' t z e t1 t2 t3
    have hj := (Array.getElem?_eq_some_iff.1 e).1
    refine (M.block j (Array.getElem?_eq_some_iff.1 e2).1 ?_).trans e2
    simp
    omega
set_option maxHeartbeats 4000000 in
theorem put_yes {W w : World} {gm most U : Nat} {A : Ar} (T : Tr) (k v : Int) (h : PM W w gm most U A) (hU : U ≤ 800000) (hst : Stands A T) (hn : T.prs.length ≤ 200) (hr : A.live + (3 * T.high + 1) ≤ most) :
    Calls Try.prog 15 #[.pointer (some ⟨gm, 0, none⟩), .agg #[.int .i64 T.root.1, .int .i64 T.root.2], .int .i64 k, .int .i64 v] w (EdRet PM W gm most U A T (wiP k v T.prs) w) := by
  have C := ctx_of h (by omega)
  have hh := T.high_le
  have HW3 := hide (W3.of w gm T.root.1 T.root.2)
  have hle : most ≤ 1048576 := by
    obtain ⟨ga, _, ⟨_, fs, h2, _⟩, _⟩ := h
    exact h2.mle
  have K1 := hide (put_any C k v T hst.lies hst.bal hst.ord (by omega) HW3.out.dr (by simp; omega))
  have HP := hide h
  have HST := hide hst
  have HB := hide (And.intro hU (And.intro hr (And.intro (show T.high ≤ 200 by omega) hle)))
  clear h hU hst hn hr C hh hle
  unfold EdRet
  change Hid (Calls _ _ #[_, .agg #[.pointer none, .int .i64 T.root.1, .int .i64 T.root.2], _, _] _ _) at K1
  go_enter Try.func15, Try.ntmps15
  go_upto_region 2 with (fail)
  change Code.wp _ _ _ _ (w3D w gm T.root.1 T.root.2)
  generalize w3D w gm T.root.1 T.root.2 = w1 at *
  generalize w.heap.size + 2 = gd at *
  generalize w.heap.size + 1 = kr at *
  obtain ⟨kb, hkb⟩ : ∃ q, w.heap.size = q := ⟨_, rfl⟩
  have X := HW3.out.hb.two
  rw [hkb] at X ⊢
  clear hkb
  obtain ⟨x0, x1⟩ := X
  go_wp2_with fail
  refine K1.out.mono ?_
  rintro e w2 ⟨d, op, fs2, rfl, PO⟩
  obtain ⟨ga, hm, haz, hgm⟩ := HP.out
  have hD := PO.S.dr
  rw [List.nil_append] at hD
  obtain ⟨vg, hS⟩ := sd_of hm haz hD
  have hB := HB.out
  have c1 := PO.c1
  have c2 := PO.c2
  have c3 := PO.len
  have KL := hide (lay_any d w2 hS hgm PO.D PO.g.ok (by omega) (by omega) (by omega) (by omega))
  rw [show (fun (e : Ending) (w' : World) => if A.live + d.cnt ≤ most then LyYes W w gm ga gd most U A op d w2 e w' else LyNo W w gm ga gd most U A w2 e w') = LyYes W w gm ga gd most U A op d w2 by funext e w'; rw [if_pos (by omega)]] at KL
  have X2 := hide (PO.S.block HW3.out.ed (by decide) (by decide) (by simp))
  have HPO := hide PO
  have HSD := hide hS
  have HGM := hide hgm
  clear hm haz hgm hD hS hB c1 c2 c3 x0 x1 PO K1
  go_wp2_with fail
  refine KL.out.mono ?_
  rintro e w3 ⟨T', A', nw, vm, vg', rfl, S3, R3, K3⟩
  have HK3 := hide K3
  have X3 := hide (K3.any (w0 := w2) (W := w2) HSD.out.om X2.out (by decide) (by decide) (by decide) (by
    rintro rfl
    have e1 := X2.out
    have e2 := HSD.out.blk
    rw [e1] at e2
    simp at e2) (by decide))
  have HED := hide (ed_of (T := T) (ps := wiP k v T.prs) HST.out HGM.out (wiP_srt HST.out.ord).1 S3 R3 HPO.out.g.prs HPO.out.g.olds (by have h1 := HPO.out.c2; have h2 := HPO.out.len; omega) HB.out.2.2.1)
  clear S3 R3 K3 HK3 KL
  obtain ⟨am, cm, rfl⟩ := row_form HED.out.om
  obtain ⟨ag, cg, rfl⟩ := row_form HED.out.og
  obtain ⟨b0, b1, b2, b3, g0, g1, g2, g3⟩ := ed_cells X3.out
  unfold edv
  generalize hl1 : nw.length = l1 at *
  generalize hl2 : op.length = l2 at *
  have HL := hide (And.intro hl1 hl2)
  clear hl1 hl2
  go_wp2_with fail
  have M := mod4 w3 kr (.int .i64 T'.root.1) (.int .i64 T'.root.2) (.slice am l1 cm) (.slice ag l2 cg)
  refine bodyPost_ret (v := .tuple #[.agg #[.int .i64 T'.root.1, .int .i64 T'.root.2, .slice am l1 cm, .slice ag l2 cg], .bool true]) ?_ rfl ⟨.slice am l1 cm, .slice ag l2 cg, T', A', U + d.cnt, nw, op, rfl, ed_box HED.out X3.out HW3.out.lo HP.out.bel.size M⟩
  rw [results_cell_tmp rfl]
  go_simp
end Go.Proofs.Ytcckamajiebgeaa
namespace Go.Proofs.Ytcckamajiebgeaa
open Go.RowKit
set_option linter.unusedVariables false
set_option linter.unusedSimpArgs false
set_option maxRecDepth 100000
open Dt

theorem pt_cnt {F : Int → Int → Option Nd} {w0 w w' : World} {gm gd : Nat} {gn op : List (Int × Int)} {fs fs' : List Nat} {k v : Int} {d : Dt} (h : PtPost F w0 gm gd gn fs .nil (wiP k v []) w w' d op fs') : 1 ≤ d.cnt := by
  cases d with
  | new p k v h l r => simp [Dt.cnt]; omega
  | old T =>
    have h1 := h.g.prs
    have h2 := h.g.olds
    simp only [Dt.prs, wiP] at h1
    simp only [Tr.hds, Dt.olds] at h2
    have h3 := h2.length_eq
    have h4 := T.hds_prs
    rw [h1] at h4
    simp at h3 h4
    omega
theorem pm_set {W w w2 w3 : World} {gm most U : Nat} {A : Ar} (h : PM W w gm most U A) (hb : Below w.heap.size w w2) {kr : Nat} {cs : Array Value} (hk : w2.heap[kr]? = some (.cells cs 34 (0, 0))) (hl : w.heap.size ≤ kr) (M : Mod [kr] w2 w3) : PM W w3 gm most U A ∧ Kp w w3 :=
  ⟨(h.below hb).mod M (fun j hj => by
    rw [List.mem_singleton.1 hj]
    exact ⟨Nat.le_trans h.bel.size hl, _, _, _, hk, by decide, by decide, by decide, by decide⟩), Kp.of_below (hb.trans (M.below (B := w.heap.size) hb.size (by simpa using hl)))⟩
set_option maxHeartbeats 4000000 in
theorem put_no {W w : World} {gm U : Nat} {A : Ar} (k v : Int) (h : PM W w gm 0 U A) (hU : U ≤ 800000) :
    Calls Try.prog 15 #[.pointer (some ⟨gm, 0, none⟩), .agg #[.int .i64 0, .int .i64 0], .int .i64 k, .int .i64 v] w (EdNo PM W gm 0 U A w) := by
  have C := ctx_of h (by omega)
  have HW3 := hide (W3.of w gm 0 0)
  have K1 := hide (put_any C k v .nil trivial trivial List.Pairwise.nil (by simp [Tr.high]) HW3.out.dr (by simp [Tr.high]))
  have HP := hide h
  have HU := hide hU
  clear h C hU
  unfold EdNo
  change Hid (Calls _ _ #[_, .agg #[.pointer none, .int .i64 0, .int .i64 0], _, _] _ _) at K1
  go_enter Try.func15, Try.ntmps15
  go_upto_region 2 with (fail)
  change Code.wp _ _ _ _ (w3D w gm 0 0)
  generalize w3D w gm 0 0 = w1 at *
  generalize w.heap.size + 2 = gd at *
  generalize w.heap.size + 1 = kr at *
  obtain ⟨kb, hkb⟩ : ∃ q, w.heap.size = q := ⟨_, rfl⟩
  have X := HW3.out.hb.two
  rw [hkb] at X ⊢
  clear hkb
  obtain ⟨x0, x1⟩ := X
  go_wp2_with fail
  refine K1.out.mono ?_
  rintro e w2 ⟨d, op, fs2, rfl, PO⟩
  obtain ⟨ga, hm, haz, hgm⟩ := HP.out
  have hD := PO.S.dr
  rw [List.nil_append] at hD
  obtain ⟨vg, hS⟩ := sd_of hm haz hD
  have c1 := PO.c1
  have c2 := PO.c2
  have c3 := PO.len
  have c4 := pt_cnt PO
  simp only [Tr.high] at c3
  have hUU := HU.out
  have KL := hide (lay_any d w2 hS hgm PO.D PO.g.ok (by omega) (by omega) (by omega) (by omega))
  rw [show (fun (e : Ending) (w' : World) => if A.live + d.cnt ≤ 0 then LyYes W w gm ga gd 0 U A op d w2 e w' else LyNo W w gm ga gd 0 U A w2 e w') = LyNo W w gm ga gd 0 U A w2 by funext e w'; rw [if_neg (by omega)]] at KL
  have X2 := hide (PO.S.block HW3.out.ed (by decide) (by decide) (by simp))
  have HB2 := hide hD.bel
  clear hm haz hgm hD hS c1 c2 c3 c4 x0 x1 PO K1 hUU
  go_wp2_with fail
  refine KL.out.mono ?_
  rintro e w3 ⟨rfl, hb⟩
  have HB3 := hide (HB2.out.trans (hb.mono HB2.out.size))
  have X3 := hide ((hb.block _ (Array.getElem?_eq_some_iff.1 X2.out).1).trans X2.out)
  clear hb KL
  obtain ⟨b0, b1, b2, b3, g0, g1, g2, g3⟩ := ed_cells X3.out
  unfold edv
  go_wp2_with fail
  have PMK := pm_set HP.out HB3.out X3.out HW3.out.lo (mod4 w3 kr (.int .i64 0) (.int .i64 0) (.slice none 0 0) (.slice none 0 0))
  refine bodyPost_ret (v := .tuple #[.agg #[.int .i64 0, .int .i64 0, .slice none 0 0, .slice none 0 0], .bool false]) ?_ rfl ⟨.slice none 0 0, .slice none 0 0, rfl, OwnH.nil _ _, OwnH.nil _ _, PMK.1, PMK.2⟩
  rw [results_cell_tmp rfl]
  go_simp
set_option maxHeartbeats 4000000 in
theorem dele_yes {W w : World} {gm most U : Nat} {A : Ar} (T : Tr) (k : Int) (h : PM W w gm most U A) (hU : U ≤ 800000) (hst : Stands A T) (hn : T.prs.length ≤ 200) (hr : A.live + (3 * T.high + 1) ≤ most) (hk : (fiP k T.prs).isSome = true) :
    Calls Try.prog 14 #[.pointer (some ⟨gm, 0, none⟩), .agg #[.int .i64 T.root.1, .int .i64 T.root.2], .int .i64 k] w (EdRet PM W gm most U A T (woP k T.prs) w) := by
  have C := ctx_of h (by omega)
  have hh := T.high_le
  have HW3 := hide (W3.of w gm T.root.1 T.root.2)
  have hle : most ≤ 1048576 := by
    obtain ⟨ga, _, ⟨_, fs, h2, _⟩, _⟩ := h
    exact h2.mle
  have K1 := hide (del_yes C k T hst.lies hst.bal hst.ord (by omega) hk HW3.out.dr (by simp; omega))
  have HP := hide h
  have HST := hide hst
  have HB := hide (And.intro hU (And.intro hr (And.intro (show T.high ≤ 200 by omega) hle)))
  clear h hU hst hn hr C hh hle hk
  unfold EdRet
  change Hid (Calls _ _ #[_, .agg #[.pointer none, .int .i64 T.root.1, .int .i64 T.root.2], _] _ _) at K1
  go_enter Try.func14, Try.ntmps14
  go_upto_region 2 with (fail)
  change Code.wp _ _ _ _ (w3D w gm T.root.1 T.root.2)
  generalize w3D w gm T.root.1 T.root.2 = w1 at *
  generalize w.heap.size + 2 = gd at *
  generalize w.heap.size + 1 = kr at *
  obtain ⟨kb, hkb⟩ : ∃ q, w.heap.size = q := ⟨_, rfl⟩
  have X := HW3.out.hb.two
  rw [hkb] at X ⊢
  clear hkb
  obtain ⟨x0, x1⟩ := X
  go_wp2_with fail
  refine K1.out.mono ?_
  rintro e w2 ⟨d, op, fs2, rfl, PO⟩
  have X2 := hide (PO.S.block HW3.out.ed (by decide) (by decide) (by simp))
  obtain ⟨bd, hbd⟩ : ∃ u, d.bv = u := ⟨_, rfl⟩
  have HBV := hide hbd
  rw [hbd]
  clear hbd
  obtain ⟨bo, sb, tb⟩ := bd
  have D4 := (Below.refl w2.heap.size w2).alloc (Nat.le_refl _) (.cells #[pv bo, .int .i64 sb, .int .i64 tb] 76)
  have XB := hide (Bxb.new w2 (bo, sb, tb))
  have HPO := hide (PO.below D4)
  have X4 := hide ((D4.block _ (Array.getElem?_eq_some_iff.1 X2.out).1).trans X2.out)
  unfold bvv pv
  unfold pv at XB HPO X4
  simp only at XB HPO X4 ⊢
  generalize hmx : (bo.map fun q => (⟨q, 0, none⟩ : Addr)) = mx at *
  have HMX := hide hmx
  clear hmx D4 x0 x1 PO K1 X2
  go_upto_region 5 with (fail)
  generalize w2.heap.size = kq at *
  generalize World.alloc w2 _ = w4 at *
  obtain ⟨y0, y1, y2⟩ := XB.out.three
  unfold pv at y0
  simp only [HMX.out] at y0 y1 y2
  obtain ⟨ga, hm, haz, hgm⟩ := HP.out
  have hD := HPO.out.S.dr
  rw [List.nil_append] at hD
  obtain ⟨vg, hS⟩ := sd_of hm haz hD
  have hB := HB.out
  have c1 := HPO.out.cnt
  have c3 := HPO.out.len
  have KL := hide (lay_any d w4 hS hgm HPO.out.D HPO.out.ok (by omega) (by omega) (by omega) (by omega))
  rw [show (fun (e : Ending) (w' : World) => if A.live + d.cnt ≤ most then LyYes W w gm ga gd most U A op d w4 e w' else LyNo W w gm ga gd most U A w4 e w') = LyYes W w gm ga gd most U A op d w4 by funext e w'; rw [if_pos (by omega)]] at KL
  have HSD := hide hS
  have HGM := hide hgm
  unfold bvv pv at KL
  rw [HBV.out] at KL
  simp only [HMX.out] at KL
  clear hm haz hgm hD hS hB c1 c3
  go_wp2_with fail
  refine KL.out.mono ?_
  rintro e w3 ⟨T', A', nw, vm, vg', rfl, S3, R3, K3⟩
  have X3 := hide (K3.any (w0 := w4) (W := w4) HSD.out.om X4.out (by decide) (by decide) (by decide) (by
    rintro rfl
    have e1 := X4.out
    have e2 := HSD.out.blk
    rw [e1] at e2
    simp at e2) (by decide))
  have HED := hide (ed_of (T := T) (ps := woP k T.prs) HST.out HGM.out (woP_srt HST.out.ord) S3 R3 HPO.out.prs HPO.out.olds (by have h1 := HPO.out.cnt; have h2 := HPO.out.len; omega) HB.out.2.2.1)
  clear S3 R3 K3 KL y0 y1 y2
  obtain ⟨am, cm, rfl⟩ := row_form HED.out.om
  obtain ⟨ag, cg, rfl⟩ := row_form HED.out.og
  obtain ⟨b0, b1, b2, b3, g0, g1, g2, g3⟩ := ed_cells X3.out
  unfold edv
  generalize hl1 : nw.length = l1 at *
  generalize hl2 : op.length = l2 at *
  have HL := hide (And.intro hl1 hl2)
  clear hl1 hl2
  go_wp2_with fail
  have M := mod4 w3 kr (.int .i64 T'.root.1) (.int .i64 T'.root.2) (.slice am l1 cm) (.slice ag l2 cg)
  refine bodyPost_ret (v := .tuple #[.agg #[.int .i64 T'.root.1, .int .i64 T'.root.2, .slice am l1 cm, .slice ag l2 cg], .bool true]) ?_ rfl ⟨.slice am l1 cm, .slice ag l2 cg, T', A', U + d.cnt, nw, op, rfl, ed_box HED.out X3.out HW3.out.lo HP.out.bel.size M⟩
  rw [results_cell_tmp rfl]
  go_simp
set_option maxHeartbeats 4000000 in
theorem dele_no {W w : World} {gm most U : Nat} {A : Ar} (T : Tr) (k : Int) (h : PM W w gm most U A) (hU : U ≤ 800000) (hst : Stands A T) (hn : T.prs.length ≤ 200) (hk : fiP k T.prs = none) :
    Calls Try.prog 14 #[.pointer (some ⟨gm, 0, none⟩), .agg #[.int .i64 T.root.1, .int .i64 T.root.2], .int .i64 k] w (EdNo PM W gm most U A w) := by
  have C := ctx_of h (by omega)
  have hh := T.high_le
  have HW3 := hide (W3.of w gm T.root.1 T.root.2)
  have K1 := hide (del_no C k T hst.lies hst.bal hst.ord (by omega) hk HW3.out.dr (by simp; omega))
  have HP := hide h
  clear h hU hst hn C hh hk
  unfold EdNo
  unfold DlNo at K1
  change Hid (Calls _ _ #[_, .agg #[.pointer none, .int .i64 T.root.1, .int .i64 T.root.2], _] _ (fun e w' => e = .returned (.tuple #[.agg #[.pointer none, .int .i64 T.root.1, .int .i64 T.root.2], .bool false]) ∧ _)) at K1
  go_enter Try.func14, Try.ntmps14
  go_upto_region 2 with (fail)
  change Code.wp _ _ _ _ (w3D w gm T.root.1 T.root.2)
  generalize w3D w gm T.root.1 T.root.2 = w1 at *
  generalize w.heap.size + 2 = gd at *
  generalize w.heap.size + 1 = kr at *
  obtain ⟨kb, hkb⟩ : ∃ q, w.heap.size = q := ⟨_, rfl⟩
  have X := HW3.out.hb.two
  rw [hkb] at X ⊢
  clear hkb
  obtain ⟨x0, x1⟩ := X
  go_wp2_with fail
  refine K1.out.mono ?_
  rintro e w2 ⟨rfl, gn', fs', S2⟩
  have X2 := S2.block HW3.out.ed (by decide) (by decide) (by simp)
  have D4 := (Below.refl w2.heap.size w2).alloc (Nat.le_refl _) (.cells #[.pointer none, .int .i64 T.root.1, .int .i64 T.root.2] 76)
  have HB4 := hide (S2.dr.bel.trans (D4.mono S2.dr.bel.size))
  have X4 := hide ((D4.block _ (Array.getElem?_eq_some_iff.1 X2).1).trans X2)
  clear D4 x0 x1 K1 X2 S2
  go_upto_region 4 with (fail)
  generalize World.alloc w2 _ = w4 at *
  obtain ⟨b0, b1, b2, b3, g0, g1, g2, g3⟩ := ed_cells X4.out
  go_wp2_with fail
  have PMK := pm_set HP.out HB4.out X4.out HW3.out.lo (mod4 w4 kr (.int .i64 0) (.int .i64 0) (.slice none 0 0) (.slice none 0 0))
  refine bodyPost_ret (v := .tuple #[.agg #[.int .i64 0, .int .i64 0, .slice none 0 0, .slice none 0 0], .bool false]) ?_ rfl ⟨.slice none 0 0, .slice none 0 0, rfl, OwnH.nil _ _, OwnH.nil _ _, PMK.1, PMK.2⟩
  rw [results_cell_tmp rfl]
  go_simp
/-- The map keeps all that the laws ask of it. -/
theorem mapOk : MapOk PM where
  bel := fun h => h.bel
  below := fun h hb => h.below hb
  mod := fun h hm hf => h.mod hm hf
  new := fun W w n hn hb => new_any W w n hn hb
  newNo := fun w n hn hi => new_no w n hn hi _ (.inl rfl)
  newNil := fun w n hi => new_nil w n hi
  load := fun h hU => load_ok h hU
  live := fun h hU => live_any h (by omega)
  room := fun h hU => room_any h (by omega)
  get := fun T k h hU hst hn hk => get_any T k h hU hst
  free := fun s t x h hU hg hs ht => free_any s t x h hU hg hs ht
  put := fun T k v h hU hst hn hr hk hv => put_yes T k v h hU hst hn hr
  putNo := fun k v h hU hk hv => put_no k v h hU
  del := fun T k h hU hst hn hr hk hf => dele_yes T k h hU hst hn hr hf
  delNo := fun T k h hU hst hn hk hf => dele_no T k h hU hst hn hf
end Go.Proofs.Ytcckamajiebgeaa
