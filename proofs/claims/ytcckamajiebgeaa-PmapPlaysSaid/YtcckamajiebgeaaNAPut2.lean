/-
  The contract of the arena's Put, of nodes. Conditions: the arena is one, in memory; no slot was used more than a million times.
-/
import Derived.Test.YtcckamajiebgeaaNAPut
namespace Go.Proofs.Ytcckamajiebgeaa
open Go.RowKit
set_option linter.unusedVariables false
set_option linter.unusedSimpArgs false
set_option maxRecDepth 100000

/-- Behind the two new blocks of a Put: the node, and the handle that is told. -/
def w2N (w : World) (x : Nd) : World := (w.alloc (.cells #[.int .i64 x.k, .int .i64 x.v, .int .i64 x.l.1, .int .i64 x.l.2, .int .i64 x.r.1, .int .i64 x.r.2, .int .i64 x.h] 60)).alloc (.cells #[.int .i64 0, .int .i64 0] 28)
structure Wn (w : World) (x : Nd) (w1 : World) : Prop where
  bel : Below w.heap.size w w1
  nd : w1.heap[w.heap.size]? = some (.cells #[.int .i64 x.k, .int .i64 x.v, .int .i64 x.l.1, .int .i64 x.l.2, .int .i64 x.r.1, .int .i64 x.r.2, .int .i64 x.h] 60 (0, 0))
  hd : w1.heap[w.heap.size + 1]? = some (.cells #[.int .i64 0, .int .i64 0] 28 (0, 0))
theorem Wn.of (w : World) (x : Nd) : Wn w x (w2N w x) := by
  have D1 := (Below.refl w.heap.size w).alloc (Nat.le_refl _) (.cells #[.int .i64 x.k, .int .i64 x.v, .int .i64 x.l.1, .int .i64 x.l.2, .int .i64 x.r.1, .int .i64 x.r.2, .int .i64 x.h] 60)
  have h1 := heap_alloc_new w (.cells #[.int .i64 x.k, .int .i64 x.v, .int .i64 x.l.1, .int .i64 x.l.2, .int .i64 x.r.1, .int .i64 x.r.2, .int .i64 x.h] 60)
  have h2 := heap_alloc_new (w.alloc (.cells #[.int .i64 x.k, .int .i64 x.v, .int .i64 x.l.1, .int .i64 x.l.2, .int .i64 x.r.1, .int .i64 x.r.2, .int .i64 x.h] 60)) (.cells #[.int .i64 0, .int .i64 0] 28)
  refine ⟨D1.alloc (by simp) _, (((Below.refl _ _).alloc (Nat.le_refl _) _).block _ (by simp)).trans h1, ?_⟩
  rw [show (w.alloc (.cells #[.int .i64 x.k, .int .i64 x.v, .int .i64 x.l.1, .int .i64 x.l.2, .int .i64 x.r.1, .int .i64 x.r.2, .int .i64 x.h] 60)).heap.size = w.heap.size + 1 by simp] at h2
  exact h2
theorem Wn.mod {w w1 w2 : World} {x : Nd} {fs : List Nat} (h : Wn w x w1) (hm : Mod fs w1 w2) (hf : ∀ k ∈ fs, k < w.heap.size ∨ w.heap.size + 1 < k) : w2.heap[w.heap.size]? = w1.heap[w.heap.size]? ∧ w2.heap[w.heap.size + 1]? = w1.heap[w.heap.size + 1]? := by
  have h1 := (Array.getElem?_eq_some_iff.1 h.nd).1
  have h2 := (Array.getElem?_eq_some_iff.1 h.hd).1
  exact ⟨hm.block _ h1 (fun hk => by have := hf _ hk; omega), hm.block _ h2 (fun hk => by have := hf _ hk; omega)⟩
def PutNo (w : World) (e : Ending) (w' : World) : Prop := e = .returned (.tuple #[.agg #[.int .i64 0, .int .i64 0], .bool false]) ∧ Below w.heap.size w w'
theorem aput_full (g most U : Nat) (A : Ar) (fs : List Nat) (x : Nd) (hU : U ≤ 1000000) (hf : A.live = most) (w : World) (h : An w g most U A fs) : Calls Try.prog 50 #[.pointer (some ⟨g, 0, none⟩), ndv x] w (PutNo w) := by
  have W := Wn.of w x
  have K := hide (aroom_any g most U A fs (by omega) _ (h.below W.bel))
  have HW := hide W
  rw [hf, Nat.sub_self] at K
  clear W h hf
  unfold ndv
  go_enter Try.func50, Try.ntmps50
  go_upto_region 1 with (fail)
  change Code.wp _ _ _ _ (w2N w x)
  generalize w2N w x = w1 at K HW ⊢
  go_wp2_with fail
  refine K.out.mono ?_
  rintro e w2 ⟨rfl, hb⟩
  have HB := hide (HW.out.bel.trans (hb.mono HW.out.bel.size))
  have bx2 := (hb.block _ (Array.getElem?_eq_some_iff.1 HW.out.hd).1).trans HW.out.hd
  have y0 := cell_of_row _ _ 0 _ _ (0, 0) bx2
  have y1 := cell_of_row _ _ 1 _ _ (0, 0) bx2
  have f0 := Joins.unfrozen_of_block bx2 0
  have f1 := Joins.unfrozen_of_block bx2 1
  simp at y0 y1
  clear hb K bx2 HW
  go_wp2_with fail
  refine bodyPost_ret (v := .tuple #[.agg #[.int .i64 0, .int .i64 0], .bool false]) ?_ rfl ⟨rfl, (HB.out.setCell (p := ⟨w.heap.size + 1, 0, none⟩) (by simp) _).setCell (p := ⟨w.heap.size + 1, 1, none⟩) (by simp) _⟩
  rw [results_cell_tmp rfl]
  go_simp
set_option maxHeartbeats 2000000 in
theorem aput_any (g most U : Nat) (A : Ar) (fs : List Nat) (x : Nd) (hU : U ≤ 1000000) (hf : A.live < most) (w : World) (h : An w g most U A fs) : Calls Try.prog 50 #[.pointer (some ⟨g, 0, none⟩), ndv x] w (AnRet (.tuple #[.agg #[.int .i64 A.nxt.1, .int .i64 A.nxt.2], .bool true]) g most (U + 1) (A.put x) fs w) := by
  have W := Wn.of w x
  have hA1 := h.below W.bel
  have K := hide (aroom_any g most U A fs (by omega) _ hA1)
  have HA1 := hide hA1
  have HA := hide h
  have HW := hide W
  have hm := h.mle
  have NX := hide (fun (k : Nat) (hk : k ∈ fs) => h.lt k hk)
  have hlt := hf
  obtain ⟨q, hq⟩ : ∃ q, most - A.live = q + 1 := ⟨most - A.live - 1, by omega⟩
  rw [hq] at K
  have d0 : (((q + 1 : Nat) : Int) == 0) = false := by simp; omega
  clear W h hf hA1
  unfold ndv
  go_enter Try.func50, Try.ntmps50
  go_upto_region 1 with (fail)
  change Code.wp _ _ _ _ (w2N w x)
  generalize w2N w x = w1 at K HW HA1 ⊢
  go_wp2_with fail
  refine K.out.mono ?_
  rintro e w2 ⟨rfl, hb⟩
  have HW2 := hide (show Wn w x w2 from ⟨HW.out.bel.trans (hb.mono HW.out.bel.size), (hb.block _ (Array.getElem?_eq_some_iff.1 HW.out.nd).1).trans HW.out.nd, (hb.block _ (Array.getElem?_eq_some_iff.1 HW.out.hd).1).trans HW.out.hd⟩)
  have K2 := hide (anext_any g most U A fs hU w2 (HA1.out.below hb))
  clear hb K HW HA1
  go_wp2_with fail
  refine K2.out.mono ?_
  rintro e w3 ⟨j, b, c, vf, B, rfl, hN⟩
  have M3 := hide ((Mod.of_below HW2.out.bel).trans (fs' := fs) hN.mod (fun k hk => .inl hk))
  obtain ⟨q1, q2⟩ := HW2.out.mod hN.mod fun k hk => .inl (NX.out k hk)
  have HN3 := hide (q1.trans HW2.out.nd)
  have HX3 := hide (q2.trans HW2.out.hd)
  have HN := hide hN
  have c1 := hN.am.cell1
  obtain ⟨z7, z8⟩ := hN.am.two j hN.lt
  have i1 := hN.lt
  obtain ⟨nd, hnd⟩ : ∃ nd, B.sl[j].it.getD ndz = nd := ⟨_, rfl⟩
  obtain ⟨z0, z1, z2, z3, z4, z5, z6⟩ := hN.am.all j hN.lt hnd
  have f0 := hN.am.sl.frozenAt (j * 9)
  have f1 := hN.am.sl.frozenAt (j * 9 + 1)
  have f2 := hN.am.sl.frozenAt (j * 9 + 2)
  have f3 := hN.am.sl.frozenAt (j * 9 + 3)
  have f4 := hN.am.sl.frozenAt (j * 9 + 4)
  have f5 := hN.am.sl.frozenAt (j * 9 + 5)
  have f6 := hN.am.sl.frozenAt (j * 9 + 6)
  have f7 := hN.am.sl.frozenAt (j * 9 + 7)
  have f8 := hN.am.sl.frozenAt (j * 9 + 8)
  obtain ⟨pl, pn⟩ := HA.out.put_len x
  rw [hN.put x] at pl
  rw [hN.nxt] at pn
  simp only [List.length_set] at pl pn
  have i0 : (0 : Int) ≤ (j : Int) := by omega
  have i2 : (j : Int) < (B.sl.length : Int) := by omega
  have wk : IntKind.i64.wrap (((j + 1 : Nat) : Int) - 1) = (j : Int) := (wrap_in _ (by omega) (by omega)).trans (by omega)
  have HS := hide (hN.am.stored j hN.lt ⟨B.sl[j].gen + 1, some x⟩ x rfl)
  have EP := hide (hN.put x)
  have EN := hide hN.nxt
  have HFS := hide (fun k hk => (hN.fs k hk).imp id (fun (h : w2.heap.size ≤ k) => show w.heap.size + 1 < k by have := (Array.getElem?_eq_some_iff.1 HW2.out.hd).1; omega))
  have bne : b ≠ w.heap.size + 1 ∧ b ≠ w.heap.size := by
    obtain ⟨cur, h2⟩ := row_block hN.am.sl (b := b) rfl
    constructor
    · rintro rfl
      rw [HX3.out] at h2
      simp at h2
    · rintro rfl
      rw [HN3.out] at h2
      simp at h2
  have wr : wrap64 ((B.sl[j].gen : Int) + 1) = (B.sl[j].gen : Int) + 1 := wrap64_in _ (by omega) (by omega)
  simp only [Option.isSome_some] at HS
  generalize B.sl[j] = y at *
  generalize hn : B.sl.length = n at *
  obtain ⟨x0, x1, x2, x3, x4, x5, x6, -⟩ := nd_cells HN3.out
  clear K2 hN HW2 q1 q2 hnd
  go_upto_region 7 with (fail)
  have e : (((y.gen + 1 : Nat) : Int)) = (y.gen : Int) + 1 := by omega
  rw [e] at HS
  change Code.wp _ _ _ _ (((stNd w3 b (j * 9) x).setCell ⟨b, j * 9 + 7, none⟩ (.bool true)).setCell ⟨b, j * 9 + 8, none⟩ (.int .i64 ((y.gen : Int) + 1)))
  have BT := ((But.stNd w3 b (j * 9) x).set (j * 9 + 7) (.bool true)).set (j * 9 + 8) (.int .i64 ((y.gen : Int) + 1))
  have M4 := hide (BT.mod M3.out ((HFS.out b (.inr (.inl rfl))).imp_right fun h => by omega))
  have HX4 := (BT.block _ (fun h => bne.1 h.symm)).trans HX3.out
  have hnl : n = (A.put x).sl.length := by rw [EP.out]; simp [hn]
  have EG : (A.put x).sl[j]? = some ⟨y.gen + 1, some x⟩ := by rw [EP.out]; exact List.getElem?_set_self (by omega)
  rw [← EP.out, hnl] at HS
  obtain ⟨hj, EG⟩ := List.getElem?_eq_some_iff.1 EG
  obtain ⟨-, q2⟩ := HS.out.two j hj
  rw [EG] at q2
  simp only [e] at q2
  generalize ((stNd w3 b (j * 9) x).setCell ⟨b, j * 9 + 7, none⟩ (.bool true)).setCell ⟨b, j * 9 + 8, none⟩ (.int .i64 ((y.gen : Int) + 1)) = w4 at *
  have r0 := cell_of_row _ _ 0 _ _ (0, 0) HX4
  have r1 := cell_of_row _ _ 1 _ _ (0, 0) HX4
  have t0 := Joins.unfrozen_of_block HX4 0
  have t1 := Joins.unfrozen_of_block HX4 1
  simp at r0 r1
  have HX4 := hide HX4
  clear z0 z1 z2 z3 z4 z5 z6 f0 f1 f2 f3 f4 f5 f6 f7 f8 HX3 M3 HN EG BT x0 x1 x2 x3 x4 x5 x6 HN3
  go_wp2_with fail
  have BT := ((But.refl (w.heap.size + 1) w4).set 0 (.int .i64 ((j : Int) + 1))).set 1 (.int .i64 ((y.gen : Int) + 1))
  have M5 := BT.mod M4.out (.inr (by omega))
  have hM5 : Am ((w4.setCell ⟨w.heap.size + 1, 0, none⟩ (.int .i64 ((j : Int) + 1))).setCell ⟨w.heap.size + 1, 1, none⟩ (.int .i64 ((y.gen : Int) + 1))) g most (.slice (some ⟨b, 0, none⟩) (A.put x).sl.length c) vf (A.put x) := HS.out.kept fun k hk => BT.block k (by
    rcases hk with rfl | hk | hk
    · intro e
      have := HS.out.blk
      rw [e, HX4.out] at this
      simp at this
    · rintro rfl
      exact row_ne HS.out.sl HX4.out (by decide) hk
    · rintro rfl
      exact row_ne HS.out.fr HX4.out (by decide) hk)
  refine bodyPost_ret (v := .tuple #[.agg #[.int .i64 ((j : Int) + 1), .int .i64 ((y.gen : Int) + 1)], .bool true]) ?_ rfl ⟨by rw [EN.out]; simp, _, HA.out.put hlt hM5, M5, ?_⟩
  · rw [results_cell_tmp rfl]
    go_simp
  · intro k hk
    refine (HFS.out k ?_).imp_right fun h => by omega
    simpa using hk
end Go.Proofs.Ytcckamajiebgeaa
