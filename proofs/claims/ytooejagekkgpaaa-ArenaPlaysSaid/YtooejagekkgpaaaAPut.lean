/-
  The contract of the arena's Put. Conditions: the arena is one, in memory; no slot was used more than a million times.
-/
import Derived.Test.YtooejagekkgpaaaANext
namespace Go.Proofs.Ytooejagekkgpaaa
open Go.RowKit
set_option linter.unusedVariables false
set_option linter.unusedSimpArgs false
set_option maxRecDepth 100000

/-- What next leaves: the slot that is taken, as it lies there yet. -/
structure Nx (w : World) (g most : Nat) (A : Ar) (fs : List Nat) (w' : World) (j b c : Nat) (vf : Value) (B : Ar) : Prop where
  lt : j < B.sl.length
  am : Am w' g most (.slice (some ⟨b, 0, none⟩) B.sl.length c) vf B
  mod : Mod fs w w'
  fs : ∀ k, k = g ∨ k = b ∨ vf.ownBlock = some k → k ∈ fs ∨ w.heap.size ≤ k
  nxt : A.nxt = (j + 1, B.sl[j].gen + 1)
  put : ∀ x, A.put x = ⟨B.sl.set j ⟨B.sl[j].gen + 1, some x⟩, B.fr⟩
theorem anext_any (g most U : Nat) (A : Ar) (fs : List Nat) (hU : U ≤ 1000000) (w : World) (h : An w g most U A fs) : Calls Try.prog 24 #[.pointer (some ⟨g, 0, none⟩)] w (fun e w' => ∃ j b c vf B, e = .returned (.int .i64 ((j + 1 : Nat) : Int)) ∧ Nx w g most A fs w' j b c vf B) := by
  have hl := h.len
  have hc := h.cnt
  obtain ⟨vs, vf, M, rfl⟩ := h.mem
  rcases h.arw.nxt with ⟨r, hf, h1, h2, k, hk, hn, hg, hp⟩ | ⟨hf, hn, hp⟩
  · refine (anext_free g most vs vf A A.nxt.1 r hf (by omega) w M).mono ?_
    rintro e w' ⟨rfl, vf', hM, hmod, hob⟩
    have hj : A.nxt.1 - 1 < A.sl.length := by omega
    obtain ⟨b, c, rfl, hne⟩ := M.form (by omega)
    obtain ⟨_, hk'⟩ := List.getElem?_eq_some_iff.1 hk
    refine ⟨A.nxt.1 - 1, b, c, vf', ⟨A.sl, r⟩, by rw [show A.nxt.1 - 1 + 1 = A.nxt.1 by omega], ⟨hj, hM, ?_, ?_, ?_, ?_⟩⟩
    · exact ⟨hmod.os, hmod.tape, hmod.output, hmod.size, fun k hk hnot => hmod.block k hk (fun hm => hnot (by simp at hm; simp [hm]))⟩
    · rintro k (rfl | rfl | hk)
      · exact .inl (by simp)
      · exact .inl (by simp [Value.ownBlock])
      · rw [hob] at hk
        exact .inl (by simp [hk])
    · simp only [hk']
      rw [← hg]
      exact Prod.ext (by simp; omega) rfl
    · intro x
      rw [hp x]
      simp only [hk']
  · refine (anext_new g most vs vf A hf (by omega) w M).mono ?_
    rintro e w' ⟨rfl, b, c, hM, hmod, hob⟩
    refine ⟨A.sl.length, b, c, vf, ⟨A.sl ++ [⟨0, none⟩], []⟩, rfl, ⟨by simp, by simpa using hM, ?_, ?_, ?_, ?_⟩⟩
    · exact ⟨hmod.os, hmod.tape, hmod.output, hmod.size, fun k hk hnot => hmod.block k hk (fun hm => hnot (by
        simp only [List.mem_cons, List.mem_append] at hm ⊢
        rcases hm with hm | hm
        · exact .inl hm
        · exact .inr (.inl hm)))⟩
    · rintro k (rfl | rfl | hk)
      · exact .inl (by simp)
      · rcases hob with h | h
        · exact .inl (by simp [h])
        · exact .inr h
      · exact .inl (by simp [hk])
    · rw [hn]
      simp
    · intro x
      rw [hp x]
      simp
theorem Am.stored {w : World} {g most b c : Nat} {vf : Value} {B : Ar} (h : Am w g most (.slice (some ⟨b, 0, none⟩) B.sl.length c) vf B) (j : Nat) (hj : j < B.sl.length) (y : Sl) :
    Am (((w.setCell ⟨b, j * 3, none⟩ (.int .i64 (y.it.getD 0))).setCell ⟨b, j * 3 + 1, none⟩ (.bool y.it.isSome)).setCell ⟨b, j * 3 + 2, none⟩ (.int .i64 (y.gen : Int))) g most (.slice (some ⟨b, 0, none⟩) B.sl.length c) vf ⟨B.sl.set j y, B.fr⟩ := by
  have hbg : b ≠ g := fun e => h.neS (by rw [e]; rfl)
  have s1 := (h.sl.stored (j * 3) (.int .i64 (y.it.getD 0))).1
  have s2 := (s1.stored (j * 3 + 1) (.bool y.it.isSome)).1
  have s3 := (s2.stored (j * 3 + 2) (.int .i64 (y.gen : Int))).1
  rw [← slcs_set B.sl j y hj] at s3
  have hk : ∀ k, k ≠ b → (((w.setCell ⟨b, j * 3, none⟩ (.int .i64 (y.it.getD 0))).setCell ⟨b, j * 3 + 1, none⟩ (.bool y.it.isSome)).setCell ⟨b, j * 3 + 2, none⟩ (.int .i64 (y.gen : Int))).heap[k]? = w.heap[k]? := fun k hk => by
    rw [Below.heap_setCell _ _ _ _ hk, Below.heap_setCell _ _ _ _ hk, Below.heap_setCell _ _ _ _ hk]
  refine ⟨(hk g (fun e => hbg e.symm)).trans h.blk, by rw [List.length_set]; exact s3, row_kept h.fr fun k hk' => hk k ?_⟩
  rintro rfl
  exact h.neSF rfl hk'
theorem Am.stored2 {w : World} {g most b c : Nat} {vf : Value} {B : Ar} (h : Am w g most (.slice (some ⟨b, 0, none⟩) B.sl.length c) vf B) (j : Nat) (hj : j < B.sl.length) (y : Sl) (hy : y.gen = B.sl[j].gen) :
    Am ((w.setCell ⟨b, j * 3, none⟩ (.int .i64 (y.it.getD 0))).setCell ⟨b, j * 3 + 1, none⟩ (.bool y.it.isSome)) g most (.slice (some ⟨b, 0, none⟩) B.sl.length c) vf ⟨B.sl.set j y, B.fr⟩ := by
  have hbg : b ≠ g := fun e => h.neS (by rw [e]; rfl)
  have s1 := (h.sl.stored (j * 3) (.int .i64 (y.it.getD 0))).1
  have s2 := (s1.stored (j * 3 + 1) (.bool y.it.isSome)).1
  rw [← slcs_set2 B.sl j y hj hy] at s2
  have hk : ∀ k, k ≠ b → ((w.setCell ⟨b, j * 3, none⟩ (.int .i64 (y.it.getD 0))).setCell ⟨b, j * 3 + 1, none⟩ (.bool y.it.isSome)).heap[k]? = w.heap[k]? := fun k hk => by
    rw [Below.heap_setCell _ _ _ _ hk, Below.heap_setCell _ _ _ _ hk]
  refine ⟨(hk g (fun e => hbg e.symm)).trans h.blk, by rw [List.length_set]; exact s2, row_kept h.fr fun k hk' => hk k ?_⟩
  rintro rfl
  exact h.neSF rfl hk'
def PutNo (w : World) (e : Ending) (w' : World) : Prop := e = .returned (.tuple #[.agg #[.int .i64 0, .int .i64 0], .bool false]) ∧ Below w.heap.size w w'
theorem aput_full (g most U : Nat) (A : Ar) (fs : List Nat) (x : Int) (hU : U ≤ 1000000) (hf : A.live = most) (w : World) (h : An w g most U A fs) : Calls Try.prog 10 #[.pointer (some ⟨g, 0, none⟩), .int .i64 x] w (PutNo w) := by
  have Bz := (Below.refl w.heap.size w).alloc (Nat.le_refl _) (.cells #[.int .i64 0, .int .i64 0] 31)
  have bx := heap_alloc_new w (.cells #[.int .i64 0, .int .i64 0] 31)
  have K := hide (aroom_any g most U A fs (by omega) _ (h.below Bz))
  have B := hide Bz
  have HX := hide bx
  have lx : w.heap.size < (w.alloc (.cells #[.int .i64 0, .int .i64 0] 31)).heap.size := by simp
  rw [hf, Nat.sub_self] at K
  clear Bz bx h hf
  go_enter Try.func10, Try.ntmps10
  go_upto_region 1 with (fail)
  generalize w.alloc (.cells #[.int .i64 0, .int .i64 0] 31) = w1 at K B HX lx ⊢
  go_wp2_with fail
  refine K.out.mono ?_
  rintro e w2 ⟨rfl, hb⟩
  have HB := hide (B.out.trans (hb.mono B.out.size))
  have bx2 := (hb.block _ lx).trans HX.out
  have y0 := cell_of_row _ _ 0 _ _ (0, 0) bx2
  have y1 := cell_of_row _ _ 1 _ _ (0, 0) bx2
  have f0 := Joins.unfrozen_of_block bx2 0
  have f1 := Joins.unfrozen_of_block bx2 1
  simp at y0 y1
  clear hb K bx2 HX
  go_wp2_with fail
  refine bodyPost_ret (v := .tuple #[.agg #[.int .i64 0, .int .i64 0], .bool false]) ?_ rfl ⟨rfl, (HB.out.setCell (p := ⟨w.heap.size, 0, none⟩) (by simp) _).setCell (p := ⟨w.heap.size, 1, none⟩) (by simp) _⟩
  rw [results_cell_tmp rfl]
  go_simp
theorem live_eq (A : Ar) : A.live = (A.sl.filter (·.it.isSome)).length := rfl
theorem An.put {w' : World} {g most U : Nat} {A : Ar} {w : World} {fs : List Nat} {b c : Nat} {vf : Value} {x : Int} (h : An w g most U A fs) (hlt : A.live < most) (hM : Am w' g most (.slice (some ⟨b, 0, none⟩) (A.put x).sl.length c) vf (A.put x)) :
    An w' g most (U + 1) (A.put x) (g :: b :: vf.ownBlock.toList) := by
  have hlive := h.arw.live_put x
  have hc := h.cnt
  have hl := h.len
  refine ⟨h.arw.put x, ?_, by omega, h.mle, ?_, ?_, _, _, hM, by simp [Value.ownBlock]⟩
  · rcases h.arw.nxt with ⟨r, hf, h1, h2, k, hk, hn, hg, hp⟩ | ⟨hf, hn, hp⟩
    · rw [hlive, hp x]
      rw [hf] at hc
      simp at hc ⊢
      omega
    · rw [hlive, hp x]
      rw [hf] at hc
      simp at hc ⊢
      omega
  · intro k hk
    rcases h.arw.nxt with ⟨r, hf, h1, h2, k', hk', hn, hg, hp⟩ | ⟨hf, hn, hp⟩
    · rw [hp x] at hk
      have := h.use k' (List.mem_of_getElem? hk')
      rcases List.mem_or_eq_of_mem_set hk with hk | rfl
      · have := h.use k hk
        omega
      · show k'.gen + 1 ≤ U + 1
        omega
    · rw [hp x] at hk
      rcases List.mem_append.1 hk with hk | hk
      · have := h.use k hk
        omega
      · rw [List.mem_singleton.1 hk]
        show 1 ≤ U + 1
        omega
  · rcases h.arw.nxt with ⟨r, hf, h1, h2, k', hk', hn, hg, hp⟩ | ⟨hf, hn, hp⟩
    · rw [hp x]
      simp
      omega
    · rw [hp x]
      simp
      omega
theorem An.put_len {g most U : Nat} {A : Ar} {w : World} {fs : List Nat} (h : An w g most U A fs) (x : Int) : (A.put x).sl.length ≤ U + 1 ∧ A.nxt.2 ≤ U + 1 := by
  have hl := h.len
  rcases h.arw.nxt with ⟨r, hf, h1, h2, k', hk', hn, hg, hp⟩ | ⟨hf, hn, hp⟩
  · have := h.use k' (List.mem_of_getElem? hk')
    rw [hp x, hg]
    simp
    omega
  · rw [hp x, hn]
    simp
    omega
set_option maxHeartbeats 2000000 in
theorem aput_any (g most U : Nat) (A : Ar) (fs : List Nat) (x : Int) (hU : U ≤ 1000000) (hf : A.live < most) (w : World) (h : An w g most U A fs) : Calls Try.prog 10 #[.pointer (some ⟨g, 0, none⟩), .int .i64 x] w (AnRet (.tuple #[.agg #[.int .i64 A.nxt.1, .int .i64 A.nxt.2], .bool true]) g most (U + 1) (A.put x) fs w) := by
  have Bz := (Below.refl w.heap.size w).alloc (Nat.le_refl _) (.cells #[.int .i64 0, .int .i64 0] 31)
  have bx := heap_alloc_new w (.cells #[.int .i64 0, .int .i64 0] 31)
  have hA1 := h.below Bz
  have K := hide (aroom_any g most U A fs (by omega) _ hA1)
  have HA1 := hide hA1
  have HA := hide h
  have B := hide Bz
  have HX := hide bx
  have hm := h.mle
  have lx : w.heap.size < (w.alloc (.cells #[.int .i64 0, .int .i64 0] 31)).heap.size := by simp
  have NX := hide (show w.heap.size ∉ fs from fun hk => by have := h.lt _ hk; omega)
  have hlt := hf
  obtain ⟨q, hq⟩ : ∃ q, most - A.live = q + 1 := ⟨most - A.live - 1, by omega⟩
  rw [hq] at K
  have d0 : (((q + 1 : Nat) : Int) == 0) = false := by simp; omega
  clear Bz bx h hf hA1
  go_enter Try.func10, Try.ntmps10
  go_upto_region 1 with (fail)
  generalize w.alloc (.cells #[.int .i64 0, .int .i64 0] 31) = w1 at K B HX lx HA1 ⊢
  go_wp2_with fail
  refine K.out.mono ?_
  rintro e w2 ⟨rfl, hb⟩
  have HB2 := hide (B.out.trans (hb.mono B.out.size))
  have HX2 := hide ((hb.block _ lx).trans HX.out)
  have lx2 : w.heap.size < w2.heap.size := by have := hb.size; omega
  have K2 := hide (anext_any g most U A fs hU w2 (HA1.out.below hb))
  clear hb K HX HA1 B lx
  go_wp2_with fail
  refine K2.out.mono ?_
  rintro e w3 ⟨j, b, c, vf, B, rfl, hN⟩
  have M3 := hide ((Mod.of_below HB2.out).trans (fs' := fs) hN.mod (fun k hk => .inl hk))
  have HX3 := hide ((hN.mod.block _ lx2 NX.out).trans HX2.out)
  have HN := hide hN
  have c1 := hN.am.cell1
  obtain ⟨z0, z1, z2⟩ := hN.am.three j hN.lt
  have f0 := hN.am.sl.frozenAt (j * 3)
  have f1 := hN.am.sl.frozenAt (j * 3 + 1)
  have f2 := hN.am.sl.frozenAt (j * 3 + 2)
  have i1 := hN.lt
  obtain ⟨pl, pn⟩ := HA.out.put_len x
  rw [hN.put x] at pl
  rw [hN.nxt] at pn
  simp only [List.length_set] at pl pn
  have i0 : (0 : Int) ≤ (j : Int) := by omega
  have i2 : (j : Int) < (B.sl.length : Int) := by omega
  have wk : IntKind.i64.wrap (((j + 1 : Nat) : Int) - 1) = (j : Int) := (wrap_in _ (by omega) (by omega)).trans (by omega)
  have HS := hide (hN.am.stored j hN.lt ⟨B.sl[j].gen + 1, some x⟩)
  have EP := hide (hN.put x)
  have EN := hide hN.nxt
  have HFS := hide (fun k hk => (hN.fs k hk).imp id (fun (h : w2.heap.size ≤ k) => show w.heap.size ≤ k by omega))
  have bne : b ≠ w.heap.size := by
    have h1 := HX3.out
    have h2 := row_block hN.am.sl (b := b) rfl
    rintro rfl
    obtain ⟨cur, h2⟩ := h2
    rw [h1] at h2
    simp at h2
  have wr : wrap64 ((B.sl[j].gen : Int) + 1) = (B.sl[j].gen : Int) + 1 := wrap64_in _ (by omega) (by omega)
  simp only [Option.getD_some, Option.isSome_some] at HS
  generalize B.sl[j] = y at *
  generalize hn : B.sl.length = n at *
  clear K2 hN HX2 lx2
  go_upto_region 7 with (fail)
  have e : (((y.gen + 1 : Nat) : Int)) = (y.gen : Int) + 1 := by omega
  rw [e] at HS
  have HX4 : (((w3.setCell ⟨b, j * 3, none⟩ (.int .i64 x)).setCell ⟨b, j * 3 + 1, none⟩ (.bool true)).setCell ⟨b, j * 3 + 2, none⟩ (.int .i64 ((y.gen : Int) + 1))).heap[w.heap.size]? = some (.cells #[.int .i64 0, .int .i64 0] 31 (0, 0)) := by
    rw [Below.heap_setCell _ _ _ _ (by exact fun h => bne h.symm), Below.heap_setCell _ _ _ _ (by exact fun h => bne h.symm), Below.heap_setCell _ _ _ _ (by exact fun h => bne h.symm)]
    exact HX3.out
  have M4 := hide (((M3.out.setCell (p := ⟨b, j * 3, none⟩) (HFS.out b (.inr (.inl rfl))) (.int .i64 x)).setCell (p := ⟨b, j * 3 + 1, none⟩) (HFS.out b (.inr (.inl rfl))) (.bool true)).setCell (p := ⟨b, j * 3 + 2, none⟩) (HFS.out b (.inr (.inl rfl))) (.int .i64 ((y.gen : Int) + 1)))
  have hnl : n = (A.put x).sl.length := by rw [EP.out]; simp [hn]
  have EG : (A.put x).sl[j]? = some ⟨y.gen + 1, some x⟩ := by rw [EP.out]; exact List.getElem?_set_self (by omega)
  rw [← EP.out, hnl] at HS
  obtain ⟨hj, EG⟩ := List.getElem?_eq_some_iff.1 EG
  obtain ⟨-, -, q2⟩ := HS.out.three j hj
  rw [EG] at q2
  simp only [e] at q2
  generalize (((w3.setCell ⟨b, j * 3, none⟩ (.int .i64 x)).setCell ⟨b, j * 3 + 1, none⟩ (.bool true)).setCell ⟨b, j * 3 + 2, none⟩ (.int .i64 ((y.gen : Int) + 1))) = w4 at *
  have r0 := cell_of_row _ _ 0 _ _ (0, 0) HX4
  have r1 := cell_of_row _ _ 1 _ _ (0, 0) HX4
  have t0 := Joins.unfrozen_of_block HX4 0
  have t1 := Joins.unfrozen_of_block HX4 1
  simp at r0 r1
  have HX4 := hide HX4
  clear z0 z1 z2 f0 f1 f2 HX3 M3 HN EG
  go_wp2_with fail
  have M5 := (M4.out.setCell (p := ⟨w.heap.size, 0, none⟩) (.inr (Nat.le_refl _)) (.int .i64 ((j : Int) + 1))).setCell (p := ⟨w.heap.size, 1, none⟩) (.inr (Nat.le_refl _)) (.int .i64 ((y.gen : Int) + 1))
  have hk5 : ∀ k, k ≠ w.heap.size → ((w4.setCell ⟨w.heap.size, 0, none⟩ (.int .i64 ((j : Int) + 1))).setCell ⟨w.heap.size, 1, none⟩ (.int .i64 ((y.gen : Int) + 1))).heap[k]? = w4.heap[k]? := fun k hk => by
    rw [Below.heap_setCell _ _ _ _ hk, Below.heap_setCell _ _ _ _ hk]
  have hM5 : Am ((w4.setCell ⟨w.heap.size, 0, none⟩ (.int .i64 ((j : Int) + 1))).setCell ⟨w.heap.size, 1, none⟩ (.int .i64 ((y.gen : Int) + 1))) g most (.slice (some ⟨b, 0, none⟩) (A.put x).sl.length c) vf (A.put x) := HS.out.kept fun k hk => hk5 k (by
    rcases hk with rfl | hk | hk
    · rintro rfl
      have := HS.out.blk
      rw [HX4.out] at this
      simp at this
    · rintro rfl
      exact row_ne HS.out.sl HX4.out (by decide) hk
    · rintro rfl
      exact row_ne HS.out.fr HX4.out (by decide) hk)
  refine bodyPost_ret (v := .tuple #[.agg #[.int .i64 ((j : Int) + 1), .int .i64 ((y.gen : Int) + 1)], .bool true]) ?_ rfl ⟨by rw [EN.out]; simp, _, HA.out.put hlt hM5, M5, ?_⟩
  · rw [results_cell_tmp rfl]
    go_simp
  · intro k hk
    refine HFS.out k ?_
    simpa using hk
end Go.Proofs.Ytooejagekkgpaaa
