/-
  The document's arena: contracts of Get, Free. Conditions: the arena is one, in memory, of not more than a million puts, and tells what the program's tells.
-/
import Derived.Test.YtooejagekkgpaaaARef3
import Derived.RegionTactic
namespace Go.Proofs.Ytooejagekkgpaaa
open Go.RowKit
set_option linter.unusedVariables false
set_option linter.unusedSimpArgs false
set_option maxRecDepth 100000

/-- The document's arena, made behind a world. -/
structure Dd (W w : World) (g most : Nat) (L : List En) (N : Nat) : Prop where
  bel : Below W.heap.size W w
  mem : ∃ v, Dm w g most v L N ∧ W.heap.size ≤ g ∧ ∀ b, v.ownBlock = some b → W.heap.size ≤ b
/-- All that isn't the document's arena is as it was. -/
def Kd (w w' : World) : Prop := w.heap.size ≤ w'.heap.size ∧ ∀ (k : Nat) (cs : Array Value) (t : TypeId) (z : Nat × Nat), w.heap[k]? = some (Obj.cells cs t z) → t ≠ 29 → t ≠ 35 → w'.heap[k]? = some (Obj.cells cs t z)
theorem Kd.of_below {w w' : World} (h : Below w.heap.size w w') : Kd w w' := ⟨h.size, fun k cs t z hk _ _ => (h.block k (Array.getElem?_eq_some_iff.1 hk).1).trans hk⟩
theorem Kd.trans {a b c : World} (h : Kd a b) (h' : Kd b c) : Kd a c := ⟨Nat.le_trans h.1 h'.1, fun k cs t z hk h1 h2 => h'.2 k cs t z (h.2 k cs t z hk h1 h2) h1 h2⟩
theorem Dd.below {W w w' : World} {g most N : Nat} {L : List En} (h : Dd W w g most L N) (hb : Below w.heap.size w w') : Dd W w' g most L N := by
  obtain ⟨h1, v, h2, h3, h4⟩ := h
  exact ⟨h1.trans (hb.mono h1.size), v, h2.below hb, h3, h4⟩
theorem Dd.kp {W w w' : World} {g most N : Nat} {L : List En} (h : Dd W w g most L N) (hk : Kp w w') (hb : Below W.heap.size W w') : Dd W w' g most L N := by
  obtain ⟨h1, v, h2, h3, h4⟩ := h
  exact ⟨hb, v, h2.kp hk, h3, h4⟩
theorem Az.kd {W w w' : World} {g most U : Nat} {A : Ar} (h : Az W w g most U A) (hk : Kd w w') (hb : Below W.heap.size W w') : Az W w' g most U A := by
  obtain ⟨_, fs, ⟨h1, h2, h3, h0, h4, h5, vs, vf, h6, rfl⟩, h7⟩ := h
  refine ⟨hb, _, ⟨h1, h2, h3, h0, h4, h5, vs, vf, h6.kept fun b hb' => ?_, rfl⟩, h7⟩
  rcases hb' with rfl | hb' | hb'
  · rw [h6.blk]
    exact hk.2 _ _ _ _ h6.blk (by decide) (by decide)
  · obtain ⟨cur, hc⟩ := row_block h6.sl hb'
    rw [hc]
    exact hk.2 _ _ _ _ hc (by decide) (by decide)
  · obtain ⟨cur, hc⟩ := row_block h6.fr hb'
    rw [hc]
    exact hk.2 _ _ _ _ hc (by decide) (by decide)
theorem Hb.kd {w w' : World} {k : Nat} {s t : Int} (h : Hb w k s t) (hk : Kd w w') : Hb w' k s t := hk.2 k _ _ _ h (by decide) (by decide)
def DdRet (v : Value) (W : World) (g most : Nat) (L : List En) (N : Nat) (w : World) (e : Ending) (w' : World) : Prop := e = .returned v ∧ Dd W w' g most L N ∧ Kd w w'
set_option maxHeartbeats 1000000 in
theorem rget_any (g most N : Nat) (v : Value) (L : List En) (A : Ar) (s t : Int) (hT : Tied A L N) (hL : L.length ≤ 1000000) (w : World) (h : Dm w g most v L N) : Calls Try.prog 15 #[.pointer (some ⟨g, 0, none⟩), .agg #[.int .i64 s, .int .i64 t]] w (GetRet (A.get s t) w) := by
  have D := (Below.refl w.heap.size w).alloc (Nat.le_refl _) (.cells #[.int .i64 s, .int .i64 t] 31)
  have H := hide (h.below D)
  have K := hide (rfind_any g most N v L s t hL _ H.out)
  have HT := hide hT
  have B := hide D
  clear D h hT
  unfold GetRet
  go_enter Try.func15, Try.ntmps15
  go_wp2_with fail
  refine K.out.mono ?_
  rintro e w2 ⟨hb, hr⟩
  have B2 := hide (B.out.trans (hb.mono (by simp)))
  have M2 := hide (H.out.below hb)
  clear hb K
  rcases hr with ⟨rfl, hno⟩ | ⟨i, hi, rfl, hit⟩
  · have E := hide (show A.get s t = none by
      cases hg : A.get s t with
      | none => rfl
      | some x =>
        obtain ⟨e, he, h1, h2, h3, h4⟩ := HT.out.miss hg
        have := hno e he
        rw [hitB_iff.2 ⟨h1, h2, h3⟩] at this
        cases this)
    clear hno
    go_wp2
    go_ret2
    exact ⟨by rw [E.out]; rfl, B2.out⟩
  · have E := hide (show A.get s t = some L[i].x by
      obtain ⟨h1, h2, h3⟩ := hitB_iff.1 hit
      rw [← h1, ← h2]
      exact HT.out.hit (List.getElem_mem hi) h3)
    obtain ⟨b, c, rfl, hbg⟩ := M2.out.head (by omega)
    obtain ⟨-, y1, -⟩ := M2.out.cells
    obtain ⟨-, -, z2, -, -⟩ := M2.out.five i hi
    have i0 : (0 : Int) ≤ (i : Int) := by omega
    have i1 : (i : Int) < (L.length : Int) := by omega
    generalize L[i].x = x at z2 E
    clear hit
    go_wp2
    go_ret2
    exact ⟨by rw [E.out]; rfl, B2.out⟩
theorem ecs_free : ∀ (L : List En) (i : Nat) (n : Nat) (h : i < L.length), ((ecs L).set (i * 5 + 3) (.bool false)).set (i * 5 + 4) (.int .i64 (n : Int)) = ecs (L.set i { L[i] with lies := false, fd := n })
  | e :: L, 0, n, h => by simp [ecs, ecv]
  | e :: L, i + 1, n, h => by
    have := ecs_free L i n (by simpa using h)
    have hl : (ecv e).length = 5 := rfl
    have hs : ∀ (j : Nat) (a : List Value) (u : Value), (ecv e ++ a).set ((i + 1) * 5 + j) u = ecv e ++ a.set (i * 5 + j) u := fun j a u => by
      rw [List.set_append_right _ _ (by omega)]
      congr 2
      omega
    show ((ecv e ++ ecs L).set ((i + 1) * 5 + 3) (.bool false)).set ((i + 1) * 5 + 4) (.int .i64 (n : Int)) = _
    rw [hs, hs, this]
    simp [ecs]
theorem Tied.freeAt {A : Ar} {L : List En} {N : Nat} (h : Tied A L N) (i : Nat) (hi : i < L.length) {s t : Int} (hh : hitB s t L[i] = true) : Tied (A.free s.toNat) (L.set i { L[i] with lies := false, fd := N + 1 }) (N + 1) := by
  obtain ⟨h1, h2, h3⟩ := hitB_iff.1 hh
  have hL : L = L.take i ++ L[i] :: L.drop (i + 1) := by
    conv => lhs; rw [← List.take_append_drop i L, List.drop_eq_getElem_cons hi]
  have := h.free (e' := { L[i] with lies := false, fd := N + 1 }) hL h3 rfl rfl rfl rfl
  rw [List.set_eq_take_append_cons_drop, if_pos hi, show s.toNat = L[i].s by omega]
  exact this
theorem rfree_no (g most N : Nat) (v : Value) (L : List En) (A : Ar) (s t : Int) (hT : Tied A L N) (hg : A.get s t = none) (hL : L.length ≤ 1000000) (w : World) (h : Dm w g most v L N) : Calls Try.prog 13 #[.pointer (some ⟨g, 0, none⟩), .agg #[.int .i64 s, .int .i64 t]] w (BoolRet false w) := by
  have D := (Below.refl w.heap.size w).alloc (Nat.le_refl _) (.cells #[.int .i64 s, .int .i64 t] 31)
  have K := hide (rfind_any g most N v L s t hL _ (h.below D))
  have HT := hide hT
  have HG := hide hg
  have B := hide D
  clear D h hT hg
  go_enter Try.func13, Try.ntmps13
  go_wp2_with fail
  refine K.out.mono ?_
  rintro e w2 ⟨hb, hr⟩
  have B2 := hide (B.out.trans (hb.mono (by simp)))
  clear hb K
  rcases hr with ⟨rfl, hno⟩ | ⟨i, hi, rfl, hit⟩
  · clear hno
    go_wp2
    go_ret
    exact ⟨rfl, B2.out⟩
  · exfalso
    obtain ⟨h1, h2, h3⟩ := hitB_iff.1 hit
    have := HT.out.hit (List.getElem_mem hi) h3
    rw [h1, h2, HG.out] at this
    cases this
set_option maxHeartbeats 2000000 in
theorem rfree_any (W : World) (g most N : Nat) (L : List En) (A : Ar) (s t x : Int) (hT : Tied A L N) (hg : A.get s t = some x) (hL : L.length ≤ 1000000) (hN : N ≤ 1000000) (w : World) (h : Dd W w g most L N) : Calls Try.prog 13 #[.pointer (some ⟨g, 0, none⟩), .agg #[.int .i64 s, .int .i64 t]] w (fun e w' => ∃ (i : Nat) (hi : i < L.length), hitB s t L[i] = true ∧ DdRet (.bool true) W g most (L.set i { L[i] with lies := false, fd := N + 1 }) (N + 1) w e w') := by
  obtain ⟨hw, v, hM, hg0, hv0⟩ := h
  have D := (Below.refl w.heap.size w).alloc (Nat.le_refl _) (.cells #[.int .i64 s, .int .i64 t] 31)
  have H1 := hide (hM.below D)
  have K := hide (rfind_any g most N v L s t hL _ H1.out)
  have HT := hide hT
  have HG := hide hg
  have B := hide D
  have HW := hide hw
  clear D hM hT hg hw
  go_enter Try.func13, Try.ntmps13
  go_wp2_with fail
  refine K.out.mono ?_
  rintro e w2 ⟨hb, hr⟩
  have B2 := hide (B.out.trans (hb.mono (by simp)))
  have M2 := hide (H1.out.below hb)
  clear hb K H1
  rcases hr with ⟨rfl, hno⟩ | ⟨i, hi, rfl, hit⟩
  · exfalso
    obtain ⟨e, he, h1, h2, h3, h4⟩ := HT.out.miss HG.out
    have := hno e he
    rw [hitB_iff.2 ⟨h1, h2, h3⟩] at this
    cases this
  · obtain ⟨b, c, rfl, hbg⟩ := M2.out.head (by omega)
    obtain ⟨-, y1, y2⟩ := M2.out.cells
    obtain ⟨-, -, -, z3, z4⟩ := M2.out.five i hi
    have i0 : (0 : Int) ≤ (i : Int) := by omega
    have i1 : (i : Int) < (L.length : Int) := by omega
    have f2 := Joins.unfrozen_of_block M2.out.blk 2
    have f3 := M2.out.row.frozenAt (i * 5 + 3)
    have f4 := M2.out.row.frozenAt (i * 5 + 4)
    have wn : IntKind.i64.wrap ((N : Int) + 1) = (N : Int) + 1 := wrap_in _ (by omega) (by omega)
    have HH := hide hit
    have HC := hide (ecs_free L i (N + 1) hi)
    clear hit
    go_upto_region 6 with (fail)
    have hk4 : ∀ k, k ≠ g → k ≠ b → ((w2.setCell ⟨g, 2, none⟩ (.int .i64 ((N : Int) + 1))).setCell ⟨b, i * 5 + 3, none⟩ (.bool false)).heap[k]? = w2.heap[k]? := fun k h1 h2 => by
      rw [Below.heap_setCell _ _ _ _ h2, Below.heap_setCell _ _ _ _ h1]
    have hsz4 : ((w2.setCell ⟨g, 2, none⟩ (.int .i64 ((N : Int) + 1))).setCell ⟨b, i * 5 + 3, none⟩ (.bool false)).heap.size = w2.heap.size := by simp [World.setCell]
    have hb4 : ((w2.setCell ⟨g, 2, none⟩ (.int .i64 ((N : Int) + 1))).setCell ⟨b, i * 5 + 3, none⟩ (.bool false)).heap[g]? = some (.cells #[.int .i64 (most : Int), .slice (some ⟨b, 0, none⟩) L.length c, .int .i64 ((N : Int) + 1)] 29 (0, 0)) := by
      rw [Below.heap_setCell _ _ _ _ (fun e => hbg e.symm)]
      have := Joins.block_setCell (i := 2) M2.out.blk (.int .i64 ((N : Int) + 1))
      simpa using this
    have hr4 := ((row_kept (w' := w2.setCell ⟨g, 2, none⟩ (.int .i64 ((N : Int) + 1))) M2.out.row fun k hk => Below.heap_setCell _ _ _ _ (fun e => by
      subst e
      simp [Value.ownBlock] at hk
      exact hbg hk)).stored (i * 5 + 3) (.bool false)).1
    have hW4 := ((HW.out.trans (B2.out.mono HW.out.size)).setCell (p := ⟨g, 2, none⟩) hg0 (.int .i64 ((N : Int) + 1))).setCell (p := ⟨b, i * 5 + 3, none⟩) (hv0 b rfl) (.bool false)
    generalize (w2.setCell ⟨g, 2, none⟩ (.int .i64 ((N : Int) + 1))).setCell ⟨b, i * 5 + 3, none⟩ (.bool false) = w4 at hk4 hb4 hr4 hW4 hsz4 ⊢
    have q1 := cell_of_row _ _ 1 _ _ (0, 0) hb4
    have q2 := cell_of_row _ _ 2 _ _ (0, 0) hb4
    have q4 := hr4.cellAt (i * 5 + 4) (by omega)
    rw [List.getElem?_set_ne (by omega), ecs_at L i 4 hi (by omega)] at q4
    have g4 := hr4.frozenAt (i * 5 + 4)
    simp at q1 q2
    simp only [ecv, List.getElem?_cons_succ, List.getElem?_cons_zero] at q4
    generalize L[i].fd = fd at z4 q4
    have HB4 := hide hb4
    have HR4 := hide (hr4.stored (i * 5 + 4) (.int .i64 ((N : Int) + 1))).1
    have HW4 := hide hW4
    have HK4 := hide hk4
    have HS4 := hide hsz4
    clear hk4 hb4 hr4 hW4 y1 y2 z3 z4 f2 f3 f4 hsz4
    go_wp2_with fail
    go_region
    go_wp2
    go_ret
    have hsz := B2.out.size
    have e1 : (((N + 1 : Nat)) : Int) = (N : Int) + 1 := by omega
    refine ⟨i, hi, HH.out, rfl, ⟨(HW4.out.setCell (p := ⟨b, i * 5 + 4, none⟩) (hv0 b rfl) (.int .i64 ((N : Int) + 1))).drew, .slice (some ⟨b, 0, none⟩) L.length c, ⟨?_, ?_⟩, hg0, hv0⟩, ?_, ?_⟩
    · rw [e1]
      exact (Below.heap_setCell _ _ _ _ (fun e => hbg e.symm)).trans HB4.out
    · rw [List.length_set, ← HC.out, e1]
      exact HR4.out
    · show w.heap.size ≤ (w4.setCell ⟨b, i * 5 + 4, none⟩ (.int .i64 ((N : Int) + 1))).heap.size
      have : (w4.setCell ⟨b, i * 5 + 4, none⟩ (.int .i64 ((N : Int) + 1))).heap.size = w4.heap.size := by simp [World.setCell]
      have := HS4.out
      omega
    · intro k cs t' z hk t1 t2
      have hkl := (Array.getElem?_eq_some_iff.1 hk).1
      have hk2 := (B2.out.block k hkl).trans hk
      have n1 : k ≠ g := by
        rintro rfl
        have := M2.out.blk
        rw [hk2] at this
        simp at this
        exact t1 this.2.1
      have n2 : k ≠ b := by
        rintro rfl
        exact row_ne M2.out.row hk2 t2 rfl
      exact ((Below.heap_setCell _ _ _ _ n2).trans (HK4.out k n1 n2)).trans hk2
end Go.Proofs.Ytooejagekkgpaaa
