/-
  The contract of slices.Delete where it takes out the last one that is remembered. Conditions: the row is the tree's own.
-/
import Derived.Test.YtimfeocaghccdaaGreatDoorTPut
import Derived.ArgAppend
import Derived.Lib.AppendZeros
namespace Go.Proofs.YtimfeocaghccdaaGreatDoor
set_option maxRecDepth 100000
open Go.RowKit Go.Maps
set_option linter.unusedVariables false
set_option linter.unusedSimpArgs false
set_option maxRecDepth 100000

theorem stepSize (w : World) : (Go.sizeOf 93).run Tryz.prog w = .ok 4 w := by kernel_rfl
theorem stepElem : Tryz.prog.elem 88 = 93 := by simp [Program.elem, Tryz.underlying88]
theorem stepUnder : Tryz.prog.underlying 88 = some (.slice (Tryz.prog.elem 88)) := by simp [Program.elem, Tryz.underlying88]
theorem cut_tail (g n c : Nat) (hn : n ≤ c) (w : World) : ∃ A, (Instr.slice 88 (.slice (some ⟨g, 0, none⟩) n c) (some (.int .i64 (n : Int))) none none).run Tryz.prog w = .ok (.slice (some A) 0 (c - n)) w := by
  rw [run_slice_l w _ _ _ _ stepUnder .i64 _ (by omega) (by omega), stepElem, stepSize]
  by_cases h : c = n
  · exact ⟨⟨g, 0, none⟩, by simp [Result.andThen, sliced, h]⟩
  · by_cases h0 : n = 0
    · subst h0
      exact ⟨⟨g, 0, none⟩, by simp [Result.andThen, sliced, h, Addr.add]⟩
    · exact ⟨⟨g, n * 4, none⟩, by have : n * 4 ≠ 0 := by omega
                                  simp [Result.andThen, sliced, h, h0, Addr.add, this]⟩
theorem cut_one (g n c : Nat) (hn : n + 1 ≤ c) (w : World) : (Instr.slice 88 (.slice (some ⟨g, 0, none⟩) n c) (some (.int .i64 (n : Int))) (some (.int .i64 ((n : Int) + 1))) none).run Tryz.prog w = .ok (.slice (some ⟨g, n * 4, none⟩) 1 (c - n)) w := by
  rw [run_slice_lh w _ _ _ _ stepUnder .i64 .i64 _ _ (by omega) (by omega) (by omega), stepElem, stepSize]
  have h : ¬ c = n := by omega
  by_cases h0 : n = 0
  · subst h0
    simp [Result.andThen, sliced, h, Addr.add]
  · have : n * 4 ≠ 0 := by omega
    simp [Result.andThen, sliced, h, h0, Addr.add, this]
theorem cut_head (g m n c : Nat) (hn : n ≤ c) (w : World) : (Instr.slice 88 (.slice (some ⟨g, 0, none⟩) m c) none (some (.int .i64 (n : Int))) none).run Tryz.prog w = .ok (.slice (some ⟨g, 0, none⟩) n c) w := by
  rw [run_slice_h w _ _ _ _ stepUnder .i64 _ (by omega) (by omega), stepElem, stepSize]
  simp [Result.andThen, sliced, Addr.add]
theorem cut_check (g n c : Nat) (hn : n + 1 ≤ c) (w : World) : ∃ v, (Instr.slice 88 (.slice (some ⟨g, 0, none⟩) (n + 1) c) (some (.int .i64 (n : Int))) (some (.int .i64 ((n : Int) + 1))) (some (.int .i64 ((n : Int) + 1)))).run Tryz.prog w = .ok v w := by
  rw [run_slice_lhm w _ _ _ _ stepUnder .i64 .i64 .i64 _ _ _ (by omega) (by omega) (by omega) (by omega), stepElem, stepSize]
  exact ⟨_, rfl⟩
theorem zero_step (w : World) : (zeroValue 93).run Tryz.prog w = .ok (.agg #[.int .i64 0, .bool false, .int .i64 0, .string ⟨#[]⟩]) w := by kernel_rfl
theorem clear_step (g o c : Nat) (cur : Array Value) (w : World) (hc : w.heap[g]? = some (.cells cur 93 (0, 0))) (ho : o + 4 ≤ cur.size) (ty : TypeId) :
    (Builtin.clear_ #[88] ty #[.slice (some ⟨g, o, none⟩) 1 c]).run Tryz.prog w = .ok (.tuple #[]) (w.setCells g o [.int .i64 0, .bool false, .int .i64 0, .string ⟨#[]⟩]) := by
  have hst := run_storeCells_cells (P := Tryz.prog) g o [.int .i64 0, .bool false, .int .i64 0, .string ⟨#[]⟩] 0 w (by
      intro j hj
      rw [cell_of_row w g (o + 0 + j) cur _ (0, 0) hc, Array.getElem?_eq_getElem (by simp at hj; omega)]
      rfl) (by
      intro j hj
      exact Joins.unfrozen_of_block hc _) (by
      intro v hv
      simp at hv
      rcases hv with rfl | rfl | rfl | rfl <;> rfl)
  have hz : (Builtin.zeroCells (Value.agg #[.int .i64 0, .bool false, .int .i64 0, .string ⟨#[]⟩]).cells 1).toList = [.int .i64 0, .bool false, .int .i64 0, .string ⟨#[]⟩] := by kernel_rfl
  simp only [Nat.add_zero] at hst
  simp [Builtin.clear_, run_underlying Tryz.underlying88, zero_step, hz, hst]
theorem append_none (g n cap c : Nat) (A : Addr) (hn : n ≤ cap) (w : World) (ty : TypeId) :
    (Builtin.append_ #[88, 88] ty #[.slice (some ⟨g, 0, none⟩) n cap, .slice (some A) 0 c]).run Tryz.prog w = .ok (.slice (some ⟨g, 0, none⟩) n cap) w := by
  obtain ⟨i0, hi0, hz0, hz1, hz2⟩ := info_parts stepinfo
  have := run_append_room_cells (P := Tryz.prog) w 88 ty 93 i0 Tryz.underlying88 hi0 g 0 n cap A 0 c [] (by simp) (by simp) (by simp) (by omega) (by simp) (by simp)
  simpa [World.setCells] using this
theorem block_setCells {g : Nat} {t : TypeId} {fz : Nat × Nat} : ∀ (vs : List Value) (o : Nat) (cur : Array Value) (w : World), w.heap[g]? = some (.cells cur t fz) → ∃ cur', (w.setCells g o vs).heap[g]? = some (.cells cur' t fz) ∧ cur'.size = cur.size ∧ ∀ j, j < o → cur'[j]? = cur[j]?
  | [], o, cur, w, h => ⟨cur, h, rfl, fun _ _ => rfl⟩
  | v :: r, o, cur, w, h => by
    have h1 : (w.setCell ⟨g, o, none⟩ v).heap[g]? = some (.cells (cur.setIfInBounds o v) t fz) := Joins.block_setCell h v
    obtain ⟨cur', h2, h3, h4⟩ := block_setCells r (o + 1) _ _ h1
    refine ⟨cur', h2, by rw [h3]; simp, fun j hj => ?_⟩
    rw [h4 j (by omega), Array.getElem?_setIfInBounds]
    rw [if_neg (by omega)]
theorem mod_setCells {g : Nat} : ∀ (vs : List Value) (o : Nat) (w : World), Mod [g] w (w.setCells g o vs)
  | [], o, w => Mod.refl _ _
  | v :: r, o, w => ((Mod.refl [g] w).setCell (p := ⟨g, o, none⟩) (.inl (by simp)) v).trans (mod_setCells r (o + 1) _) (by simp)
/-- What is left when the last one is taken out. -/
theorem Past.cut {w : World} {g cap : Nat} {x : Int × Option Kd} {p : List (Int × Option Kd)} (h : Past w (.slice (some ⟨g, 0, none⟩) (p.length + 1) cap) (x :: p)) (vs : List Value) :
    Past (w.setCells g (p.length * 4) vs) (.slice (some ⟨g, 0, none⟩) p.length cap) p := by
  refine ⟨by rw [stcs_length]; simp, ?_⟩
  rcases h.2 with ⟨h0, _⟩ | ⟨g', cap', cur, h0, h2, h3, h4, h5, h6, h7⟩
  · cases h0
  · injection h0 with e1 e2 e3
    injection e1 with e1
    injection e1 with e1
    subst e1 e3
    obtain ⟨cur', c1, c2, c3⟩ := block_setCells vs (p.length * 4) cur w h3
    simp only [List.length_cons] at h4 h7
    refine .inr ⟨g, cap, cur', rfl, h2, c1, by omega, h5, by rw [c2]; exact h6, ?_⟩
    have e : stcs p.reverse = (stcs (x :: p).reverse).take (p.length * 4) := by
      rw [List.reverse_cons, stcs_append, List.take_append_of_le_length (by rw [stcs_length]; simp), List.take_of_length_le (by rw [stcs_length]; simp)]
    rw [e, ← h7, List.take_take, Nat.min_eq_left (by omega)]
    apply List.ext_getElem?
    intro j
    rw [List.getElem?_take, List.getElem?_take]
    split
    · have := c3 j (by omega)
      simpa using this
    · rfl
set_option maxHeartbeats 1000000 in
theorem delete_any (w : World) (vp : Value) (x : Int × Option Kd) (p : List (Int × Option Kd)) (h : Past w vp (x :: p)) (hp : p.length < 1000000) :
    Calls Tryz.prog 51 #[vp, .int .i64 (p.length : Int), .int .i64 ((p.length : Int) + 1)] w (fun e w' => ∃ v', e = .returned v' ∧ Past w' v' p ∧ v'.ownBlock = vp.ownBlock ∧ Mod vp.ownBlock.toList w w') := by
  have h' := h
  rcases h'.2 with ⟨_, h0⟩ | ⟨g, cap, cur, rfl, h2, h3, h4, h5, h6, h7⟩
  · simp at h0
  · simp only [List.length_cons] at h h4 h7 ⊢
    obtain ⟨n, hn⟩ : ∃ n, n = p.length := ⟨_, rfl⟩
    have HP := hide h
    have HN := hide hn
    have HW := hide h3
    have HS := hide h6
    rw [← hn] at h4 hp ⊢
    clear h h' h2 h3 h5 h6 h7 hn
    obtain ⟨vc, hvc⟩ := cut_check g n cap (by omega) w
    obtain ⟨A, hA⟩ := cut_tail g (n + 1) cap (by omega) w.drew
    have hA' : (Instr.slice 88 (.slice (some ⟨g, 0, none⟩) (n + 1) cap) (some (.int .i64 ((n : Int) + 1))) none none).run Tryz.prog w.drew = .ok (.slice (some A) 0 (cap - (n + 1))) w.drew := by
      have := hA
      push_cast at this
      exact this
    clear hA
    have hH := cut_head g (n + 1) n cap (by omega) w.drew
    have hO := cut_one g n cap (by omega) w.drew
    have hX := fun ty => append_none g n cap (cap - (n + 1)) A (by omega) w.drew ty
    have HX := hide hX
    have hC := fun ty => clear_step g (n * 4) (cap - n) cur w.drew HW.out (by rw [HS.out]; omega) ty
    have ne : ((n : Int) == (n : Int) + 1) = false := by rw [beq_eq_false_iff_ne]; omega
    clear hX
    go_enter Tryz.func51, Tryz.ntmps51
    go_wp2_with fail
    go_still_tail 6, (by kernel_rfl)
    change wpList _ _ _ _ _ w.drew
    generalize hw : w.drew = w1 at hA' hH hO HX hC ⊢
    have HM := hide (show Mod [g] w w1 by rw [← hw]; exact (Mod.refl _ _).drew)
    have HP1 := hide (show Past w1 (.slice (some ⟨g, 0, none⟩) (n + 1) cap) (x :: p) by rw [← hw, HN.out]; exact HP.out)
    clear hw HW HP
    go_wp2_with (at_builtin; refine Lib.wpList_append_run _ rfl _ _ _ _ rfl _ _ rfl rfl _ _ (HX.out _) ?_)
    go_ret
    refine ⟨_, rfl, ?_, rfl, HM.out.trans (mod_setCells _ _ _) (by simp)⟩
    rw [HN.out] at HP1 ⊢
    exact Past.cut HP1.out _
end Go.Proofs.YtimfeocaghccdaaGreatDoor
