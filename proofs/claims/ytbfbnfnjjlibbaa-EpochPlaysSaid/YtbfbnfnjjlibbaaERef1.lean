/-
  The document's limbo in memory: its block, its three rows; the contract of Waiting. Conditions: the limbo is one, in memory, of not more than a million handles.
-/
import Derived.Test.YtbfbnfnjjlibbaaEHand
namespace Go.Proofs.Ytbfbnfnjjlibbaa
open Go.RowKit Go.Maps
set_option linter.unusedVariables false
set_option linter.unusedSimpArgs false
set_option maxRecDepth 100000

/-- What was retired: its handle, by which epoch, whether it went. -/
structure Rt where
  h : Int × Int
  ep : Nat
  gone : Bool
def rtH (D : List Rt) : List (Int × Int) := D.map (·.h)
def rtB (D : List Rt) : List Value := D.map fun r => .int .i64 (r.ep : Int)
def rtG (D : List Rt) : List Value := D.map fun r => .bool r.gone
theorem rtH_length (D : List Rt) : (rtH D).length = D.length := by simp [rtH]
/-- Those that wait. -/
def wt (D : List Rt) : List (Int × Int) := rtH (D.filter fun r => !r.gone)
theorem wt_take (D : List Rt) (k : Nat) (h : k < D.length) : wt (D.take (k + 1)) = if D[k].gone then wt (D.take k) else wt (D.take k) ++ [D[k].h] := by
  unfold wt rtH
  rw [List.take_succ_eq_append_getElem h, List.filter_append]
  cases hg : D[k].gone <;> simp [hg]
theorem wt_le (D : List Rt) : (wt D).length ≤ D.length := by
  unfold wt
  rw [rtH_length]
  exact List.length_filter_le _ _
structure Lm (w : World) (g now : Nat) (vH vB vG : Value) (D : List Rt) : Prop where
  blk : w.heap[g]? = some (.cells #[.int .i64 (now : Int), vH, vB, vG] 31 (0, 0))
  rH : w.ownsRow 0 43 2 vH D.length (hcs (rtH D))
  rB : w.ownsRow 0 3 1 vB D.length (rtB D)
  rG : w.ownsRow 0 4 1 vG D.length (rtG D)
theorem Lm.lt {w : World} {g now : Nat} {vH vB vG : Value} {D : List Rt} (h : Lm w g now vH vB vG D) : g < w.heap.size := (Array.getElem?_eq_some_iff.1 h.blk).1
theorem Lm.kept {w w' : World} {g now : Nat} {vH vB vG : Value} {D : List Rt} (h : Lm w g now vH vB vG D) (hk : ∀ b, b = g ∨ vH.ownBlock = some b ∨ vB.ownBlock = some b ∨ vG.ownBlock = some b → w'.heap[b]? = w.heap[b]?) : Lm w' g now vH vB vG D :=
  ⟨(hk g (.inl rfl)).trans h.blk, row_kept h.rH fun b hb => hk b (.inr (.inl hb)), row_kept h.rB fun b hb => hk b (.inr (.inr (.inl hb))), row_kept h.rG fun b hb => hk b (.inr (.inr (.inr hb)))⟩
theorem Lm.lts {w : World} {g now : Nat} {vH vB vG : Value} {D : List Rt} (h : Lm w g now vH vB vG D) {b : Nat} (hb : b = g ∨ vH.ownBlock = some b ∨ vB.ownBlock = some b ∨ vG.ownBlock = some b) : b < w.heap.size := by
  rcases hb with rfl | hb | hb | hb
  · exact h.lt
  · exact row_lt h.rH hb
  · exact row_lt h.rB hb
  · exact row_lt h.rG hb
theorem Lm.below {w w' : World} {g now : Nat} {vH vB vG : Value} {D : List Rt} (h : Lm w g now vH vB vG D) (hb : Below w.heap.size w w') : Lm w' g now vH vB vG D := h.kept fun b hb' => hb.block b (h.lts hb')
theorem Lm.cells {w : World} {g now : Nat} {vH vB vG : Value} {D : List Rt} (h : Lm w g now vH vB vG D) : w.cell? ⟨g, 0, none⟩ = some (.int .i64 (now : Int)) ∧ w.cell? ⟨g, 1, none⟩ = some vH ∧ w.cell? ⟨g, 2, none⟩ = some vB ∧ w.cell? ⟨g, 3, none⟩ = some vG :=
  ⟨cell_of_row w g 0 _ _ (0, 0) h.blk, cell_of_row w g 1 _ _ (0, 0) h.blk, cell_of_row w g 2 _ _ (0, 0) h.blk, cell_of_row w g 3 _ _ (0, 0) h.blk⟩
/-- The three rows, where they lie. -/
theorem Lm.at {w : World} {g now : Nat} {vH vB vG : Value} {D : List Rt} (h : Lm w g now vH vB vG D) (hp : 0 < D.length) : ∃ bH cH bB cB bG cG, vH = .slice (some ⟨bH, 0, none⟩) D.length cH ∧ vB = .slice (some ⟨bB, 0, none⟩) D.length cB ∧ vG = .slice (some ⟨bG, 0, none⟩) D.length cG ∧
    ∀ k (hk : k < D.length), w.cell? ⟨bH, k * 2, none⟩ = some (.int .i64 D[k].h.1) ∧ w.cell? ⟨bH, k * 2 + 1, none⟩ = some (.int .i64 D[k].h.2) ∧ w.cell? ⟨bB, k, none⟩ = some (.int .i64 (D[k].ep : Int)) ∧ w.cell? ⟨bG, k, none⟩ = some (.bool D[k].gone) := by
  obtain ⟨bH, cH, rfl, _, _⟩ := h.rH.form hp
  obtain ⟨bB, cB, rfl, _, _⟩ := h.rB.form hp
  obtain ⟨bG, cG, rfl, _, _⟩ := h.rG.form hp
  refine ⟨bH, cH, bB, cB, bG, cG, rfl, rfl, rfl, fun k hk => ⟨?_, ?_, ?_, ?_⟩⟩
  · have := h.rH.cellAt (k * 2 + 0) (by omega)
    rw [hcs_at (rtH D) k 0 (by rw [rtH_length]; exact hk) (by omega)] at this
    simpa [hcv, rtH] using this
  · have := h.rH.cellAt (k * 2 + 1) (by omega)
    rw [hcs_at (rtH D) k 1 (by rw [rtH_length]; exact hk) (by omega)] at this
    simpa [hcv, rtH] using this
  · have := h.rB.cellAt k (by omega)
    simpa [rtB, hk] using this
  · have := h.rG.cellAt k (by omega)
    simpa [rtG, hk] using this
/-- A call answers a new row of handles. -/
def HsRet (l : List (Int × Int)) (w : World) (e : Ending) (w' : World) : Prop := ∃ v, e = .returned v ∧ OwnH w' w.heap.size v l ∧ Below w.heap.size w w'
def WtRel (w : World) (D : List Rt) (vo vi : Value) (wr : World) : Prop := ∃ k : Nat, k ≤ D.length ∧ vi = .int .i64 (k : Int) ∧ OwnH wr w.heap.size vo (wt (D.take k)) ∧ Below w.heap.size w wr
theorem OwnH.one {w : World} {base m c : Nat} {A : Option Addr} {l : List (Int × Int)} {x : Int × Int} (h : OwnH w base (.slice A m c) (l ++ [x])) : m = l.length + 1 := by
  have := row_form h
  obtain ⟨a, c', e⟩ := this
  simp at e
  omega
set_option maxHeartbeats 1000000 in
theorem rwait_any (g now : Nat) (vH vB vG : Value) (D : List Rt) (hn : D.length ≤ 100000) (w : World) (h : Lm w g now vH vB vG D) : Calls Try.prog 18 #[.pointer (some ⟨g, 0, none⟩)] w (HsRet (wt D) w) := by
  have H := hide h
  obtain ⟨aH, cH, rfl⟩ := row_form h.rH
  obtain ⟨aG, cG, rfl⟩ := row_form h.rG
  clear h
  go_enter Try.func18, Try.ntmps18
  go_wp2_with fail
  go_loopw [3, 4] (WtRel w D) (fun _ i _ => D.length - (intOf i).toNat)
  case atStart => exact ⟨0, Nat.zero_le _, rfl, OwnH.nil _ _, Below.refl _ _⟩
  case round =>
    obtain ⟨k, hk, rfl, ho, hb⟩ := hrel
    have HB := hide hb
    have HO := hide ho
    have hM := H.out.below hb
    obtain ⟨-, y1, -, y3⟩ := hM.cells
    have hwl := wt_le (D.take k)
    have hkl : (D.take k).length ≤ k := by rw [List.length_take]; omega
    obtain ⟨ao, co, rfl⟩ := row_form ho
    by_cases hlt : k < D.length
    · obtain ⟨bH, cH', bB, cB, bG, cG', e1, e2, e3, hat⟩ := hM.at (by omega)
      injection e1 with e11 e12 e13
      injection e3 with e31 e32 e33
      subst e11 e13 e31 e33
      obtain ⟨z0, z1, -, z3⟩ := hat k hlt
      have i0 : (0 : Int) ≤ (k : Int) := by omega
      have i1 : (k : Int) < (D.length : Int) := by omega
      have HW := hide (wt_take D k hlt)
      obtain ⟨gg, hgg⟩ : ∃ gg, D[k].gone = gg := ⟨_, rfl⟩
      obtain ⟨⟨p, q⟩, hpq⟩ : ∃ pq, D[k].h = pq := ⟨_, rfl⟩
      rw [hgg] at z3 HW
      rw [hpq] at z0 z1 HW
      simp only at z0 z1
      clear hb ho hM hat hgg hpq e2 e12 e32
      generalize wt (D.take k) = out at *
      cases gg with
      | true =>
        go_wp2_with fail
        go_roundw
        case rel => exact ⟨k + 1, by omega, by go_num, by rw [HW.out, if_pos rfl]; exact HO.out, HB.out⟩
        case measure => simp [intOf]; omega
      | false =>
        have D1 := (Below.refl wr.heap.size wr).alloc (Nat.le_refl _) (.cells #[.int .i64 p, .int .i64 q] 43)
        have OA := hide (HO.out.below D1)
        have NB := hide (Hb.new wr p q).hs
        have B1 := hide (HB.out.trans (D1.mono HB.out.size))
        have hbs := B1.out.size
        clear D1
        go_wp2_with (at_builtin; refine wpList_append_h _ rfl _ _ rfl w.heap.size (.slice ao out.length co) out rfl OA.out (some ⟨wr.heap.size, 0, none⟩) 1 [(p, q)] rfl NB.out (by simp only [List.length_singleton]; omega) hbs ?_; intro A5 c5 w5 hown5 hg5 _; have B5 := hide (B1.out.grown hg5 hbs (fun k hk => (World.ownsRow.lt OA.out k hk).1)); have HO5 := hide hown5; clear hown5 hg5)
        go_roundw
        case rel => exact ⟨k + 1, by omega, by go_num, by rw [HW.out]; simpa using HO5.out, B5.out⟩
        case measure => simp [intOf]; omega
    · obtain rfl : k = D.length := by omega
      have E := hide (show wt (D.take D.length) = wt D by rw [List.take_length])
      clear hb ho hM
      generalize wt (D.take D.length) = out at *
      go_wp2_with fail
      go_ret
      exact ⟨_, rfl, by rw [← E.out]; exact HO.out, HB.out⟩
end Go.Proofs.Ytbfbnfnjjlibbaa
