/-
  The document's arena in memory: its block, its list; contracts of Live, uses, next. Conditions: the arena is one, in memory, of not more than a million puts.
-/
import Derived.Test.YtooejagekkgpaaaALaw
namespace Go.Proofs.Ytooejagekkgpaaa
open Go.RowKit
set_option linter.unusedVariables false
set_option linter.unusedSimpArgs false
set_option maxRecDepth 100000

/-- What was put, as cells. -/
def ecv (e : En) : List Value := [.int .i64 (e.s : Int), .int .i64 (e.g : Int), .int .i64 e.x, .bool e.lies, .int .i64 (e.fd : Int)]
def ecs (l : List En) : List Value := (l.map ecv).flatten
theorem ecs_length : ∀ (l : List En), (ecs l).length = l.length * 5
  | [] => rfl
  | o :: l => by
    have := ecs_length l
    simp only [ecs, List.map_cons, List.flatten_cons, List.length_append, List.length_cons] at this ⊢
    rw [this]
    simp [ecv]
    omega
theorem ecs_append (a b : List En) : ecs (a ++ b) = ecs a ++ ecs b := by simp [ecs]
theorem ecs_one (l : List En) : ∀ u ∈ ecs l, u.oneCell' = true := by
  intro u hu
  simp only [ecs, List.mem_flatten, List.mem_map] at hu
  obtain ⟨x, ⟨o, _, rfl⟩, hu⟩ := hu
  simp only [ecv, List.mem_cons, List.not_mem_nil, or_false] at hu
  rcases hu with rfl | rfl | rfl | rfl | rfl <;> rfl
theorem ecs_at : ∀ (l : List En) (j i : Nat) (h : j < l.length), i < 5 → (ecs l)[j * 5 + i]? = (ecv l[j])[i]?
  | [], j, i, h, _ => by simp at h
  | o :: l, 0, i, h, hi => by
    simp only [ecs, List.map_cons, List.flatten_cons, Nat.zero_mul, Nat.zero_add, List.getElem_cons_zero]
    rw [List.getElem?_append_left (by simpa [ecv] using hi)]
  | o :: l, j + 1, i, h, hi => by
    have := ecs_at l j i (by simpa using h) hi
    simp only [ecs, List.map_cons, List.flatten_cons, List.getElem_cons_succ] at this ⊢
    rw [← this, List.getElem?_append_right (by simp [ecv]; omega)]
    congr 1
    simp [ecv]
    omega
/-- The document's arena, its parts in memory. -/
structure Dm (w : World) (g most : Nat) (v : Value) (L : List En) (N : Nat) : Prop where
  blk : w.heap[g]? = some (.cells #[.int .i64 (most : Int), v, .int .i64 (N : Int)] 29 (0, 0))
  row : w.ownsRow 0 35 5 v L.length (ecs L)
theorem Dm.lt {w : World} {g most N : Nat} {v : Value} {L : List En} (h : Dm w g most v L N) : g < w.heap.size := (Array.getElem?_eq_some_iff.1 h.blk).1
theorem Dm.kept {w w' : World} {g most N : Nat} {v : Value} {L : List En} (h : Dm w g most v L N) (hk : ∀ b, b = g ∨ v.ownBlock = some b → w'.heap[b]? = w.heap[b]?) : Dm w' g most v L N :=
  ⟨(hk g (.inl rfl)).trans h.blk, row_kept h.row fun b hb => hk b (.inr hb)⟩
theorem Dm.below {w w' : World} {g most N : Nat} {v : Value} {L : List En} (h : Dm w g most v L N) (hb : Below w.heap.size w w') : Dm w' g most v L N :=
  h.kept fun b hb' => hb.block b (by
    rcases hb' with rfl | hb'
    · exact h.lt
    · exact row_lt h.row hb')
theorem Dm.kp {w w' : World} {g most N : Nat} {v : Value} {L : List En} (h : Dm w g most v L N) (hk : Kp w w') : Dm w' g most v L N :=
  h.kept fun b hb' => by
    rcases hb' with rfl | hb'
    · rw [h.blk]
      exact hk.2 _ _ _ _ h.blk (by decide) (by decide) (by decide)
    · obtain ⟨cur, hc⟩ := row_block h.row hb'
      rw [hc]
      exact hk.2 _ _ _ _ hc (by decide) (by decide) (by decide)
theorem Dm.ne {w : World} {g most N : Nat} {v : Value} {L : List En} (h : Dm w g most v L N) : v.ownBlock ≠ some g := row_ne h.row h.blk (by decide)
theorem Dm.cells {w : World} {g most N : Nat} {v : Value} {L : List En} (h : Dm w g most v L N) : w.cell? ⟨g, 0, none⟩ = some (.int .i64 (most : Int)) ∧ w.cell? ⟨g, 1, none⟩ = some v ∧ w.cell? ⟨g, 2, none⟩ = some (.int .i64 (N : Int)) :=
  ⟨cell_of_row w g 0 _ _ (0, 0) h.blk, cell_of_row w g 1 _ _ (0, 0) h.blk, cell_of_row w g 2 _ _ (0, 0) h.blk⟩
theorem Dm.head {w : World} {g most N : Nat} {v : Value} {L : List En} (h : Dm w g most v L N) (hp : 0 < L.length) : ∃ b c, v = .slice (some ⟨b, 0, none⟩) L.length c ∧ b ≠ g := by
  obtain ⟨b, c, rfl, _, _⟩ := h.row.form hp
  exact ⟨b, c, rfl, fun e => h.ne (by rw [e]; rfl)⟩
theorem Dm.five {w : World} {g most N b c : Nat} {L : List En} (h : Dm w g most (.slice (some ⟨b, 0, none⟩) L.length c) L N) (k : Nat) (hk : k < L.length) :
    w.cell? ⟨b, k * 5, none⟩ = some (.int .i64 (L[k].s : Int)) ∧ w.cell? ⟨b, k * 5 + 1, none⟩ = some (.int .i64 (L[k].g : Int)) ∧ w.cell? ⟨b, k * 5 + 2, none⟩ = some (.int .i64 L[k].x) ∧ w.cell? ⟨b, k * 5 + 3, none⟩ = some (.bool L[k].lies) ∧ w.cell? ⟨b, k * 5 + 4, none⟩ = some (.int .i64 (L[k].fd : Int)) := by
  have hc : ∀ i, i < 5 → w.cell? ⟨b, k * 5 + i, none⟩ = (ecv L[k])[i]? := by
    intro i hi
    rw [h.row.cellAt (k * 5 + i) (by omega), ecs_at L k i hk hi]
  exact ⟨hc 0 (by omega), hc 1 (by omega), hc 2 (by omega), hc 3 (by omega), hc 4 (by omega)⟩
/-! ### Live -/
def LvRel (w : World) (L : List En) (vn vi : Value) (wr : World) : Prop := ∃ k : Nat, k ≤ L.length ∧ vi = .int .i64 (k : Int) ∧ vn = .int .i64 (liN (L.take k) : Int) ∧ Below w.heap.size w wr
theorem liN_le (L : List En) (k : Nat) : liN (L.take k) ≤ k := Nat.le_trans (List.length_filter_le _ _) (by rw [List.length_take]; omega)
set_option maxHeartbeats 1000000 in
theorem rlive_any (g most N : Nat) (v : Value) (L : List En) (hL : L.length ≤ 1000000) (w : World) (h : Dm w g most v L N) : Calls Try.prog 17 #[.pointer (some ⟨g, 0, none⟩)] w (IntRet .i64 (liN L) w) := by
  have H := hide h
  obtain ⟨A, c, rfl⟩ := row_form h.row
  clear h
  go_enter Try.func17, Try.ntmps17
  go_wp2_with fail
  go_loopw [3, 4] (LvRel w L) (fun _ i _ => L.length - (intOf i).toNat)
  case atStart => exact ⟨0, Nat.zero_le _, rfl, rfl, Below.refl _ _⟩
  case round =>
    obtain ⟨k, hk, rfl, rfl, hb⟩ := hrel
    have HB := hide hb
    have hM := H.out.below hb
    obtain ⟨-, y1, -⟩ := hM.cells
    have hle := liN_le L k
    by_cases hlt : k < L.length
    · obtain ⟨b, c', e, hbg⟩ := hM.head (by omega)
      injection e with e1 e2 e3
      subst e1 e3
      obtain ⟨-, -, -, z3, -⟩ := hM.five k hlt
      have i0 : (0 : Int) ≤ (k : Int) := by omega
      have i1 : (k : Int) < (L.length : Int) := by omega
      have HT := hide (liN_take L k hlt)
      obtain ⟨bb, hbb⟩ : ∃ bb, L[k].lies = bb := ⟨_, rfl⟩
      rw [hbb] at z3 HT
      clear hb hM hbb e2
      generalize hn : liN (L.take k) = n at *
      cases bb with
      | true =>
        go_wp2_with fail
        go_roundw
        case rel => exact ⟨k + 1, by omega, by go_num, by rw [HT.out, if_pos rfl]; go_num, HB.out⟩
        case measure => simp [intOf]; omega
      | false =>
        go_wp2_with fail
        go_roundw
        case rel => exact ⟨k + 1, by omega, by go_num, by rw [HT.out]; rfl, HB.out⟩
        case measure => simp [intOf]; omega
    · obtain rfl : k = L.length := by omega
      have E := hide (show liN (L.take L.length) = liN L by rw [List.take_length])
      generalize liN (L.take L.length) = n at *
      clear hb hM
      go_wp2_with fail
      go_ret
      exact ⟨by rw [← E.out]; rfl, HB.out⟩
/-! ### uses -/
def UsRel (w : World) (L : List En) (s : Nat) (vn vl vi : Value) (wr : World) : Prop := ∃ k : Nat, k ≤ L.length ∧ vi = .int .i64 (k : Int) ∧ vn = .int .i64 (usN (L.take k) s : Int) ∧ vl = .bool (usL (L.take k) s) ∧ Below w.heap.size w wr
theorem usN_le (L : List En) (s k : Nat) : usN (L.take k) s ≤ k := Nat.le_trans (List.length_filter_le _ _) (by rw [List.length_take]; omega)
def UsesRet (n : Nat) (b : Bool) (w : World) (e : Ending) (w' : World) : Prop := e = .returned (.tuple #[.int .i64 (n : Int), .bool b]) ∧ Below w.heap.size w w'
set_option maxHeartbeats 1000000 in
theorem ruses_any (g most N : Nat) (v : Value) (L : List En) (hL : L.length ≤ 1000000) (s : Nat) (w : World) (h : Dm w g most v L N) : Calls Try.prog 26 #[.pointer (some ⟨g, 0, none⟩), .int .i64 (s : Int)] w (UsesRet (usN L s) (usL L s) w) := by
  have H := hide h
  obtain ⟨A, c, rfl⟩ := row_form h.row
  clear h
  go_enter Try.func26, Try.ntmps26
  go_wp2_with fail
  go_loopw [6, 7, 8] (UsRel w L s) (fun _ _ i _ => L.length - (intOf i).toNat)
  case atStart => exact ⟨0, Nat.zero_le _, rfl, rfl, rfl, Below.refl _ _⟩
  case round =>
    obtain ⟨k, hk, rfl, rfl, rfl, hb⟩ := hrel
    have HB := hide hb
    have hM := H.out.below hb
    obtain ⟨-, y1, -⟩ := hM.cells
    have hle := usN_le L s k
    by_cases hlt : k < L.length
    · obtain ⟨b, c', e, hbg⟩ := hM.head (by omega)
      injection e with e1 e2 e3
      subst e1 e3
      obtain ⟨z0, -, -, z3, -⟩ := hM.five k hlt
      have i0 : (0 : Int) ≤ (k : Int) := by omega
      have i1 : (k : Int) < (L.length : Int) := by omega
      have HT := hide (usN_take L s k hlt)
      have HU := hide (usL_take L s k hlt)
      clear hb hM e2
      generalize hn : usN (L.take k) s = n at *
      generalize hl : usL (L.take k) s = l at *
      by_cases hs : L[k].s = s
      · have d : ((L[k].s : Int) == (s : Int)) = true := by rw [hs]; simp
        have HT2 := hide (HT.out.trans (if_pos hs))
        have HU2 := hide (HU.out.trans (if_pos hs))
        clear hs HT HU
        generalize L[k].s = s' at *
        generalize L[k].lies = l' at *
        go_wp2_with fail
        go_roundw
        case rel => exact ⟨k + 1, by omega, by go_num, by rw [HT2.out]; go_num, by rw [HU2.out], HB.out⟩
        case measure => simp [intOf]; omega
      · have d : ((L[k].s : Int) == (s : Int)) = false := by simp; omega
        have HT2 := hide (HT.out.trans (if_neg hs))
        have HU2 := hide (HU.out.trans (if_neg hs))
        clear hs HT HU
        generalize L[k].s = s' at *
        go_wp2_with fail
        go_roundw
        case rel => exact ⟨k + 1, by omega, by go_num, by rw [HT2.out], by rw [HU2.out], HB.out⟩
        case measure => simp [intOf]; omega
    · obtain rfl : k = L.length := by omega
      have E := hide (show usN (L.take L.length) s = usN L s by rw [List.take_length])
      have E2 := hide (show usL (L.take L.length) s = usL L s by rw [List.take_length])
      generalize usN (L.take L.length) s = n at *
      generalize usL (L.take L.length) s = l at *
      clear hb hM
      go_wp2_with fail
      go_ret2
      exact ⟨by rw [← E.out, ← E2.out]; rfl, HB.out⟩
end Go.Proofs.Ytooejagekkgpaaa
