/-
  An arena of nodes in memory: its block, its slots, the freed ones. No conditions beyond those that each statement bears.
-/
import Derived.Test.YtcckamajiebgeaaNAOnce
import Derived.Test.YtcckamajiebgeaaHRow
import Derived.Laws.OwnMore
import Derived.Lib.SmallJoins
import Derived.Deep.AppendLies
namespace Go.Proofs.Ytcckamajiebgeaa
open Go.RowKit
set_option linter.unusedVariables false
set_option linter.unusedSimpArgs false
set_option maxRecDepth 100000

/-! ### rows of slots, and of numbers -/
def ndc (n : Nd) : List Value := [.int .i64 n.k, .int .i64 n.v, .int .i64 n.l.1, .int .i64 n.l.2, .int .i64 n.r.1, .int .i64 n.r.2, .int .i64 n.h]
def slc (k : Sl) : List Value := ndc (k.it.getD ndz) ++ [.bool k.it.isSome, .int .i64 (k.gen : Int)]
def slcs (l : List Sl) : List Value := (l.map slc).flatten
theorem ndc_length (n : Nd) : (ndc n).length = 7 := rfl
theorem ndc_one (n : Nd) : ∀ u ∈ ndc n, u.oneCell' = true := by
  intro u hu
  simp only [ndc, List.mem_cons, List.not_mem_nil, or_false] at hu
  rcases hu with rfl | rfl | rfl | rfl | rfl | rfl | rfl <;> rfl
theorem slc_length (k : Sl) : (slc k).length = 9 := rfl
theorem slcs_cons (x : Sl) (l : List Sl) : slcs (x :: l) = slc x ++ slcs l := rfl
theorem slcs_append (a b : List Sl) : slcs (a ++ b) = slcs a ++ slcs b := by simp [slcs]
theorem slcs_one (l : List Sl) : ∀ u ∈ slcs l, u.oneCell' = true := by
  intro u hu
  simp only [slcs, List.mem_flatten, List.mem_map] at hu
  obtain ⟨x, ⟨o, _, rfl⟩, hu⟩ := hu
  rcases List.mem_append.1 hu with hu | hu
  · exact ndc_one _ u hu
  · simp only [List.mem_cons, List.not_mem_nil, or_false] at hu
    rcases hu with rfl | rfl <;> rfl
theorem slcs_get : ∀ (l : List Sl) (k i : Nat) (h : k < l.length) (hi : i < 9), (slcs l)[k * 9 + i]? = (slc l[k])[i]?
  | x :: l, 0, i, h, hi => by
    rw [slcs_cons, List.getElem?_append_left (by rw [slc_length]; omega)]
    simp
  | x :: l, k + 1, i, h, hi => by
    rw [slcs_cons, List.getElem?_append_right (by rw [slc_length]; omega), show (k + 1) * 9 + i - (slc x).length = k * 9 + i by rw [slc_length]; omega]
    rw [slcs_get l k i (by simpa using h) hi]
    simp
theorem slcs_len : ∀ (l : List Sl), (slcs l).length = l.length * 9
  | [] => rfl
  | x :: l => by
    rw [slcs_cons, List.length_append, slcs_len l, slc_length, List.length_cons]
    omega
/-- A slot is another one. -/
theorem slcs_set (l : List Sl) (k : Nat) (y : Sl) (h : k < l.length) : slcs (l.set k y) = (slcs l).take (k * 9) ++ slc y ++ (slcs l).drop (k * 9 + 9) := by
  have e1 : l = l.take k ++ l[k] :: l.drop (k + 1) := by rw [← List.drop_eq_getElem_cons h, List.take_append_drop]
  have e2 : l.set k y = l.take k ++ y :: l.drop (k + 1) := by
    rw [List.set_eq_take_append_cons_drop, if_pos h]
  have l1 : (slcs (l.take k)).length = k * 9 := by rw [slcs_len, List.length_take, Nat.min_eq_left (Nat.le_of_lt h)]
  have s1 : slcs l = slcs (l.take k) ++ (slc l[k] ++ slcs (l.drop (k + 1))) := by
    conv => lhs; rw [e1]
    rw [slcs_append, slcs_cons]
  have d1 : (slcs (l.take k) ++ (slc l[k] ++ slcs (l.drop (k + 1)))).drop (k * 9 + 9) = slcs (l.drop (k + 1)) := by
    rw [← List.append_assoc]
    exact List.drop_left' (by rw [List.length_append, l1, slc_length])
  rw [e2, slcs_append, slcs_cons, s1, List.take_left' l1, d1, List.append_assoc]
def icl (l : List Nat) : List Value := l.map fun (s : Nat) => .int .i64 (s : Int)
theorem icl_one (l : List Nat) : ∀ u ∈ icl l, u.oneCell' = true := by
  intro u hu
  simp only [icl, List.mem_map] at hu
  obtain ⟨s, _, rfl⟩ := hu
  rfl
theorem slotinfo : (Try.prog.info? 95).map (fun i => (i.zero, i.size, i.bytes)) = some (some (.agg #[.int .i64 0, .int .i64 0, .int .i64 0, .int .i64 0, .int .i64 0, .int .i64 0, .int .i64 0, .bool false, .int .i64 0]), 9, 72) := by kernel_rfl
theorem ndinfo : (Try.prog.info? 60).map (fun i => (i.zero, i.size, i.bytes)) = some (some (.agg #[.int .i64 0, .int .i64 0, .int .i64 0, .int .i64 0, .int .i64 0, .int .i64 0, .int .i64 0]), 7, 56) := by kernel_rfl
theorem intinfo : (Try.prog.info? 3).map (fun i => (i.zero, i.size, i.bytes)) = some (some (.int .i64 0), 1, 8) := by kernel_rfl
/-- An arena's parts in memory. -/
structure Am (w : World) (g most : Nat) (vs vf : Value) (A : Ar) : Prop where
  blk : w.heap[g]? = some (.cells #[.int .i64 (most : Int), vs, vf] 85 (0, 0))
  sl : w.ownsRow 0 95 9 vs A.sl.length (slcs A.sl)
  fr : w.ownsRow 0 3 1 vf A.fr.length (icl A.fr.reverse)
/-- An arena in memory: no slot was used more than so often; its blocks. -/
structure An (w : World) (g most U : Nat) (A : Ar) (fs : List Nat) : Prop where
  arw : Arw A
  cnt : A.live + A.fr.length = A.sl.length
  le : A.live ≤ most
  mle : most ≤ 1048576
  use : ∀ k ∈ A.sl, k.gen ≤ U
  len : A.sl.length ≤ U
  mem : ∃ vs vf, Am w g most vs vf A ∧ fs = g :: (vs.ownBlock.toList ++ vf.ownBlock.toList)
theorem Am.cell0 {w : World} {g most : Nat} {vs vf : Value} {A : Ar} (h : Am w g most vs vf A) : w.cell? ⟨g, 0, none⟩ = some (.int .i64 (most : Int)) := cell_of_row w g 0 _ _ (0, 0) h.blk
theorem Am.cell1 {w : World} {g most : Nat} {vs vf : Value} {A : Ar} (h : Am w g most vs vf A) : w.cell? ⟨g, 1, none⟩ = some vs := cell_of_row w g 1 _ _ (0, 0) h.blk
theorem Am.cell2 {w : World} {g most : Nat} {vs vf : Value} {A : Ar} (h : Am w g most vs vf A) : w.cell? ⟨g, 2, none⟩ = some vf := cell_of_row w g 2 _ _ (0, 0) h.blk
theorem Am.free (i : Nat) {w : World} {g most : Nat} {vs vf : Value} {A : Ar} (h : Am w g most vs vf A) : w.frozen? ⟨g, i, none⟩ = false := Joins.unfrozen_of_block h.blk i
theorem Am.lt {w : World} {g most : Nat} {vs vf : Value} {A : Ar} (h : Am w g most vs vf A) : g < w.heap.size := (Array.getElem?_eq_some_iff.1 h.blk).1
theorem Am.neS {w : World} {g most : Nat} {vs vf : Value} {A : Ar} (h : Am w g most vs vf A) : vs.ownBlock ≠ some g := row_ne h.sl h.blk (by decide)
theorem Am.neF {w : World} {g most : Nat} {vs vf : Value} {A : Ar} (h : Am w g most vs vf A) : vf.ownBlock ≠ some g := row_ne h.fr h.blk (by decide)
theorem Am.neSF {w : World} {g most : Nat} {vs vf : Value} {A : Ar} (h : Am w g most vs vf A) {b : Nat} (hb : vs.ownBlock = some b) : vf.ownBlock ≠ some b := by
  obtain ⟨cur, hc⟩ := row_block h.sl hb
  exact row_ne h.fr hc (by decide)
theorem Am.kept {w w' : World} {g most : Nat} {vs vf : Value} {A : Ar} (h : Am w g most vs vf A) (hk : ∀ b, b = g ∨ vs.ownBlock = some b ∨ vf.ownBlock = some b → w'.heap[b]? = w.heap[b]?) : Am w' g most vs vf A :=
  ⟨(hk g (.inl rfl)).trans h.blk, row_kept h.sl fun b hb => hk b (.inr (.inl hb)), row_kept h.fr fun b hb => hk b (.inr (.inr hb))⟩
theorem Am.lts {w : World} {g most : Nat} {vs vf : Value} {A : Ar} (h : Am w g most vs vf A) {b : Nat} (hb : b = g ∨ vs.ownBlock = some b ∨ vf.ownBlock = some b) : b < w.heap.size := by
  rcases hb with rfl | hb | hb
  · exact h.lt
  · exact row_lt h.sl hb
  · exact row_lt h.fr hb
theorem Am.below {w w' : World} {g most : Nat} {vs vf : Value} {A : Ar} (h : Am w g most vs vf A) (hb : Below w.heap.size w w') : Am w' g most vs vf A := h.kept fun b hb' => hb.block b (h.lts hb')
theorem Am.alloc {w : World} {g most : Nat} {vs vf : Value} {A : Ar} (h : Am w g most vs vf A) (o : Obj) : Am (w.alloc o) g most vs vf A := h.below ((Below.refl _ _).alloc (Nat.le_refl _) o)
theorem mem_afs {g b : Nat} {vs vf : Value} : b ∈ g :: (vs.ownBlock.toList ++ vf.ownBlock.toList) ↔ b = g ∨ vs.ownBlock = some b ∨ vf.ownBlock = some b := by
  cases h : vs.ownBlock <;> cases h2 : vf.ownBlock <;> simp [eq_comm]
theorem An.mod {w w' : World} {g most U : Nat} {A : Ar} {fs fs' : List Nat} (h : An w g most U A fs) (hm : Mod fs' w w') (hd : ∀ k ∈ fs, k ∉ fs') : An w' g most U A fs := by
  obtain ⟨h1, h2, h3, h0, h4, h5, vs, vf, h6, rfl⟩ := h
  exact ⟨h1, h2, h3, h0, h4, h5, vs, vf, h6.kept fun b hb => hm.block b (h6.lts hb) (hd b (mem_afs.2 hb)), rfl⟩
theorem An.below {w w' : World} {g most U : Nat} {A : Ar} {fs : List Nat} (h : An w g most U A fs) (hb : Below w.heap.size w w') : An w' g most U A fs :=
  h.mod (fs' := []) (Mod.of_below hb) (by simp)
theorem An.lt {w : World} {g most U : Nat} {A : Ar} {fs : List Nat} (h : An w g most U A fs) : ∀ k ∈ fs, k < w.heap.size := by
  obtain ⟨h1, h2, h3, h0, h4, h5, vs, vf, h6, rfl⟩ := h
  intro k hk
  exact h6.lts (mem_afs.1 hk)
/-- An arena's blocks are an arena's, slots, and numbers. -/
theorem An.kind {w : World} {g most U : Nat} {A : Ar} {fs : List Nat} (h : An w g most U A fs) {k : Nat} (hk : k ∈ fs) : ∃ cs t, w.heap[k]? = some (.cells cs t (0, 0)) ∧ (t = 85 ∨ t = 95 ∨ t = 3) := by
  obtain ⟨h1, h2, h3, h0, h4, h5, vs, vf, h6, rfl⟩ := h
  rcases mem_afs.1 hk with rfl | hb | hb
  · exact ⟨_, _, h6.blk, .inl rfl⟩
  · obtain ⟨cur, hc⟩ := row_block h6.sl hb
    exact ⟨_, _, hc, .inr (.inl rfl)⟩
  · obtain ⟨cur, hc⟩ := row_block h6.fr hb
    exact ⟨_, _, hc, .inr (.inr rfl)⟩
theorem An.apart {w : World} {g most U : Nat} {A : Ar} {fs : List Nat} (h : An w g most U A fs) {k : Nat} {cs : Array Value} {t : TypeId} {z : Nat × Nat} (hc : w.heap[k]? = some (.cells cs t z)) (h1 : t ≠ 85) (h2 : t ≠ 95) (h3 : t ≠ 3) : k ∉ fs := by
  intro hk
  obtain ⟨cs', t', e, ht⟩ := h.kind hk
  rw [hc] at e
  simp at e
  rcases ht with rfl | rfl | rfl
  · exact h1 e.2.1
  · exact h2 e.2.1
  · exact h3 e.2.1
/-- What a call leaves that changes an arena. -/
def AnRet (v : Value) (g most U : Nat) (A : Ar) (fs : List Nat) (w : World) (e : Ending) (w' : World) : Prop :=
  e = .returned v ∧ ∃ fs', An w' g most U A fs' ∧ Mod fs w w' ∧ ∀ k ∈ fs', k ∈ fs ∨ w.heap.size ≤ k
end Go.Proofs.Ytcckamajiebgeaa
