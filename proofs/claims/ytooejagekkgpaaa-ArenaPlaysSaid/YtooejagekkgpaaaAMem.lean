/-
  An arena of numbers in memory: its block, its slots, the freed ones. No conditions beyond those that each statement bears.
-/
import Derived.Test.YtooejagekkgpaaaAOnce
import Derived.Test.YtooejagekkgpaaaMod
import Derived.Laws.OwnMore
import Derived.Lib.SmallJoins
import Derived.Deep.AppendLies
namespace Go.Proofs.Ytooejagekkgpaaa
open Go.RowKit
set_option linter.unusedVariables false
set_option linter.unusedSimpArgs false
set_option maxRecDepth 100000

def i64B (n : Int) : Prop := -9223372036854775808 ≤ n ∧ n < 9223372036854775808
/-! ### rows of slots, and of numbers -/
def slc (k : Sl) : List Value := [.int .i64 (k.it.getD 0), .bool k.it.isSome, .int .i64 (k.gen : Int)]
def slcs (l : List Sl) : List Value := (l.map slc).flatten
theorem slcs_cons (x : Sl) (l : List Sl) : slcs (x :: l) = slc x ++ slcs l := rfl
theorem slcs_append (a b : List Sl) : slcs (a ++ b) = slcs a ++ slcs b := by simp [slcs]
theorem slcs_one (l : List Sl) : ∀ u ∈ slcs l, u.oneCell' = true := by
  intro u hu
  simp only [slcs, List.mem_flatten, List.mem_map] at hu
  obtain ⟨x, ⟨o, _, rfl⟩, hu⟩ := hu
  simp only [slc, List.mem_cons, List.not_mem_nil, or_false] at hu
  rcases hu with rfl | rfl | rfl <;> rfl
theorem slcs_get : ∀ (l : List Sl) (k i : Nat) (h : k < l.length) (hi : i < 3), (slcs l)[k * 3 + i]? = (slc l[k])[i]?
  | x :: l, 0, i, h, hi => by
    rw [slcs_cons, List.getElem?_append_left (by simp [slc]; omega)]
    simp
  | x :: l, k + 1, i, h, hi => by
    rw [slcs_cons, List.getElem?_append_right (by simp [slc]; omega), show (k + 1) * 3 + i - (slc x).length = k * 3 + i by simp [slc]; omega]
    rw [slcs_get l k i (by simpa using h) hi]
    simp
theorem slcs_set : ∀ (l : List Sl) (k : Nat) (y : Sl) (h : k < l.length), slcs (l.set k y) = (((slcs l).set (k * 3) (.int .i64 (y.it.getD 0))).set (k * 3 + 1) (.bool y.it.isSome)).set (k * 3 + 2) (.int .i64 (y.gen : Int))
  | x :: l, 0, y, h => by
    rw [List.set_cons_zero, slcs_cons, slcs_cons]
    simp [slc]
  | x :: l, k + 1, y, h => by
    rw [List.set_cons_succ, slcs_cons, slcs_cons, slcs_set l k y (by simpa using h)]
    have e : ∀ (j : Nat) (a : List Value) (v : Value), (slc x ++ a).set ((k + 1) * 3 + j) v = slc x ++ a.set (k * 3 + j) v := fun j a v => by
      rw [List.set_append_right _ _ (by simp [slc]; omega)]
      congr 1
      simp [slc]
      congr 1
      omega
    have e0 := e 0
    simp only [Nat.add_zero] at e0
    rw [e0, e 1, e 2]
theorem slcs_set2 (l : List Sl) (k : Nat) (y : Sl) (h : k < l.length) (hg : y.gen = l[k].gen) : slcs (l.set k y) = ((slcs l).set (k * 3) (.int .i64 (y.it.getD 0))).set (k * 3 + 1) (.bool y.it.isSome) := by
  rw [slcs_set l k y h]
  have h2 : (((slcs l).set (k * 3) (.int .i64 (y.it.getD 0))).set (k * 3 + 1) (.bool y.it.isSome))[k * 3 + 2]? = some (.int .i64 (y.gen : Int)) := by
    rw [List.getElem?_set_ne (by omega), List.getElem?_set_ne (by omega), slcs_get l k 2 h (by omega), hg]
    rfl
  obtain ⟨h3, h4⟩ := List.getElem?_eq_some_iff.1 h2
  rw [← h4]
  exact List.set_getElem_self _
def icl (l : List Nat) : List Value := l.map fun (s : Nat) => .int .i64 (s : Int)
theorem icl_one (l : List Nat) : ∀ u ∈ icl l, u.oneCell' = true := by
  intro u hu
  simp only [icl, List.mem_map] at hu
  obtain ⟨s, _, rfl⟩ := hu
  rfl
theorem slotinfo : (Try.prog.info? 60).map (fun i => (i.zero, i.size, i.bytes)) = some (some (.agg #[.int .i64 0, .bool false, .int .i64 0]), 3, 24) := by kernel_rfl
theorem intinfo : (Try.prog.info? 3).map (fun i => (i.zero, i.size, i.bytes)) = some (some (.int .i64 0), 1, 8) := by kernel_rfl
/-- An arena's parts in memory. -/
structure Am (w : World) (g most : Nat) (vs vf : Value) (A : Ar) : Prop where
  blk : w.heap[g]? = some (.cells #[.int .i64 (most : Int), vs, vf] 57 (0, 0))
  sl : w.ownsRow 0 60 3 vs A.sl.length (slcs A.sl)
  fr : w.ownsRow 0 3 1 vf A.fr.length (icl A.fr.reverse)
/-- An arena in memory: no slot was used more than so often; its blocks. -/
structure An (w : World) (g most U : Nat) (A : Ar) (fs : List Nat) : Prop where
  arw : Arw A
  cnt : A.live + A.fr.length = A.sl.length
  le : A.live ≤ most
  mle : most ≤ 1048576
  use : ∀ k ∈ A.sl, k.gen ≤ U
  len : A.sl.length ≤ U
  mem : ∃ vs vf, Am w g most vs vf A ∧ fs = g :: (vs.ownBlock.toList ++ vf.ownBlock.toList)
theorem row_kept {w w' : World} {base size n : Nat} {e : TypeId} {v : Value} {xs : List Value} (h : w.ownsRow base e size v n xs) (hk : ∀ b, v.ownBlock = some b → w'.heap[b]? = w.heap[b]?) : w'.ownsRow base e size v n xs := by
  refine ⟨h.1, ?_⟩
  rcases h.2 with h0 | ⟨g, cap, cur, rfl, h2, h3, h4⟩
  · exact .inl h0
  · exact .inr ⟨g, cap, cur, rfl, h2, (hk g rfl).trans h3, h4⟩
theorem row_block {w : World} {base size n : Nat} {e : TypeId} {v : Value} {xs : List Value} (h : w.ownsRow base e size v n xs) {b : Nat} (hb : v.ownBlock = some b) : ∃ cur, w.heap[b]? = some (.cells cur e (0, 0)) := by
  rcases h.2 with ⟨rfl, _⟩ | ⟨g, cap, cur, rfl, h2, h3, h4⟩
  · simp [Value.ownBlock] at hb
  · simp [Value.ownBlock] at hb
    subst hb
    exact ⟨cur, h3⟩
theorem row_lt {w : World} {base size n : Nat} {e : TypeId} {v : Value} {xs : List Value} (h : w.ownsRow base e size v n xs) {b : Nat} (hb : v.ownBlock = some b) : b < w.heap.size := by
  obtain ⟨cur, hc⟩ := row_block h hb
  exact (Array.getElem?_eq_some_iff.1 hc).1
theorem row_ne {w : World} {base size n : Nat} {e : TypeId} {v : Value} {xs : List Value} (h : w.ownsRow base e size v n xs) {g : Nat} {cs : Array Value} {t : TypeId} {z : Nat × Nat} (hg : w.heap[g]? = some (.cells cs t z)) (ht : t ≠ e) : v.ownBlock ≠ some g := by
  intro hb
  obtain ⟨cur, hc⟩ := row_block h hb
  rw [hg] at hc
  simp at hc
  exact ht hc.2.1
theorem row_form {w : World} {base size n : Nat} {e : TypeId} {v : Value} {xs : List Value} (h : w.ownsRow base e size v n xs) : ∃ a c, v = .slice a n c := by
  rcases h.2 with ⟨rfl, rfl⟩ | ⟨g, cap, cur, rfl, h2, h3, h4⟩
  · exact ⟨_, _, rfl⟩
  · exact ⟨_, _, rfl⟩
theorem row_le {w : World} {base size n : Nat} {e : TypeId} {a : Option Addr} {m c : Nat} {xs : List Value} (h : w.ownsRow base e size (.slice a m c) n xs) : m ≤ c ∧ c ≤ maxLen := by
  rcases h.2 with ⟨h1, rfl⟩ | ⟨g, cap, cur, h1, h2, h3, h4, h5, h6⟩
  · simp at h1
    obtain ⟨rfl, rfl, rfl⟩ := h1
    simp [maxLen]
  · simp at h1
    obtain ⟨rfl, rfl, rfl⟩ := h1
    exact ⟨h4, h5⟩
theorem Am.cell0 {w : World} {g most : Nat} {vs vf : Value} {A : Ar} (h : Am w g most vs vf A) : w.cell? ⟨g, 0, none⟩ = some (.int .i64 (most : Int)) := cell_of_row w g 0 _ _ (0, 0) h.blk
theorem Am.cell1 {w : World} {g most : Nat} {vs vf : Value} {A : Ar} (h : Am w g most vs vf A) : w.cell? ⟨g, 1, none⟩ = some vs := cell_of_row w g 1 _ _ (0, 0) h.blk
theorem Am.cell2 {w : World} {g most : Nat} {vs vf : Value} {A : Ar} (h : Am w g most vs vf A) : w.cell? ⟨g, 2, none⟩ = some vf := cell_of_row w g 2 _ _ (0, 0) h.blk
theorem Am.free (i : Nat) {w : World} {g most : Nat} {vs vf : Value} {A : Ar} (h : Am w g most vs vf A) : w.frozen? ⟨g, i, none⟩ = false := Joins.unfrozen_of_block h.blk i
theorem Am.lt {w : World} {g most : Nat} {vs vf : Value} {A : Ar} (h : Am w g most vs vf A) : g < w.heap.size := (Array.getElem?_eq_some_iff.1 h.blk).1
theorem Am.neS {w : World} {g most : Nat} {vs vf : Value} {A : Ar} (h : Am w g most vs vf A) : vs.ownBlock ≠ some g := row_ne h.sl h.blk (by decide)
theorem Am.neF {w : World} {g most : Nat} {vs vf : Value} {A : Ar} (h : Am w g most vs vf A) : vf.ownBlock ≠ some g := row_ne h.fr h.blk (by decide)
theorem Am.neSF {w : World} {g most : Nat} {vs vf : Value} {A : Ar} (h : Am w g most vs vf A) {b : Nat} (hb : vs.ownBlock = some b) : vf.ownBlock ≠ some b := by
  obtain ⟨cur, hc⟩ := row_block h.sl hb
  exact row_ne h.fr hc (by decide)
theorem Am.kept {w w' : World} {g most : Nat} {vs vf : Value} {A : Ar} (h : Am w g most vs vf A) (hk : ∀ b, b = g ∨ vs.ownBlock = some b ∨ vf.ownBlock = some b → w'.heap[b]? = w.heap[b]?) : Am w' g most vs vf A :=
  ⟨(hk g (.inl rfl)).trans h.blk, row_kept h.sl fun b hb => hk b (.inr (.inl hb)), row_kept h.fr fun b hb => hk b (.inr (.inr hb))⟩
theorem Am.lts {w : World} {g most : Nat} {vs vf : Value} {A : Ar} (h : Am w g most vs vf A) {b : Nat} (hb : b = g ∨ vs.ownBlock = some b ∨ vf.ownBlock = some b) : b < w.heap.size := by
  rcases hb with rfl | hb | hb
  · exact h.lt
  · exact row_lt h.sl hb
  · exact row_lt h.fr hb
theorem Am.below {w w' : World} {g most : Nat} {vs vf : Value} {A : Ar} (h : Am w g most vs vf A) (hb : Below w.heap.size w w') : Am w' g most vs vf A := h.kept fun b hb' => hb.block b (h.lts hb')
theorem Am.alloc {w : World} {g most : Nat} {vs vf : Value} {A : Ar} (h : Am w g most vs vf A) (o : Obj) : Am (w.alloc o) g most vs vf A := h.below ((Below.refl _ _).alloc (Nat.le_refl _) o)
theorem mem_afs {g b : Nat} {vs vf : Value} : b ∈ g :: (vs.ownBlock.toList ++ vf.ownBlock.toList) ↔ b = g ∨ vs.ownBlock = some b ∨ vf.ownBlock = some b := by
  cases h : vs.ownBlock <;> cases h2 : vf.ownBlock <;> simp [eq_comm]
theorem An.mod {w w' : World} {g most U : Nat} {A : Ar} {fs fs' : List Nat} (h : An w g most U A fs) (hm : Mod fs' w w') (hd : ∀ k ∈ fs, k ∉ fs') : An w' g most U A fs := by
  obtain ⟨h1, h2, h3, h0, h4, h5, vs, vf, h6, rfl⟩ := h
  exact ⟨h1, h2, h3, h0, h4, h5, vs, vf, h6.kept fun b hb => hm.block b (h6.lts hb) (hd b (mem_afs.2 hb)), rfl⟩
theorem An.below {w w' : World} {g most U : Nat} {A : Ar} {fs : List Nat} (h : An w g most U A fs) (hb : Below w.heap.size w w') : An w' g most U A fs :=
  h.mod (fs' := []) (Mod.of_below hb) (by simp)
theorem An.lt {w : World} {g most U : Nat} {A : Ar} {fs : List Nat} (h : An w g most U A fs) : ∀ k ∈ fs, k < w.heap.size := by
  obtain ⟨h1, h2, h3, h0, h4, h5, vs, vf, h6, rfl⟩ := h
  intro k hk
  exact h6.lts (mem_afs.1 hk)
/-- An arena's blocks are an arena's, slots, and numbers. -/
theorem An.kind {w : World} {g most U : Nat} {A : Ar} {fs : List Nat} (h : An w g most U A fs) {k : Nat} (hk : k ∈ fs) : ∃ cs t, w.heap[k]? = some (.cells cs t (0, 0)) ∧ (t = 57 ∨ t = 60 ∨ t = 3) := by
  obtain ⟨h1, h2, h3, h0, h4, h5, vs, vf, h6, rfl⟩ := h
  rcases mem_afs.1 hk with rfl | hb | hb
  · exact ⟨_, _, h6.blk, .inl rfl⟩
  · obtain ⟨cur, hc⟩ := row_block h6.sl hb
    exact ⟨_, _, hc, .inr (.inl rfl)⟩
  · obtain ⟨cur, hc⟩ := row_block h6.fr hb
    exact ⟨_, _, hc, .inr (.inr rfl)⟩
theorem An.apart {w : World} {g most U : Nat} {A : Ar} {fs : List Nat} (h : An w g most U A fs) {k : Nat} {cs : Array Value} {t : TypeId} {z : Nat × Nat} (hc : w.heap[k]? = some (.cells cs t z)) (h1 : t ≠ 57) (h2 : t ≠ 60) (h3 : t ≠ 3) : k ∉ fs := by
  intro hk
  obtain ⟨cs', t', e, ht⟩ := h.kind hk
  rw [hc] at e
  simp at e
  rcases ht with rfl | rfl | rfl
  · exact h1 e.2.1
  · exact h2 e.2.1
  · exact h3 e.2.1
/-- What a call leaves that changes an arena. -/
def AnRet (v : Value) (g most U : Nat) (A : Ar) (fs : List Nat) (w : World) (e : Ending) (w' : World) : Prop :=
  e = .returned v ∧ ∃ fs', An w' g most U A fs' ∧ Mod fs w w' ∧ ∀ k ∈ fs', k ∈ fs ∨ w.heap.size ≤ k
end Go.Proofs.Ytooejagekkgpaaa
