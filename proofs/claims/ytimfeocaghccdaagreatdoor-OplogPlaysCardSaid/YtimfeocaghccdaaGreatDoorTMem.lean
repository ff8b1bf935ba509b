/-
  A tree in memory: its block, its map of spots, what it remembers; which blocks belong to it, and that what is done to it leaves all others as they were. No conditions beyond those that each statement bears.
-/
import Derived.Test.YtimfeocaghccdaaGreatDoorTMap
import Derived.Laws.AppendOwn
import Derived.Lib.SmallJoins
namespace Go.Proofs.YtimfeocaghccdaaGreatDoor
set_option maxRecDepth 100000
open Go.RowKit Go.Maps
set_option linter.unusedVariables false
set_option maxRecDepth 100000

/-- But for some blocks, and new ones, the world is as it was. -/
structure Mod (fs : List Nat) (w w' : World) : Prop where
  os : w'.os = w.os
  tape : w'.tape = w.tape
  output : w'.output = w.output
  size : w.heap.size ≤ w'.heap.size
  block : ∀ k, k < w.heap.size → k ∉ fs → w'.heap[k]? = w.heap[k]?
theorem Mod.refl (fs : List Nat) (w : World) : Mod fs w w := ⟨rfl, rfl, rfl, Nat.le_refl _, fun _ _ _ => rfl⟩
theorem Mod.of_below {fs : List Nat} {w w' : World} (h : Below w.heap.size w w') : Mod fs w w' := ⟨h.os, h.tape, h.output, h.size, fun k hk _ => h.block k hk⟩
theorem Mod.of_grown {fs : List Nat} {w w' : World} {row : Option Nat} (h : w.grownBy w' row) (hr : ∀ k, row = some k → k ∈ fs) : Mod fs w w' :=
  ⟨h.os, h.tape, h.output, h.size, fun k hk hn => h.block k hk (fun e => hn (hr k e.symm))⟩
theorem Mod.trans {fs fs' : List Nat} {a b c : World} (h : Mod fs a b) (h' : Mod fs' b c) (hs : ∀ k ∈ fs', k ∈ fs ∨ a.heap.size ≤ k) : Mod fs a c :=
  ⟨h'.os.trans h.os, h'.tape.trans h.tape, h'.output.trans h.output, Nat.le_trans h.size h'.size, fun k hk hn =>
    (h'.block k (Nat.lt_of_lt_of_le hk h.size) (fun hk' => by
      rcases hs k hk' with h1 | h1
      · exact hn h1
      · omega)).trans (h.block k hk hn)⟩
theorem Mod.below {fs : List Nat} {B : Nat} {w w' : World} (h : Mod fs w w') (hB : B ≤ w.heap.size) (hs : ∀ k ∈ fs, B ≤ k) : Below B w w' :=
  ⟨h.os, h.tape, h.output, h.size, fun k hk => h.block k (by omega) (fun hk' => by have := hs k hk'; omega)⟩
theorem Mod.alloc {fs : List Nat} {a w : World} (h : Mod fs a w) (o : Obj) : Mod fs a (w.alloc o) :=
  h.trans (fs' := []) (Mod.of_below ((Below.refl _ _).alloc (Nat.le_refl _) o)) (by simp)
theorem Mod.setCell {fs : List Nat} {a w : World} (h : Mod fs a w) {p : Addr} (hp : p.block ∈ fs ∨ a.heap.size ≤ p.block) (u : Value) : Mod fs a (w.setCell p u) :=
  h.trans (fs' := [p.block]) ⟨rfl, rfl, rfl, by simp [World.setCell], fun k hk hn => Below.heap_setCell _ _ _ _ (by simpa using hn)⟩ (by simpa using hp)
theorem Mod.drew {fs : List Nat} {a w : World} (h : Mod fs a w) : Mod fs a w.drew := ⟨h.os, h.tape, h.output, h.size, h.block⟩

/-- What is remembered of an operation, as cells. -/
def stc (x : Int × Option Kd) : List Value := [.int .i64 x.1, .bool (spI x.2), .int .i64 (spT x.2), .string (bs (spN x.2))]
def stcs (p : List (Int × Option Kd)) : List Value := (p.map stc).flatten
theorem stcs_length : ∀ (p : List (Int × Option Kd)), (stcs p).length = p.length * 4
  | [] => rfl
  | x :: p => by
    have := stcs_length p
    simp only [stcs, List.map_cons, List.flatten_cons, List.length_append, List.length_cons] at this ⊢
    rw [this]
    simp [stc]
    omega
theorem stcs_append (a b : List (Int × Option Kd)) : stcs (a ++ b) = stcs a ++ stcs b := by simp [stcs]
theorem stcs_one (p : List (Int × Option Kd)) : ∀ u ∈ stcs p, u.oneCell' = true := by
  intro u hu
  simp only [stcs, List.mem_flatten, List.mem_map] at hu
  obtain ⟨x, ⟨o, _, rfl⟩, hu⟩ := hu
  simp only [stc, List.mem_cons, List.not_mem_nil, or_false] at hu
  rcases hu with rfl | rfl | rfl | rfl <;> rfl
theorem stepinfo : (Tryz.prog.info? 93).map (fun i => (i.zero, i.size, i.bytes)) = some (some (.agg #[.int .i64 0, .bool false, .int .i64 0, .string ⟨#[]⟩]), 4, 40) := by kernel_rfl
/-- A row of what is remembered. -/
def Past (w : World) (v : Value) (p : List (Int × Option Kd)) : Prop := w.ownsRow 0 93 4 v p.length (stcs p.reverse)
theorem Past.kept {w w' : World} {v : Value} {p : List (Int × Option Kd)} (h : Past w v p) (hk : ∀ b, v.ownBlock = some b → w'.heap[b]? = w.heap[b]?) : Past w' v p := by
  refine ⟨h.1, ?_⟩
  rcases h.2 with h0 | ⟨g, cap, cur, rfl, h2, h3, h4⟩
  · exact .inl h0
  · exact .inr ⟨g, cap, cur, rfl, h2, (hk g rfl).trans h3, h4⟩
theorem Past.lt {w : World} {v : Value} {p : List (Int × Option Kd)} (h : Past w v p) {b : Nat} (hb : v.ownBlock = some b) : b < w.heap.size := by
  rcases h.2 with ⟨rfl, _⟩ | ⟨g, cap, cur, rfl, h2, h3, h4⟩
  · simp [Value.ownBlock] at hb
  · simp [Value.ownBlock] at hb
    subst hb
    exact (Array.getElem?_eq_some_iff.1 h3).1
/-- The tree's parts in memory. -/
structure Tm (w : World) (g bm : Nat) (vp : Value) (L : List Kd) (p : List (Int × Option Kd)) : Prop where
  blk : w.heap[g]? = some (.cells #[.map (some bm), vp] 91 (0, 0))
  map : Mp w bm L
  past : Past w vp p
/-- A tree, as it is and as it was, in memory; its blocks. -/
structure Tr (w : World) (g : Nat) (L : List Kd) (r : List (List Kd)) (fs : List Nat) : Prop where
  hst : Hst L r
  mem : ∃ bm vp p, Tm w g bm vp L p ∧ Stp L r p ∧ fs = g :: bm :: vp.ownBlock.toList
theorem Tm.cell0 {w : World} {g bm : Nat} {vp : Value} {L : List Kd} {p : List (Int × Option Kd)} (h : Tm w g bm vp L p) : w.cell? ⟨g, 0, none⟩ = some (.map (some bm)) := cell_of_row w g 0 _ _ (0, 0) h.blk
theorem Tm.cell1 {w : World} {g bm : Nat} {vp : Value} {L : List Kd} {p : List (Int × Option Kd)} (h : Tm w g bm vp L p) : w.cell? ⟨g, 1, none⟩ = some vp := cell_of_row w g 1 _ _ (0, 0) h.blk
theorem Tm.free1 {w : World} {g bm : Nat} {vp : Value} {L : List Kd} {p : List (Int × Option Kd)} (h : Tm w g bm vp L p) : w.frozen? ⟨g, 1, none⟩ = false := Joins.unfrozen_of_block h.blk 1
theorem Tm.lt {w : World} {g bm : Nat} {vp : Value} {L : List Kd} {p : List (Int × Option Kd)} (h : Tm w g bm vp L p) : g < w.heap.size := (Array.getElem?_eq_some_iff.1 h.blk).1
theorem Tm.ne {w : World} {g bm : Nat} {vp : Value} {L : List Kd} {p : List (Int × Option Kd)} (h : Tm w g bm vp L p) : g ≠ bm := by
  rintro rfl
  obtain ⟨es, c, hb, _⟩ := h.map
  rw [h.blk] at hb
  cases hb
theorem Past.block {w : World} {v : Value} {p : List (Int × Option Kd)} (h : Past w v p) {b : Nat} (hb : v.ownBlock = some b) : ∃ cur, w.heap[b]? = some (.cells cur 93 (0, 0)) := by
  rcases h.2 with ⟨rfl, _⟩ | ⟨g, cap, cur, rfl, h2, h3, h4⟩
  · simp [Value.ownBlock] at hb
  · simp [Value.ownBlock] at hb
    subst hb
    exact ⟨cur, h3⟩
theorem Tm.neP {w : World} {g bm : Nat} {vp : Value} {L : List Kd} {p : List (Int × Option Kd)} (h : Tm w g bm vp L p) {b : Nat} (hb : vp.ownBlock = some b) : b ≠ g ∧ b ≠ bm := by
  obtain ⟨cur, hc⟩ := h.past.block hb
  constructor
  · rintro rfl
    rw [h.blk] at hc
    simp at hc
  · rintro rfl
    obtain ⟨es, c, hb', _⟩ := h.map
    rw [hc] at hb'
    cases hb'
theorem Tm.kept {w w' : World} {g bm : Nat} {vp : Value} {L : List Kd} {p : List (Int × Option Kd)} (h : Tm w g bm vp L p) (hk : ∀ b, b = g ∨ b = bm ∨ vp.ownBlock = some b → w'.heap[b]? = w.heap[b]?) : Tm w' g bm vp L p :=
  ⟨(hk g (.inl rfl)).trans h.blk, h.map.kept (hk bm (.inr (.inl rfl))), h.past.kept fun b hb => hk b (.inr (.inr hb))⟩
theorem Tm.lts {w : World} {g bm : Nat} {vp : Value} {L : List Kd} {p : List (Int × Option Kd)} (h : Tm w g bm vp L p) {b : Nat} (hb : b = g ∨ b = bm ∨ vp.ownBlock = some b) : b < w.heap.size := by
  rcases hb with rfl | rfl | hb
  · exact h.lt
  · exact h.map.lt
  · exact h.past.lt hb
theorem Tm.below {w w' : World} {g bm : Nat} {vp : Value} {L : List Kd} {p : List (Int × Option Kd)} (h : Tm w g bm vp L p) (hb : Below w.heap.size w w') : Tm w' g bm vp L p :=
  h.kept fun b hb' => hb.block b (h.lts hb')
theorem Tm.alloc {w : World} {g bm : Nat} {vp : Value} {L : List Kd} {p : List (Int × Option Kd)} (h : Tm w g bm vp L p) (o : Obj) : Tm (w.alloc o) g bm vp L p := h.below ((Below.refl _ _).alloc (Nat.le_refl _) o)
theorem mem_fs {g bm b : Nat} {vp : Value} : b ∈ g :: bm :: vp.ownBlock.toList ↔ b = g ∨ b = bm ∨ vp.ownBlock = some b := by
  cases h : vp.ownBlock <;> simp
  simp [eq_comm]
theorem Tr.mod {w w' : World} {g : Nat} {L : List Kd} {r : List (List Kd)} {fs fs' : List Nat} (h : Tr w g L r fs) (hm : Mod fs' w w') (hd : ∀ k ∈ fs, k ∉ fs') : Tr w' g L r fs := by
  obtain ⟨h1, bm, vp, p, h2, h3, rfl⟩ := h
  exact ⟨h1, bm, vp, p, h2.kept fun b hb => hm.block b (h2.lts hb) (hd b (mem_fs.2 hb)), h3, rfl⟩
theorem Tr.below {w w' : World} {g : Nat} {L : List Kd} {r : List (List Kd)} {fs : List Nat} (h : Tr w g L r fs) (hb : Below w.heap.size w w') : Tr w' g L r fs :=
  h.mod (fs' := []) (Mod.of_below hb) (by simp)
theorem Tr.lt {w : World} {g : Nat} {L : List Kd} {r : List (List Kd)} {fs : List Nat} (h : Tr w g L r fs) : ∀ k ∈ fs, k < w.heap.size := by
  obtain ⟨h1, bm, vp, p, h2, h3, rfl⟩ := h
  intro k hk
  exact h2.lts (mem_fs.1 hk)
/-- What a call leaves that changes a tree. -/
def TrRet (v : Value) (g : Nat) (L : List Kd) (r : List (List Kd)) (fs : List Nat) (w : World) (e : Ending) (w' : World) : Prop :=
  e = .returned v ∧ ∃ fs', Tr w' g L r fs' ∧ Mod fs w w' ∧ ∀ k ∈ fs', k ∈ fs ∨ w.heap.size ≤ k
theorem ret_val {a b : Value} (h : a = b) : Ending.returned a = .returned b := by rw [h]
theorem Tr.ok {w : World} {g : Nat} {L : List Kd} {r : List (List Kd)} {fs : List Nat} (h : Tr w g L r fs) : Ok L := h.hst.wf.ok
end Go.Proofs.YtimfeocaghccdaaGreatDoor
