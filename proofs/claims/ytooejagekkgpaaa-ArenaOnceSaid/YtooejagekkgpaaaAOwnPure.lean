/-
  ArenaOwn: what lies in an arena into which numbers were put, some of them freed; rows of numbers that came in, rows of truths. No conditions beyond those that each statement bears.
-/
import Derived.Test.YtooejagekkgpaaaAHand
import Derived.OwnWalk
import Derived.Laws.MakeOwn
namespace Go.Proofs.Ytooejagekkgpaaa
open Go.RowKit Go.Maps
set_option linter.unusedVariables false
set_option linter.unusedSimpArgs false
set_option maxRecDepth 100000

/-- The elements of a slice of numbers that came in. -/
structure IntAt (k : IntKind) (w : World) (a : Option Addr) (len : Nat) (ls : List Int) : Prop where
  leq : ls.length = len
  wf : ∀ x ∈ ls, (Lit.int k x).wf = true
  lit : 0 < len → ∃ b o, a = some ⟨b, o, none⟩ ∧ ∀ j (h : j < ls.length), w.cell? ⟨b, o + j, none⟩ = some (.int k ls[j])
theorem IsRow.ints {k : IntKind} {w : World} {a : Option Addr} {len cap : Nat} {zs : List Int} (h : IsRow k w a len cap zs) : len ≤ cap ∧ cap ≤ maxLen ∧ ∃ ls, IntAt k w a len ls := by
  rcases h with ⟨rfl, rfl, rfl, rfl⟩ | ⟨x, rfl, hl, hm, hz, hcell, hwf⟩
  · exact ⟨Nat.le_refl _, by simp [maxLen], [], rfl, by simp, fun h => by omega⟩
  · refine ⟨hl, hm, zs.take len, by rw [List.length_take]; omega, fun y hy => hwf y (List.mem_of_mem_take hy), fun hp => ?_⟩
    have hc : ∀ j (h : j < (zs.take len).length), w.cell? (x.add j) = some (.int k (zs.take len)[j]) := fun j h => by
      rw [List.length_take] at h
      have hj : j < zs.length := by omega
      rw [hcell j hj]
      simp [List.getD, List.getElem?_eq_getElem hj]
    obtain ⟨b, o, spot⟩ := x
    have h0 := hc 0 (by rw [List.length_take]; omega)
    have hspot : spot = none := by simpa [Addr.add] using World.cell?_spot h0
    subst hspot
    refine ⟨b, o, rfl, fun j h => ?_⟩
    have := hc j h
    rwa [Addr.add_lit] at this
theorem IntAt.below {k : IntKind} {w w' : World} {a : Option Addr} {len : Nat} {ls : List Int} (h : IntAt k w a len ls) (hb : Below w.heap.size w w') : IntAt k w' a len ls :=
  ⟨h.leq, h.wf, fun hp => by
    obtain ⟨b, o, e, hc⟩ := h.lit hp
    exact ⟨b, o, e, fun j hj => cell_b hb (hc j hj)⟩⟩
/-! ### an arena into which numbers were put -/
def pA (l : List Int) : Ar := ⟨l.map fun x => ⟨1, some x⟩, []⟩
theorem pA_nxt (l : List Int) : (pA l).nxt = (l.length + 1, 1) := by simp [pA, Ar.nxt]
theorem pA_put (l : List Int) (x : Int) : (pA l).put x = pA (l ++ [x]) := by simp [pA, Ar.put]
theorem pA_live (l : List Int) : (pA l).live = l.length := by
  unfold pA Ar.live
  rw [List.filter_eq_self.2]
  · simp
  · intro a ha
    obtain ⟨x, _, rfl⟩ := List.mem_map.1 ha
    rfl
/-- Its slots, when some were freed. -/
def qS (l : List Int) (g : List Bool) : List Sl := List.zipWith (fun x b => ⟨1, if b then none else some x⟩) l g
theorem qS_at {l : List Int} {g : List Bool} (hl : g.length = l.length) (k : Nat) (hk : k < l.length) : (qS l g)[k]? = some ⟨1, if g[k]'(by omega) then none else some l[k]⟩ := by
  unfold qS
  rw [List.getElem?_zipWith, List.getElem?_eq_getElem hk, List.getElem?_eq_getElem (show k < g.length by omega)]
theorem qS_none (l : List Int) : qS l (List.replicate l.length false) = (pA l).sl := by
  apply List.ext_getElem?
  intro k
  by_cases hk : k < l.length
  · rw [qS_at (by simp) k hk]
    simp [pA, hk]
  · rw [List.getElem?_eq_none (by simp [qS]; omega), List.getElem?_eq_none (by simp [pA]; omega)]
theorem qS_set {l : List Int} {g : List Bool} (hl : g.length = l.length) (k : Nat) (hk : k < l.length) : (qS l g).set k ⟨1, none⟩ = qS l (g.set k true) := by
  apply List.ext_getElem?
  intro j
  by_cases hj : j < l.length
  · rw [qS_at (by simpa using hl) j hj, List.getElem?_set]
    by_cases e : k = j
    · subst e
      have : k < (qS l g).length := by simp [qS]; omega
      simp [this]
    · rw [if_neg e, qS_at hl j hj]
      simp [List.getElem_set_ne e]
  · rw [List.getElem?_eq_none (by simp [qS]; omega), List.getElem?_eq_none (by simp [qS]; omega)]
theorem qS_get {A : Ar} {l : List Int} {g : List Bool} (hA : A.sl = qS l g) (hl : g.length = l.length) (k : Nat) (hk : k < l.length) : A.get ((k : Int) + 1) 1 = if g[k]'(by omega) then none else some l[k] := by
  unfold Ar.get
  rw [if_pos (by omega), show ((k : Int) + 1).toNat - 1 = k by omega, hA, qS_at hl k hk]
  simp
theorem qS_free {A : Ar} {l : List Int} {g : List Bool} (hA : A.sl = qS l g) (hl : g.length = l.length) (k : Nat) (hk : k < l.length) : (A.free (k + 1)).sl = qS l (g.set k true) := by
  unfold Ar.free
  simp only [Nat.add_sub_cancel, hA, qS_at hl k hk, Option.map_some, Option.getD_some]
  exact qS_set hl k hk
/-- The handles of so many. -/
def hO (n : Nat) : List (Int × Int) := (List.range n).map fun (j : Nat) => ((j : Int) + 1, 1)
theorem hO_length (n : Nat) : (hO n).length = n := by simp [hO]
theorem hO_succ (n : Nat) : hO (n + 1) = hO n ++ [((n : Int) + 1, 1)] := by simp [hO, List.range_succ]
theorem hO_at (n j : Nat) (h : j < n) : (hO n)[j]'(by rw [hO_length]; exact h) = ((j : Int) + 1, 1) := by simp [hO]
theorem hO_own {w : World} {base i c : Nat} {A : Option Addr} (h : OwnH w base (.slice A (hO i ++ [((i : Int) + 1, (1 : Int))]).length c) (hO i ++ [((i : Int) + 1, (1 : Int))])) : OwnH w base (.slice A (i + 1) c) (hO (i + 1)) := by
  have e : (hO i ++ [((i : Int) + 1, (1 : Int))]).length = i + 1 := by rw [List.length_append, hO_length]; rfl
  rw [e, ← hO_succ] at h
  exact h
/-! ### rows of truths -/
def OwnB (w : World) (base b : Nat) (g : List Bool) : Prop := w.ownsRow base 4 1 (.slice (some ⟨b, 0, none⟩) g.length g.length) g.length (g.map Value.bool)
theorem boolinfo : (Try.prog.info? 4).map (fun i => (i.zero, i.size, i.bytes)) = some (some (.bool false), 1, 1) := by kernel_rfl
theorem OwnB.made {w : World} {base b n : Nat} (h : w.ownsRow base 4 1 (.slice (some ⟨b, 0, none⟩) n n) n (madeCells #[Value.bool false] n).toList) : OwnB w base b (List.replicate n false) := by
  rw [toList_madeCells_one] at h
  unfold OwnB
  simpa using h
theorem OwnB.cell {w : World} {base b : Nat} {g : List Bool} (h : OwnB w base b g) (k : Nat) (hk : k < g.length) : w.cell? ⟨b, k, none⟩ = some (.bool g[k]) := by
  have := World.ownsRow.cellAt h k (by omega)
  rw [this]
  simp [hk]
theorem OwnB.free {w : World} {base b : Nat} {g : List Bool} (h : OwnB w base b g) (k : Nat) : w.frozen? ⟨b, k, none⟩ = false := World.ownsRow.frozenAt h k
theorem OwnB.set {w : World} {base b : Nat} {g : List Bool} (h : OwnB w base b g) (k : Nat) (x : Bool) : OwnB (w.setCell ⟨b, k, none⟩ (.bool x)) base b (g.set k x) := by
  have := (World.ownsRow.stored h k (.bool x)).1
  unfold OwnB
  rw [List.length_set, List.map_set]
  exact this
theorem OwnB.below {w w' : World} {base b : Nat} {g : List Bool} (h : OwnB w base b g) (hb : Below w.heap.size w w') : OwnB w' base b g := row_kept h fun k hk => hb.block k (row_lt h hk)
theorem OwnB.kp {w w' : World} {base b : Nat} {g : List Bool} (h : OwnB w base b g) (hk : Kp w w') : OwnB w' base b g := row_kept h fun k hb' => by
  obtain ⟨cur, hc⟩ := row_block h hb'
  rw [hc]
  exact hk.2 _ _ _ _ hc (by decide) (by decide) (by decide)
/-- All that is kept while numbers are freed. -/
structure Ow (W w : World) (g : Nat) (l : List Int) (vh : Value) (bg : Nat) (gone : List Bool) : Prop where
  len : gone.length = l.length
  az : ∃ A, Az W w g 40 40 A ∧ A.sl = qS l gone
  own : OwnH w W.heap.size vh (hO l.length)
  bl : OwnB w W.heap.size bg gone
theorem Ow.bel {W w : World} {g : Nat} {l : List Int} {vh : Value} {bg : Nat} {gone : List Bool} (h : Ow W w g l vh bg gone) : Below W.heap.size W w := by
  obtain ⟨A, h, _⟩ := h.az
  exact h.bel
theorem Ow.below {W w w' : World} {g : Nat} {l : List Int} {vh : Value} {bg : Nat} {gone : List Bool} (h : Ow W w g l vh bg gone) (hb : Below w.heap.size w w') : Ow W w' g l vh bg gone := by
  obtain ⟨h1, ⟨A, h2, h3⟩, h4, h5⟩ := h
  exact ⟨h1, ⟨A, h2.below hb, h3⟩, h4.below hb, h5.below hb⟩
theorem Ow.start {W w w' : World} {g n : Nat} {l : List Int} {vh : Value} (hz : Az W w g 40 n (pA l)) (hn : n ≤ 40) (ho : OwnH w W.heap.size vh (hO l.length)) (h : w'.ownsRow W.heap.size 4 1 (.slice (some ⟨w.heap.size, 0, none⟩) l.length l.length) l.length (madeCells #[Value.bool false] l.length).toList) (hg : w.grownBy w' none) :
    Ow W w' g l vh w.heap.size (List.replicate l.length false) := by
  have hb : Below w.heap.size w w' := ⟨hg.os, hg.tape, hg.output, hg.size, fun k hk => hg.block k hk (by simp)⟩
  exact ⟨by simp, ⟨_, (hz.up hn).below hb, (qS_none l).symm⟩, ho.below hb, OwnB.made h⟩
/-- Free tells whether it was there. -/
theorem own_free {W w : World} {g : Nat} {l : List Int} {vh : Value} {bg : Nat} {gone : List Bool} (h : Ow W w g l vh bg gone) (k : Nat) (hk : k < l.length) (hl : l.length ≤ 40) (x : Bool) (hx : gone[k]? = some x) :
    Calls Try.prog 12 #[.pointer (some ⟨g, 0, none⟩), .agg #[.int .i64 ((k : Int) + 1), .int .i64 1]] w (fun e w' => e = .returned (.bool (!x)) ∧ Below W.heap.size W w' ∧ Kp w w' ∧ ∃ A, Az W w' g 40 40 A ∧ A.sl = qS l (gone.set k true)) := by
  obtain ⟨h1, ⟨A, h2, h3⟩, h4, h5⟩ := h
  have hg := qS_get h3 h1 k hk
  have i1 : i64B ((k : Int) + 1) := by unfold i64B; omega
  have i2 : i64B 1 := by unfold i64B; omega
  obtain ⟨hkg, hb⟩ := List.getElem?_eq_some_iff.1 hx
  cases x with
  | true =>
    rw [hb] at hg
    refine (zfree_no _ 1 i1 i2 (by omega) h2 (by simpa using hg)).mono ?_
    rintro e w' ⟨rfl, hz, hb'⟩
    refine ⟨rfl, hz.bel, Kp.of_below hb', A, hz, ?_⟩
    rw [h3, ← hb, List.set_getElem_self]
  | false =>
    rw [hb] at hg
    refine (zfree_any _ 1 _ i2 (by omega) h2 (by simpa using hg)).mono ?_
    rintro e w' ⟨rfl, hz, hk'⟩
    rw [show ((k : Int) + 1).toNat = k + 1 by omega] at hz
    exact ⟨rfl, hz.bel, hk', _, hz, qS_free h3 h1 k hk⟩
/-- Get tells what is there. -/
theorem own_get {W w : World} {g : Nat} {l : List Int} {vh : Value} {bg : Nat} {gone : List Bool} (h : Ow W w g l vh bg gone) (k : Nat) (hk : k < l.length) (hl : l.length ≤ 40) (y : Bool) (hy : gone[k]? = some y) :
    Calls Try.prog 14 #[.pointer (some ⟨g, 0, none⟩), .agg #[.int .i64 ((k : Int) + 1), .int .i64 1]] w (fun e w' => ∃ x : Int, e = .returned (.tuple #[.int .i64 x, .bool (!y)]) ∧ (y = false → x = l[k]) ∧ Below w.heap.size w w') := by
  obtain ⟨h1, ⟨A, h2, h3⟩, h4, h5⟩ := h
  have hg := qS_get h3 h1 k hk
  refine (zget_any _ 1 (by unfold i64B; omega) (by unfold i64B; omega) (by omega) h2).mono ?_
  rintro e w' ⟨rfl, hz, hb'⟩
  obtain ⟨hkg, hb⟩ := List.getElem?_eq_some_iff.1 hy
  rw [hg, hb]
  cases y with
  | true => exact ⟨0, by simp, by simp, hb'⟩
  | false => exact ⟨l[k], by simp, by simp, hb'⟩
theorem Ow.two {W w : World} {g n c : Nat} {l : List Int} {A : Option Addr} {bg : Nat} {gone : List Bool} (h : Ow W w g l (.slice A n c) bg gone) : n = l.length ∧ (0 < l.length → ∃ b o, A = some ⟨b, o, none⟩ ∧ ∀ k, k < l.length → w.cell? ⟨b, o + k * 2, none⟩ = some (.int .i64 ((k : Int) + 1)) ∧ w.cell? ⟨b, o + k * 2 + 1, none⟩ = some (.int .i64 1)) := by
  obtain ⟨A', c', e, hh⟩ := h.own.hs
  simp at e
  obtain ⟨rfl, rfl, rfl⟩ := e
  refine ⟨hO_length _, fun hp => ?_⟩
  obtain ⟨b, o, e, hat⟩ := hh.lit (by rw [hO_length]; exact hp)
  refine ⟨b, o, e, fun k hk => ?_⟩
  have := hat.two k (by rw [hO_length]; exact hk)
  rw [hO_at _ k hk] at this
  exact this
theorem Ow.held {W w w1 : World} {g bh oh n c : Nat} {l : List Int} {bg : Nat} {gone : List Bool} (h : Ow W w g l (.slice (some ⟨bh, oh, none⟩) n c) bg gone) (hk : Kp w w1) (k : Nat) (hkl : k < l.length) (bb : Bool) (hb : gone[k]? = some bb) :
    w1.cell? ⟨bh, oh + k * 2, none⟩ = some (.int .i64 ((k : Int) + 1)) ∧ w1.cell? ⟨bh, oh + k * 2 + 1, none⟩ = some (.int .i64 1) ∧ w1.cell? ⟨bg, k, none⟩ = some (.bool bb) := by
  obtain ⟨A', c', e, hh⟩ := (h.own.kp hk).hs
  simp at e
  obtain ⟨rfl, rfl, rfl⟩ := e
  obtain ⟨b, o, e, hat⟩ := hh.lit (by rw [hO_length]; omega)
  simp at e
  obtain ⟨rfl, rfl⟩ := e
  have := hat.two k (by rw [hO_length]; exact hkl)
  rw [hO_at _ k hkl] at this
  obtain ⟨hkg, e⟩ := List.getElem?_eq_some_iff.1 hb
  have h3 := (h.bl.kp hk).cell k hkg
  rw [e] at h3
  exact ⟨this.1, this.2, h3⟩
theorem Ow.set {W w w1 : World} {g : Nat} {l : List Int} {vh : Value} {bg : Nat} {gone : List Bool} (h : Ow W w g l vh bg gone) (hk : Kp w w1) (k : Nat) (hz : ∃ A, Az W w1 g 40 40 A ∧ A.sl = qS l (gone.set k true)) : Ow W (w1.setCell ⟨bg, k, none⟩ (.bool true)) g l vh bg (gone.set k true) := by
  obtain ⟨h1, _, h4, h5⟩ := h
  obtain ⟨A, h2, h3⟩ := hz
  have o5 := h5.kp hk
  have o4 := h4.kp hk
  obtain ⟨cur, hc⟩ := row_block o5 (b := bg) rfl
  have hlo := (World.ownsRow.lt o5 bg rfl).1
  refine ⟨by simpa using h1, ⟨A, h2.mod (fs' := [bg]) ((Mod.refl _ w1).setCell (.inl (by simp)) _) fun k' hk' => ?_, h3⟩, row_kept o4 fun b hb => Below.heap_setCell _ _ _ _ ?_, o5.set k true⟩
  · rw [List.mem_singleton.1 hk']
    exact ⟨hlo, cur, _, _, hc, by decide, by decide, by decide⟩
  · rintro rfl
    exact row_ne o4 hc (by decide) hb
end Go.Proofs.Ytooejagekkgpaaa
