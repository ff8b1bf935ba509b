/-
  A row of lists of pairs of one's own: read, kept, appended to. Conditions: together not more than a million.
-/
import Derived.Test.YtcckamajiebgeaaPFrPure
namespace Go.Proofs.Ytcckamajiebgeaa
open Go.RowKit Go.Maps
set_option linter.unusedVariables false
set_option linter.unusedSimpArgs false
set_option maxRecDepth 100000

/-- A row of lists of pairs: where it is, its lists' values, what they are. -/
structure Ws (w : World) (base : Nat) (vw : Value) (vs : List Value) (L : List (List Pp)) : Prop where
  row : w.ownsRow base 35 1 vw L.length vs
  len : vs.length = L.length
  own : ∀ (i : Nat) (v : Value) (l : List Pp), vs[i]? = some v → L[i]? = some l → OwnP w base v l
theorem Ws.keep {w w' : World} {base : Nat} {vw : Value} {vs : List Value} {L : List (List Pp)} (h : Ws w base vw vs L) (hk : ∀ (k : Nat) (cs : Array Value) (t : TypeId), w.heap[k]? = some (.cells cs t (0, 0)) → t = 35 ∨ t = 65 → w'.heap[k]? = w.heap[k]?) : Ws w' base vw vs L := by
  refine ⟨row_kept h.row fun b hb => ?_, h.len, fun i v l h1 h2 => row_kept (h.own i v l h1 h2) fun b hb => ?_⟩
  · obtain ⟨cur, hc⟩ := row_block h.row hb
    exact hk b cur _ hc (.inl rfl)
  · obtain ⟨cur, hc⟩ := row_block (h.own i v l h1 h2) hb
    exact hk b cur _ hc (.inr rfl)
theorem Ws.below {w w' : World} {base : Nat} {vw : Value} {vs : List Value} {L : List (List Pp)} (h : Ws w base vw vs L) (hb : Below w.heap.size w w') : Ws w' base vw vs L := h.keep fun k cs t hk _ => hb.block k (Array.getElem?_eq_some_iff.1 hk).1
theorem Ws.kp {w w' : World} {base : Nat} {vw : Value} {vs : List Value} {L : List (List Pp)} (h : Ws w base vw vs L) (hk : Kp w w') : Ws w' base vw vs L := h.keep fun k cs t hc ht => by
  rw [hc]
  rcases ht with rfl | rfl
  · exact hk.2 k _ _ _ hc (by decide) (by decide) (by decide)
  · exact hk.2 k _ _ _ hc (by decide) (by decide) (by decide)
/-- Another row has grown. -/
theorem Ws.grown {w w' : World} {base : Nat} {vw : Value} {vs : List Value} {L : List (List Pp)} (h : Ws w base vw vs L) {v : Value} {base' : Nat} {l : List (Int × Int)} (ho : OwnH w base' v l) (hg : w.grownBy w' v.ownBlock) : Ws w' base vw vs L := h.keep fun k cs t hc ht => by
  refine hg.block k (Array.getElem?_eq_some_iff.1 hc).1 fun e => ?_
  refine row_ne ho hc ?_ e.symm
  rcases ht with rfl | rfl
  · decide
  · decide
theorem OwnH.grown {w w' : World} {base : Nat} {v : Value} {l : List (Int × Int)} (h : OwnH w base v l) {vw : Value} {vs : List Value} {L : List (List Pp)} {base' : Nat} (hw : Ws w base' vw vs L) (hg : w.grownBy w' vw.ownBlock) : OwnH w' base v l := row_kept h fun b hb => by
  obtain ⟨cur, hc⟩ := row_block h hb
  exact hg.block b (row_lt h hb) fun e => row_ne hw.row hc (by decide) e.symm
/-- The so-manieth list. -/
theorem Ws.at {w : World} {base m c : Nat} {A : Option Addr} {vs : List Value} {L : List (List Pp)} (h : Ws w base (.slice A m c) vs L) {i : Nat} (hi : i < L.length) : ∃ g a c', A = some ⟨g, 0, none⟩ ∧ w.cell? ⟨g, i, none⟩ = some (.slice a L[i].length c') ∧ OwnP w base (.slice a L[i].length c') L[i] := by
  have hv : i < vs.length := by rw [h.len]; exact hi
  have ho := h.own i vs[i] L[i] (List.getElem?_eq_getElem hv) (List.getElem?_eq_getElem hi)
  obtain ⟨a, c', e⟩ := row_form ho
  rcases h.row.2 with ⟨e1, e2⟩ | ⟨g, cap, cur, e1, h2, h3, h4, h5, h6, h7⟩
  · omega
  · simp at e1
    obtain ⟨rfl, rfl, rfl⟩ := e1
    refine ⟨g, a, c', rfl, ?_, by rw [← e]; exact ho⟩
    have := World.ownsRow.cells h.row (g := g) rfl i vs[i] (List.getElem?_eq_getElem hv)
    rw [Addr.add_lit, Nat.zero_add] at this
    rw [this, e]
theorem winfo : (Try.prog.info? 35).map (fun i => (i.zero, i.size, i.bytes)) = some (some (.slice none 0 0), 1, 24) := by kernel_rfl
/-- A list is appended: the new row, all others as they were. -/
theorem Ws.push {w w' : World} {base : Nat} {vw vw' : Value} {vs : List Value} {L : List (List Pp)} (h : Ws w base vw vs L) {v : Value} {l : List Pp} (hv : OwnP w base v l) (hr : w'.ownsRow base 35 1 vw' (L.length + 1) (vs ++ [v])) (hg : w.grownBy w' vw.ownBlock) : Ws w' base vw' (vs ++ [v]) (L ++ [l]) := by
  have hk : ∀ {u : Value} {m : List Pp}, OwnP w base u m → OwnP w' base u m := fun {u m} hu => row_kept hu fun b hb => by
    obtain ⟨cur, hc⟩ := row_block hu hb
    exact hg.block b (row_lt hu hb) fun e => row_ne h.row hc (by decide) e.symm
  refine ⟨by rw [List.length_append]; exact hr, by simp [h.len], fun i u m h1 h2 => ?_⟩
  by_cases hi : i < L.length
  · rw [List.getElem?_append_left (by rw [h.len]; exact hi)] at h1
    rw [List.getElem?_append_left hi] at h2
    exact hk (h.own i u m h1 h2)
  · have hlt : i < (L ++ [l]).length := (List.getElem?_eq_some_iff.1 h2).1
    rw [List.length_append, List.length_singleton] at hlt
    obtain rfl : i = L.length := by omega
    rw [← h.len] at h1
    simp at h1 h2
    subst h1 h2
    exact hk hv
/-- What the law has behind so many acts: all versions stand. -/
structure Vp (P : MapPred) (W w : World) (gm i : Nat) (vr vw : Value) (vs : List Value) (Ts : List Tr) (A : Ar) (U : Nat) : Prop where
  pm : P W w gm 2000 U A
  uu : U ≤ 1000 * i
  st : ∀ T ∈ Ts, Stands A T ∧ T.prs.length ≤ i
  live : A.live ≤ 28 * i
  roots : OwnH w W.heap.size vr (Ts.map Tr.root)
  wants : Ws w W.heap.size vw vs (Ts.map Tr.prs)
  len : Ts.length ≤ i + 1
  pos : 0 < Ts.length
theorem Vp.below {P : MapPred} (H : MapOk P) {W w w' : World} {gm i : Nat} {vr vw : Value} {vs : List Value} {Ts : List Tr} {A : Ar} {U : Nat} (h : Vp P W w gm i vr vw vs Ts A U) (hb : Below w.heap.size w w') : Vp P W w' gm i vr vw vs Ts A U :=
  ⟨H.below h.pm hb, h.uu, h.st, h.live, h.roots.below hb, h.wants.below hb, h.len, h.pos⟩
/-- Behind a call that did nothing. -/
theorem Vp.kp {P : MapPred} {W w w' : World} {gm i : Nat} {vr vw : Value} {vs : List Value} {Ts : List Tr} {A : Ar} {U : Nat} (h : Vp P W w gm i vr vw vs Ts A U) (hk : Kp w w') (hp : P W w' gm 2000 U A) : Vp P W w' gm (i + 1) vr vw vs Ts A U :=
  ⟨hp, by have := h.uu; omega, fun T hT => ⟨(h.st T hT).1, by have := (h.st T hT).2; omega⟩, by have := h.live; omega, h.roots.kp hk, h.wants.kp hk, by have := h.len; omega, h.pos⟩
def VpRel (P : MapPred) (W : World) (gm n : Nat) (vr vw vi : Value) (w : World) : Prop := ∃ i vs Ts A U, i ≤ n ∧ vi = .int .i64 (i : Int) ∧ Vp P W w gm i vr vw vs Ts A U
end Go.Proofs.Ytcckamajiebgeaa
