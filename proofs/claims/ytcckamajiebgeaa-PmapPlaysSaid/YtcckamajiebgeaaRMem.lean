/-
  Drafts in memory: fresh nodes in their blocks, the draft with what is gone; what calls leave. No conditions.
-/
import Derived.Test.YtcckamajiebgeaaRPure
namespace Go.Proofs.Ytcckamajiebgeaa
open Go.RowKit
set_option linter.unusedVariables false
set_option linter.unusedSimpArgs false
set_option maxRecDepth 100000
open Dt

def pv (o : Option Nat) : Value := .pointer (o.map fun q => ⟨q, 0, none⟩)
/-- A branch as a value. -/
def bvv (b : Option Nat × Int × Int) : Value := .agg #[pv b.1, .int .i64 b.2.1, .int .i64 b.2.2]
/-- A fresh node's cells. -/
def frv (k v : Int) (a b : Option Nat × Int × Int) (h : Nat) : Array Value := #[.int .i64 k, .int .i64 v, pv a.1, .int .i64 a.2.1, .int .i64 a.2.2, pv b.1, .int .i64 b.2.1, .int .i64 b.2.2, .int .i64 (h : Int)]
/-- A fresh node in its block. -/
def Fb (w : World) (p : Nat) (k v : Int) (a b : Option Nat × Int × Int) (h : Nat) : Prop := w.heap[p]? = some (.cells (frv k v a b h) 90 (0, 0))
theorem Fb.nine {w : World} {p : Nat} {k v : Int} {a b : Option Nat × Int × Int} {h : Nat} (H : Fb w p k v a b h) :
    w.cell? ⟨p, 0, none⟩ = some (.int .i64 k) ∧ w.cell? ⟨p, 1, none⟩ = some (.int .i64 v) ∧ w.cell? ⟨p, 2, none⟩ = some (pv a.1) ∧ w.cell? ⟨p, 3, none⟩ = some (.int .i64 a.2.1) ∧ w.cell? ⟨p, 4, none⟩ = some (.int .i64 a.2.2) ∧ w.cell? ⟨p, 5, none⟩ = some (pv b.1) ∧ w.cell? ⟨p, 6, none⟩ = some (.int .i64 b.2.1) ∧ w.cell? ⟨p, 7, none⟩ = some (.int .i64 b.2.2) ∧ w.cell? ⟨p, 8, none⟩ = some (.int .i64 (h : Int)) :=
  ⟨cell_of_row w p 0 _ _ (0, 0) H, cell_of_row w p 1 _ _ (0, 0) H, cell_of_row w p 2 _ _ (0, 0) H, cell_of_row w p 3 _ _ (0, 0) H, cell_of_row w p 4 _ _ (0, 0) H, cell_of_row w p 5 _ _ (0, 0) H, cell_of_row w p 6 _ _ (0, 0) H, cell_of_row w p 7 _ _ (0, 0) H, cell_of_row w p 8 _ _ (0, 0) H⟩
theorem Fb.fz {w : World} {p : Nat} {k v : Int} {a b : Option Nat × Int × Int} {h : Nat} (H : Fb w p k v a b h) (i : Nat) : w.frozen? ⟨p, i, none⟩ = false := Joins.unfrozen_of_block H i
theorem Fb.lt {w : World} {p : Nat} {k v : Int} {a b : Option Nat × Int × Int} {h : Nat} (H : Fb w p k v a b h) : p < w.heap.size := (Array.getElem?_eq_some_iff.1 H).1
theorem Fb.setL {w : World} {p : Nat} {k v : Int} {a b : Option Nat × Int × Int} {h : Nat} (H : Fb w p k v a b h) (c : Option Nat × Int × Int) : Fb (((w.setCell ⟨p, 2, none⟩ (pv c.1)).setCell ⟨p, 3, none⟩ (.int .i64 c.2.1)).setCell ⟨p, 4, none⟩ (.int .i64 c.2.2)) p k v c b h := by
  have e := Joins.block_setCell (i := 4) (Joins.block_setCell (i := 3) (Joins.block_setCell (i := 2) H (pv c.1)) (.int .i64 c.2.1)) (.int .i64 c.2.2)
  unfold Fb
  simpa [frv] using e
theorem Fb.setR {w : World} {p : Nat} {k v : Int} {a b : Option Nat × Int × Int} {h : Nat} (H : Fb w p k v a b h) (c : Option Nat × Int × Int) : Fb (((w.setCell ⟨p, 5, none⟩ (pv c.1)).setCell ⟨p, 6, none⟩ (.int .i64 c.2.1)).setCell ⟨p, 7, none⟩ (.int .i64 c.2.2)) p k v a c h := by
  have e := Joins.block_setCell (i := 7) (Joins.block_setCell (i := 6) (Joins.block_setCell (i := 5) H (pv c.1)) (.int .i64 c.2.1)) (.int .i64 c.2.2)
  unfold Fb
  simpa [frv] using e
theorem Fb.setH {w : World} {p : Nat} {k v : Int} {a b : Option Nat × Int × Int} {h : Nat} (H : Fb w p k v a b h) (n : Nat) : Fb (w.setCell ⟨p, 8, none⟩ (.int .i64 (n : Int))) p k v a b n := by
  have e := Joins.block_setCell (i := 8) H (.int .i64 (n : Int))
  unfold Fb
  simpa [frv] using e
theorem mod3 (w : World) (p i j k : Nat) (x y z : Value) : Mod [p] w (((w.setCell ⟨p, i, none⟩ x).setCell ⟨p, j, none⟩ y).setCell ⟨p, k, none⟩ z) :=
  (((Mod.refl [p] w).setCell (p := ⟨p, i, none⟩) (.inl (by simp)) x).setCell (p := ⟨p, j, none⟩) (.inl (by simp)) y).setCell (p := ⟨p, k, none⟩) (.inl (by simp)) z
/-- A draft's branch in memory, its blocks behind a place. -/
def DIn (n : Nat) (w : World) : Dt → Prop
  | old _ => True
  | new p k v h l r => Fb w p k v l.bv r.bv h ∧ DIn n w l ∧ DIn n w r ∧ p ∉ l.fp ∧ p ∉ r.fp ∧ (∀ x ∈ l.fp, x ∉ r.fp) ∧ n ≤ p
theorem DIn.kept {n : Nat} {w w' : World} : ∀ {d : Dt}, DIn n w d → (∀ k ∈ d.fp, w'.heap[k]? = w.heap[k]?) → DIn n w' d
  | old _, _, _ => trivial
  | new p k v h l r, ⟨h1, h2, h3, h4⟩, hk => ⟨(hk p (by simp [fp])).trans h1, h2.kept fun x hx => hk x (by simp [fp, hx]), h3.kept fun x hx => hk x (by simp [fp, hx]), h4⟩
theorem DIn.kind {n : Nat} {w : World} : ∀ {d : Dt}, DIn n w d → ∀ k ∈ d.fp, n ≤ k ∧ ∃ cs, w.heap[k]? = some (.cells cs 90 (0, 0))
  | old _, _, k, hk => by simp [fp] at hk
  | new p _ _ _ l r, ⟨h1, h2, h3, h4⟩, k, hk => by
    simp only [fp, List.mem_cons, List.mem_append] at hk
    rcases hk with rfl | hk | hk
    · exact ⟨h4.2.2.2, _, h1⟩
    · exact h2.kind k hk
    · exact h3.kind k hk
theorem DIn.lt {n : Nat} {w : World} {d : Dt} (h : DIn n w d) {k : Nat} (hk : k ∈ d.fp) : k < w.heap.size := by
  obtain ⟨_, cs, e⟩ := h.kind k hk
  exact (Array.getElem?_eq_some_iff.1 e).1
theorem DIn.below {n : Nat} {w w' : World} {d : Dt} (h : DIn n w d) (hb : Below w.heap.size w w') : DIn n w' d := h.kept fun k hk => hb.block k (h.lt hk)
/-- What a draft stands on. -/
structure Ctx (w0 : World) (gm : Nat) (F : Int → Int → Option Nd) : Prop where
  load : LoadOk gm F w0
  map : ∃ u, w0.heap[gm]? = some (.cells #[u, cmpV] 70 (0, 0))
  zero : F 0 0 = none
/-- A draft in memory, with what is gone; its blocks. -/
structure Dr (w0 w : World) (gm gd : Nat) (gn : List (Int × Int)) (fs : List Nat) : Prop where
  bel : Below w0.heap.size w0 w
  low : w0.heap.size ≤ gd
  mem : ∃ vg, w.heap[gd]? = some (.cells #[.pointer (some ⟨gm, 0, none⟩), vg, .slice none 0 0] 73 (0, 0)) ∧ OwnH w w0.heap.size vg gn ∧ fs = gd :: vg.ownBlock.toList
theorem Dr.kind {w0 w : World} {gm gd : Nat} {gn : List (Int × Int)} {fs : List Nat} (h : Dr w0 w gm gd gn fs) {k : Nat} (hk : k ∈ fs) : ∃ cs t, w.heap[k]? = some (.cells cs t (0, 0)) ∧ (t = 73 ∨ t = 28) := by
  obtain ⟨vg, h1, h2, rfl⟩ := h.mem
  rcases List.mem_cons.1 hk with rfl | hk
  · exact ⟨_, _, h1, .inl rfl⟩
  · obtain ⟨cur, hc⟩ := row_block h2 (b := k) (by simpa using hk)
    exact ⟨_, _, hc, .inr rfl⟩
theorem Dr.ge {w0 w : World} {gm gd : Nat} {gn : List (Int × Int)} {fs : List Nat} (h : Dr w0 w gm gd gn fs) : ∀ k ∈ fs, w0.heap.size ≤ k := by
  obtain ⟨vg, h1, h2, rfl⟩ := h.mem
  intro k hk
  rcases List.mem_cons.1 hk with rfl | hk
  · exact h.low
  · exact (World.ownsRow.lt h2 k (by simpa using hk)).1
theorem Dr.lt {w0 w : World} {gm gd : Nat} {gn : List (Int × Int)} {fs : List Nat} (h : Dr w0 w gm gd gn fs) : ∀ k ∈ fs, k < w.heap.size := fun k hk => by
  obtain ⟨cs, t, e, _⟩ := h.kind hk
  exact (Array.getElem?_eq_some_iff.1 e).1
theorem Dr.gdlt {w0 w : World} {gm gd : Nat} {gn : List (Int × Int)} {fs : List Nat} (h : Dr w0 w gm gd gn fs) : gd < w.heap.size := by
  obtain ⟨vg, h1, h2, rfl⟩ := h.mem
  exact h.lt gd (by simp)
theorem Dr.cell0 {w0 w : World} {gm gd : Nat} {gn : List (Int × Int)} {fs : List Nat} (h : Dr w0 w gm gd gn fs) : w.cell? ⟨gd, 0, none⟩ = some (.pointer (some ⟨gm, 0, none⟩)) := by
  obtain ⟨vg, h1, h2, rfl⟩ := h.mem
  exact cell_of_row w gd 0 _ _ (0, 0) h1
theorem Dr.not {w0 w : World} {gm gd : Nat} {gn : List (Int × Int)} {fs : List Nat} (h : Dr w0 w gm gd gn fs) {k : Nat} {cs : Array Value} {t : TypeId} {z : Nat × Nat} (hk : w.heap[k]? = some (.cells cs t z)) (h1 : t ≠ 73) (h2 : t ≠ 28) : k ∉ fs := by
  intro hm
  obtain ⟨cs', t', e, ht⟩ := h.kind hm
  rw [hk] at e
  simp at e
  rcases ht with rfl | rfl
  · exact h1 e.2.1
  · exact h2 e.2.1
theorem Dr.mod {w0 w w' : World} {gm gd : Nat} {gn : List (Int × Int)} {fs ks : List Nat} (h : Dr w0 w gm gd gn fs) (hm : Mod ks w w') (hd : ∀ k ∈ fs, k ∉ ks) (hl : ∀ k ∈ ks, w0.heap.size ≤ k) : Dr w0 w' gm gd gn fs := by
  have hlt := h.lt
  obtain ⟨h0, h00, vg, h1, h2, rfl⟩ := h
  refine ⟨h0.trans (hm.below h0.size hl), h00, vg, (hm.block gd (hlt _ (by simp)) (hd _ (by simp))).trans h1, row_kept h2 fun b hb => hm.block b (row_lt h2 hb) (hd _ (by simp [hb])), rfl⟩
theorem Dr.below {w0 w w' : World} {gm gd : Nat} {gn : List (Int × Int)} {fs : List Nat} (h : Dr w0 w gm gd gn fs) (hb : Below w.heap.size w w') : Dr w0 w' gm gd gn fs :=
  h.mod (ks := []) (Mod.of_below hb) (by simp) (by simp)
/-- A step of a draft: some fresh nodes' blocks may change, and the draft's. -/
structure Stp (w0 : World) (gm gd : Nat) (gn : List (Int × Int)) (fs ks : List Nat) (w w' : World) (gn' : List (Int × Int)) (fs' : List Nat) : Prop where
  pre : Dr w0 w gm gd gn fs
  dr : Dr w0 w' gm gd gn' fs'
  mod : Mod (fs ++ ks) w w'
  new : ∀ k ∈ fs', k ∈ fs ∨ w.heap.size ≤ k
theorem Stp.refl {w0 w : World} {gm gd : Nat} {gn : List (Int × Int)} {fs : List Nat} (h : Dr w0 w gm gd gn fs) (ks : List Nat) : Stp w0 gm gd gn fs ks w w gn fs := ⟨h, h, Mod.refl _ _, fun _ => .inl⟩
theorem Stp.of_below {w0 w w' : World} {gm gd : Nat} {gn : List (Int × Int)} {fs : List Nat} (h : Dr w0 w gm gd gn fs) (hb : Below w.heap.size w w') (ks : List Nat) : Stp w0 gm gd gn fs ks w w' gn fs := ⟨h, h.below hb, Mod.of_below hb, fun _ => .inl⟩
theorem Stp.trans {w0 a b c : World} {gm gd : Nat} {gn gn' gn'' : List (Int × Int)} {fs fs' fs'' ks ks' : List Nat} (h : Stp w0 gm gd gn fs ks a b gn' fs') (h' : Stp w0 gm gd gn' fs' ks' b c gn'' fs'') (hs : ∀ k ∈ ks', k ∈ ks ∨ a.heap.size ≤ k) : Stp w0 gm gd gn fs ks a c gn'' fs'' := by
  refine ⟨h.pre, h'.dr, h.mod.trans h'.mod fun k hk => ?_, fun k hk => ?_⟩
  · rcases List.mem_append.1 hk with hk | hk
    · rcases h.new k hk with h1 | h1
      · exact .inl (List.mem_append_left _ h1)
      · exact .inr h1
    · rcases hs k hk with h1 | h1
      · exact .inl (List.mem_append_right _ h1)
      · exact .inr h1
  · rcases h'.new k hk with h1 | h1
    · exact h.new k h1
    · exact .inr (Nat.le_trans h.mod.size h1)
theorem Stp.wider {w0 a b : World} {gm gd : Nat} {gn gn' : List (Int × Int)} {fs fs' ks ks' : List Nat} (h : Stp w0 gm gd gn fs ks a b gn' fs') (hs : ∀ k ∈ ks, k ∈ ks' ∨ a.heap.size ≤ k) : Stp w0 gm gd gn fs ks' a b gn' fs' :=
  (Stp.refl h.pre ks').trans h hs
/-- A block that is no draft's, no handles', and no fresh node's of these, is as it was. -/
theorem Stp.block {w0 a b : World} {gm gd : Nat} {gn gn' : List (Int × Int)} {fs fs' ks : List Nat} (h : Stp w0 gm gd gn fs ks a b gn' fs') {k : Nat} {cs : Array Value} {t : TypeId} {z : Nat × Nat} (hk : a.heap[k]? = some (.cells cs t z)) (h1 : t ≠ 73) (h2 : t ≠ 28) (h3 : k ∉ ks) : b.heap[k]? = some (.cells cs t z) :=
  (h.mod.block k (Array.getElem?_eq_some_iff.1 hk).1 (by
    rw [List.mem_append]
    rintro (h4 | h4)
    · exact h.pre.not hk h1 h2 h4
    · exact h3 h4)).trans hk
theorem Stp.fb {w0 a b : World} {gm gd : Nat} {gn gn' : List (Int × Int)} {fs fs' ks : List Nat} (h : Stp w0 gm gd gn fs ks a b gn' fs') {p : Nat} {k v : Int} {x y : Option Nat × Int × Int} {i : Nat} (hk : Fb a p k v x y i) (h3 : p ∉ ks) : Fb b p k v x y i := h.block hk (by decide) (by decide) h3
theorem Stp.din {w0 a b : World} {gm gd : Nat} {gn gn' : List (Int × Int)} {fs fs' ks : List Nat} (h : Stp w0 gm gd gn fs ks a b gn' fs') {n : Nat} {d : Dt} (hd : DIn n a d) (h3 : ∀ k ∈ d.fp, k ∉ ks) : DIn n b d := hd.kept fun k hk => by
  obtain ⟨_, cs, e⟩ := hd.kind k hk
  rw [e]
  exact h.block e (by decide) (by decide) (h3 k hk)
/-- Cells of a fresh node are written. -/
theorem Stp.of_mod {w0 w w' : World} {gm gd : Nat} {gn : List (Int × Int)} {fs : List Nat} (h : Dr w0 w gm gd gn fs) {p : Nat} {k v : Int} {x y : Option Nat × Int × Int} {i : Nat} (hp : Fb w p k v x y i) (hl : w0.heap.size ≤ p) (hm : Mod [p] w w') : Stp w0 gm gd gn fs [p] w w' gn fs := by
  have hn : p ∉ fs := h.not hp (by decide) (by decide)
  refine ⟨h, h.mod hm (fun k hk => ?_) (by simpa using hl), ⟨hm.os, hm.tape, hm.output, hm.size, fun k hk hkn => hm.block k hk ?_⟩, fun _ => .inl⟩
  · simp
    rintro rfl
    exact hn hk
  · intro hk2
    exact hkn (List.mem_append_right _ hk2)
theorem Stp.din1 {w0 a b : World} {gm gd : Nat} {gn gn' : List (Int × Int)} {fs fs' : List Nat} {p : Nat} (h : Stp w0 gm gd gn fs [p] a b gn' fs') {n : Nat} {d : Dt} (hd : DIn n a d) (h3 : p ∉ d.fp) : DIn n b d := h.din hd fun k hk e => h3 (by rw [List.mem_singleton.1 e] at hk; exact hk)
theorem Stp.din0 {w0 a b : World} {gm gd : Nat} {gn gn' : List (Int × Int)} {fs fs' : List Nat} (h : Stp w0 gm gd gn fs [] a b gn' fs') {n : Nat} {d : Dt} (hd : DIn n a d) : DIn n b d := h.din hd fun k hk e => by simp at e
/-- A handle is gone: the draft's row is longer. -/
theorem dr_push {w0 w w1 w2 : World} {gm gd : Nat} {gn : List (Int × Int)} {a A' : Option Addr} {m c n' c' : Nat} {g : Int × Int} (hD : Dr w0 w gm gd gn (gd :: (Value.slice a m c).ownBlock.toList))
    (hblk : w.heap[gd]? = some (.cells #[.pointer (some ⟨gm, 0, none⟩), .slice a m c, .slice none 0 0] 73 (0, 0))) (hown : OwnH w w0.heap.size (.slice a m c) gn) (hb : Below w.heap.size w w1)
    (ho : OwnH w2 w0.heap.size (.slice A' n' c') (gn ++ [g])) (hg : w1.grownBy w2 (Value.slice a m c).ownBlock) (hat : (Value.slice A' n' c').ownBlock = (Value.slice a m c).ownBlock ∨ (Value.slice A' n' c').ownBlock = some w1.heap.size) :
    w2.cell? ⟨gd, 1, none⟩ = some (.slice a m c) ∧ w2.frozen? ⟨gd, 1, none⟩ = false ∧ Stp w0 gm gd gn (gd :: (Value.slice a m c).ownBlock.toList) [] w (w2.setCell ⟨gd, 1, none⟩ (.slice A' n' c')) (gn ++ [g]) (gd :: (Value.slice A' n' c').ownBlock.toList) := by
  have hlt := (Array.getElem?_eq_some_iff.1 hblk).1
  have h1 := (hb.block gd hlt).trans hblk
  have h2 := (hg.block gd (Nat.lt_of_lt_of_le hlt hb.size) (fun e => row_ne hown hblk (by decide) e.symm)).trans h1
  have hne : (Value.slice A' n' c').ownBlock ≠ some gd := row_ne ho h2 (by decide)
  have e1 := Joins.block_setCell (i := 1) h2 (.slice A' n' c')
  have hM : Mod (gd :: (Value.slice a m c).ownBlock.toList ++ []) w (w2.setCell ⟨gd, 1, none⟩ (.slice A' n' c')) :=
    (((Mod.of_below hb).trans (Mod.of_grown (fs := gd :: (Value.slice a m c).ownBlock.toList ++ []) hg (fun k hk => by simp [hk])) (fun k hk => .inl hk))).setCell (p := ⟨gd, 1, none⟩) (.inl (by simp)) _
  refine ⟨cell_of_row w2 gd 1 _ _ (0, 0) h2, Joins.unfrozen_of_block h2 1, hD, ⟨?_, hD.low, _, by simpa using e1, row_kept ho fun b hb' => Below.heap_setCell _ _ _ _ (fun e => hne (hb'.trans (congrArg some e))), rfl⟩, hM, fun k hk => ?_⟩
  · exact hD.bel.trans (hM.below hD.bel.size (fun k hk => hD.ge k (by simpa using hk)))
  · rcases List.mem_cons.1 hk with rfl | hk
    · exact .inl (by simp)
    · have hk : (Value.slice A' n' c').ownBlock = some k := by simpa using hk
      rcases hat with e | e
      · exact .inl (by rw [← e, hk]; simp)
      · rw [e] at hk
        have := Option.some.inj hk
        have := hb.size
        exact .inr (by omega)
end Go.Proofs.Ytcckamajiebgeaa
