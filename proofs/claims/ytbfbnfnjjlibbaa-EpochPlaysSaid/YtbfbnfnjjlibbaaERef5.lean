/-
  The document's limbo with its blocks: what a call leaves. Conditions: as ERef1, ERef2, ERef4.
-/
import Derived.Test.YtbfbnfnjjlibbaaERef4
namespace Go.Proofs.Ytbfbnfnjjlibbaa
open Go.RowKit
set_option linter.unusedVariables false
set_option linter.unusedSimpArgs false

/-- The document's limbo, and its blocks. -/
def Ln (w : World) (g now : Nat) (D : List Rt) (fs : List Nat) : Prop := ∃ vH vB vG, Lm w g now vH vB vG D ∧ fs = g :: (vH.ownBlock.toList ++ (vB.ownBlock.toList ++ vG.ownBlock.toList))
theorem mem_lfs {vH vB vG : Value} {g b : Nat} : b ∈ g :: (vH.ownBlock.toList ++ (vB.ownBlock.toList ++ vG.ownBlock.toList)) ↔ b = g ∨ vH.ownBlock = some b ∨ vB.ownBlock = some b ∨ vG.ownBlock = some b := by simp
theorem Ln.mod {w w' : World} {g now : Nat} {D : List Rt} {fs fs' : List Nat} (h : Ln w g now D fs) (hm : Mod fs' w w') (hd : ∀ k ∈ fs, k ∉ fs') : Ln w' g now D fs := by
  obtain ⟨vH, vB, vG, h, rfl⟩ := h
  exact ⟨vH, vB, vG, h.kept fun b hb => hm.block b (h.lts hb) (hd b (mem_lfs.2 hb)), rfl⟩
theorem Ln.below {w w' : World} {g now : Nat} {D : List Rt} {fs : List Nat} (h : Ln w g now D fs) (hb : Below w.heap.size w w') : Ln w' g now D fs := h.mod (fs' := []) (Mod.of_below hb) (by simp)
theorem Ln.lt {w : World} {g now : Nat} {D : List Rt} {fs : List Nat} (h : Ln w g now D fs) : ∀ k ∈ fs, k < w.heap.size := by
  obtain ⟨vH, vB, vG, h, rfl⟩ := h
  intro k hk
  exact h.lts (mem_lfs.1 hk)
theorem Ln.head {w : World} {g now : Nat} {D : List Rt} {fs : List Nat} (h : Ln w g now D fs) : g ∈ fs := by
  obtain ⟨vH, vB, vG, h, rfl⟩ := h
  simp
/-- Its blocks are a limbo's, handles, numbers, truths. -/
theorem Ln.kind {w : World} {g now : Nat} {D : List Rt} {fs : List Nat} (h : Ln w g now D fs) {k : Nat} (hk : k ∈ fs) : ∃ cs t, w.heap[k]? = some (.cells cs t (0, 0)) ∧ (t = 31 ∨ t = 43 ∨ t = 3 ∨ t = 4) := by
  obtain ⟨vH, vB, vG, h, rfl⟩ := h
  rcases mem_lfs.1 hk with rfl | hb | hb | hb
  · exact ⟨_, _, h.blk, .inl rfl⟩
  · obtain ⟨cur, hc⟩ := row_block h.rH hb
    exact ⟨_, _, hc, .inr (.inl rfl)⟩
  · obtain ⟨cur, hc⟩ := row_block h.rB hb
    exact ⟨_, _, hc, .inr (.inr (.inl rfl))⟩
  · obtain ⟨cur, hc⟩ := row_block h.rG hb
    exact ⟨_, _, hc, .inr (.inr (.inr rfl))⟩
theorem Ln.new (w : World) : Ln (w.alloc (.cells #[.int .i64 0, .slice none 0 0, .slice none 0 0, .slice none 0 0] 31)) w.heap.size 0 [] [w.heap.size] :=
  ⟨_, _, _, ⟨heap_alloc_new w _, World.ownsRow_nil .., World.ownsRow_nil .., World.ownsRow_nil ..⟩, rfl⟩
theorem Ln.now {w : World} {g now : Nat} {D : List Rt} {fs : List Nat} (h : Ln w g now D fs) : w.cell? ⟨g, 0, none⟩ = some (.int .i64 (now : Int)) ∧ w.frozen? ⟨g, 0, none⟩ = false := by
  obtain ⟨vH, vB, vG, h, rfl⟩ := h
  exact ⟨h.cells.1, Joins.unfrozen_of_block h.blk 0⟩
theorem Ln.tick {w : World} {g now : Nat} {D : List Rt} {fs : List Nat} (h : Ln w g now D fs) (m : Nat) : Ln (w.setCell ⟨g, 0, none⟩ (.int .i64 (m : Int))) g m D fs ∧ Mod fs w (w.setCell ⟨g, 0, none⟩ (.int .i64 (m : Int))) := by
  refine ⟨?_, (Mod.refl fs w).setCell (p := ⟨g, 0, none⟩) (.inl h.head) _⟩
  obtain ⟨vH, vB, vG, h, rfl⟩ := h
  have hbb := Joins.block_setCell (i := 0) h.blk (.int .i64 (m : Int))
  have sk : ∀ {v : Value} {e : TypeId} {sz n : Nat} {xs : List Value}, w.ownsRow 0 e sz v n xs → e ≠ 31 → (w.setCell ⟨g, 0, none⟩ (.int .i64 (m : Int))).ownsRow 0 e sz v n xs := fun hr ht => row_kept hr fun k hk => Below.heap_setCell _ _ _ _ (by
    rintro rfl
    exact row_ne hr h.blk (fun e => ht e.symm) hk)
  exact ⟨vH, vB, vG, ⟨by simpa using hbb, sk h.rH (by decide), sk h.rB (by decide), sk h.rG (by decide)⟩, rfl⟩
/-- What a call leaves that changes it. -/
def LnRet (v : Value) (g now : Nat) (D : List Rt) (fs : List Nat) (w : World) (e : Ending) (w' : World) : Prop := e = .returned v ∧ ∃ fs', Ln w' g now D fs' ∧ Mod fs w w' ∧ ∀ k ∈ fs', k ∈ fs ∨ w.heap.size ≤ k
theorem rtls_ln {w w' : World} {fs : List Nat} {g now : Nat} {D : List Rt} {l : List (Int × Int)} (h : RtLs w w' fs g now D l) : ∃ fs', Ln w' g now (D ++ reD now l) fs' ∧ Mod fs w w' ∧ ∀ k ∈ fs', k ∈ fs ∨ w.heap.size ≤ k := by
  obtain ⟨hm, vH, vB, vG, hL, hf⟩ := h
  exact ⟨_, ⟨vH, vB, vG, Lr.lm.1 hL, rfl⟩, hm, fun k hk => hf k (mem_lfs.1 hk)⟩
theorem nretire_any (g now : Nat) (D : List Rt) (fs : List Nat) (A : Option Addr) (c : Nat) (l : List (Int × Int)) (hl : D.length + l.length ≤ 100000) (w : World) (hA : Hs w A c l) (hAf : 0 < l.length → ∀ a, A = some a → a.block ∉ fs) (h : Ln w g now D fs) : Calls Try.prog 12 #[.pointer (some ⟨g, 0, none⟩), .slice A l.length c] w (LnRet (.tuple #[]) g now (D ++ reD now l) fs w) := by
  refine (rretire_any g now D fs A c l hl w hA hAf ?_).mono ?_
  · obtain ⟨vH, vB, vG, h, rfl⟩ := h
    refine ⟨Mod.refl _ _, vH, vB, vG, ?_, fun b hb => .inl (mem_lfs.2 hb)⟩
    have e : D ++ reD now [] = D := by simp [reD]
    rw [e]
    exact Lr.lm.2 h
  · rintro e w' ⟨rfl, h⟩
    exact ⟨rfl, rtls_ln h⟩
theorem nfree_any (g now : Nat) (D : List Rt) (fs : List Nat) (least : Int) (hn : D.length ≤ 100000) (hnow : now ≤ 1000000) (hep : ∀ r ∈ D, r.ep ≤ 1000000) (w : World) (h : Ln w g now D fs) : Calls Try.prog 14 #[.pointer (some ⟨g, 0, none⟩), .int .i64 least] w (fun e w' => ∃ v, e = .returned v ∧ OwnH w' w.heap.size v (otD least now D) ∧ Ln w' g now (frD least now D) fs ∧ Mod fs w w') := by
  obtain ⟨vH, vB, vG, h, rfl⟩ := h
  refine (rfreeL_any g now vH vB vG D least hn hnow hep w h).mono ?_
  rintro e w' ⟨v, rfl, ho, hL, hm⟩
  refine ⟨v, rfl, ho, ⟨vH, vB, vG, hL, rfl⟩, (Mod.refl _ w).trans hm fun k hk => .inl (mem_lfs.2 (.inr (.inr (.inr (by simpa using hk)))))⟩
theorem nwait_any (g now : Nat) (D : List Rt) (fs : List Nat) (hn : D.length ≤ 100000) (w : World) (h : Ln w g now D fs) : Calls Try.prog 18 #[.pointer (some ⟨g, 0, none⟩)] w (HsRet (wt D) w) := by
  obtain ⟨vH, vB, vG, h, rfl⟩ := h
  exact rwait_any g now vH vB vG D hn w h
end Go.Proofs.Ytbfbnfnjjlibbaa
