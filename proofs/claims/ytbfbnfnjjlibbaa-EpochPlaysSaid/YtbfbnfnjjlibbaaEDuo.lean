/-
  Both limbos, the program's and the document's, side by side. Conditions: those of the calls.
-/
import Derived.Test.YtbfbnfnjjlibbaaEThreeWalk
import Derived.Test.YtbfbnfnjjlibbaaERef5
namespace Go.Proofs.Ytbfbnfnjjlibbaa
open Go.RowKit
set_option linter.unusedVariables false
set_option linter.unusedSimpArgs false
set_option maxRecDepth 100000

structure Du (W w : World) (g1 g2 n1 : Nat) (q : List Wp) (n2 : Nat) (D : List Rt) (fs : List Nat) : Prop where
  ez : Ez W w g1 n1 q
  ln : Ln w g2 n2 D fs
  lo : ∀ k ∈ fs, W.heap.size ≤ k
theorem Ln.kq {w w' : World} {g now : Nat} {D : List Rt} {fs : List Nat} (h : Ln w g now D fs) (hk : Kq w w') : Ln w' g now D fs := by
  have hf : ∀ k ∈ fs, w'.heap[k]? = w.heap[k]? := fun k hf => by
    obtain ⟨cs, t, hc, ht⟩ := h.kind hf
    rw [hc]
    refine hk.2 k _ _ _ hc ?_ ?_
    · rcases ht with rfl | rfl | rfl | rfl <;> decide
    · rcases ht with rfl | rfl | rfl | rfl <;> decide
  obtain ⟨vH, vB, vG, h, rfl⟩ := h
  exact ⟨vH, vB, vG, h.kept fun b hb => hf b (mem_lfs.2 hb), rfl⟩
theorem Ez.lmod {W w w' : World} {g1 n1 g2 n2 : Nat} {q : List Wp} {D : List Rt} {fs : List Nat} (h : Ez W w g1 n1 q) (hl : Ln w g2 n2 D fs) (lo : ∀ k ∈ fs, W.heap.size ≤ k) (hm : Mod fs w w') : Ez W w' g1 n1 q :=
  h.mod hm fun k hk => by
    obtain ⟨cs, t, hc, ht⟩ := hl.kind hk
    refine ⟨lo k hk, cs, t, _, hc, ?_, ?_⟩
    · rcases ht with rfl | rfl | rfl | rfl <;> decide
    · rcases ht with rfl | rfl | rfl | rfl <;> decide
theorem Du.below {W w w' : World} {g1 g2 n1 n2 : Nat} {q : List Wp} {D : List Rt} {fs : List Nat} (h : Du W w g1 g2 n1 q n2 D fs) (hb : Below w.heap.size w w') : Du W w' g1 g2 n1 q n2 D fs := ⟨h.ez.below hb, h.ln.below hb, h.lo⟩
theorem Du.one {W w w' : World} {g1 g2 n1 n2 n1' : Nat} {q q' : List Wp} {D : List Rt} {fs : List Nat} (h : Du W w g1 g2 n1 q n2 D fs) (hz : Ez W w' g1 n1' q') (hk : Kq w w') : Du W w' g1 g2 n1' q' n2 D fs := ⟨hz, h.ln.kq hk, h.lo⟩
theorem Du.two {W w w' : World} {g1 g2 n1 n2 n2' : Nat} {q : List Wp} {D D' : List Rt} {fs fs' : List Nat} (h : Du W w g1 g2 n1 q n2 D fs) (hl : Ln w' g2 n2' D' fs') (hm : Mod fs w w') (hs : ∀ k ∈ fs', k ∈ fs ∨ w.heap.size ≤ k) : Du W w' g1 g2 n1 q n2' D' fs' := by
  refine ⟨h.ez.lmod h.ln h.lo hm, hl, fun k hk => ?_⟩
  rcases hs k hk with h1 | h1
  · exact h.lo k h1
  · exact Nat.le_trans h.ez.bel.size h1
theorem du_retire {W w : World} {g1 g2 n1 n2 c : Nat} {q : List Wp} {D : List Rt} {fs : List Nat} {A : Option Addr} {l : List (Int × Int)} (hl : D.length + l.length ≤ 100000) (h0 : Hs W A c l) (hA : Hs w A c l) (h : Du W w g1 g2 n1 q n2 D fs) :
    Calls Try.prog 12 #[.pointer (some ⟨g2, 0, none⟩), .slice A l.length c] w (fun e w' => e = .returned (.tuple #[]) ∧ ∃ fs', Du W w' g1 g2 n1 q n2 (D ++ reD n2 l) fs') := by
  refine (nretire_any g2 n2 D fs A c l hl w hA (fun hp a ha hf => ?_) h.ln).mono ?_
  · obtain ⟨b, o, e, hat⟩ := h0.lit hp
    rw [ha] at e
    injection e with e
    subst e
    have h1 : b < W.heap.size := World.block_lt_of_cell? W _ (hat.two 0 hp).1
    have h2 : W.heap.size ≤ b := h.lo _ hf
    omega
  · rintro e w' ⟨rfl, fs', hl, hm, hs⟩
    exact ⟨rfl, fs', h.two hl hm hs⟩
theorem du_free {W w : World} {g1 g2 n1 n2 : Nat} {q : List Wp} {D : List Rt} {fs : List Nat} (least : Int) (hn : D.length ≤ 100000) (hnow : n2 ≤ 1000000) (hep : ∀ r ∈ D, r.ep ≤ 1000000) (h : Du W w g1 g2 n1 q n2 D fs) :
    Calls Try.prog 14 #[.pointer (some ⟨g2, 0, none⟩), .int .i64 least] w (fun e w' => ∃ v, e = .returned v ∧ OwnH w' w.heap.size v (otD least n2 D) ∧ Du W w' g1 g2 n1 q n2 (frD least n2 D) fs ∧ Mod fs w w') := by
  refine (nfree_any g2 n2 D fs least hn hnow hep w h.ln).mono ?_
  rintro e w' ⟨v, rfl, ho, hl, hm⟩
  exact ⟨v, rfl, ho, h.two hl hm fun k hk => .inl hk, hm⟩
theorem du_now {W w : World} {g1 g2 n1 n2 : Nat} {q : List Wp} {D : List Rt} {fs : List Nat} (h : Du W w g1 g2 n1 q n2 D fs) (m : Nat) : w.cell? ⟨g2, 0, none⟩ = some (.int .i64 (n2 : Int)) ∧ w.frozen? ⟨g2, 0, none⟩ = false ∧ Du W (w.setCell ⟨g2, 0, none⟩ (.int .i64 (m : Int))) g1 g2 n1 q m D fs :=
  ⟨h.ln.now.1, h.ln.now.2, h.two (h.ln.tick m).1 (h.ln.tick m).2 fun k hk => .inl hk⟩
theorem OwnH.mod {w w' : World} {base : Nat} {v : Value} {l : List (Int × Int)} {fs : List Nat} (h : OwnH w base v l) (hm : Mod fs w w') (hf : ∀ k ∈ fs, k < base) : OwnH w' base v l := row_kept h fun b hb => hm.block b (row_lt h hb) fun hk => by
  have := hf b hk
  have := (World.ownsRow.lt h b hb).1
  omega
/-- Where both are, behind some acts. -/
def Ey (W wr : World) (g1 g2 i : Nat) : Prop := ∃ now D fs, now ≤ i ∧ D.length ≤ i * 10 ∧ Pst (wq D) now ∧ (∀ r ∈ D, r.ep ≤ now) ∧ Du W wr g1 g2 now (wq D) now D fs
theorem wq_le (D : List Rt) : (wq D).length ≤ D.length := by
  unfold wq
  rw [List.length_map]
  exact List.length_filter_le _ _
theorem frD_ep {least : Int} {now n : Nat} {D : List Rt} (h : ∀ r ∈ D, r.ep ≤ n) : ∀ r ∈ frD least now D, r.ep ≤ n := by
  intro r hr
  obtain ⟨r', hr', rfl⟩ := List.mem_map.1 hr
  unfold goR
  split
  · exact h r' hr'
  · exact h r' hr'
theorem reD_ep {now : Nat} {D : List Rt} {l : List (Int × Int)} (h : ∀ r ∈ D, r.ep ≤ now) : ∀ r ∈ D ++ reD now l, r.ep ≤ now := by
  intro r hr
  rcases List.mem_append.1 hr with hr | hr
  · exact h r hr
  · obtain ⟨x, _, rfl⟩ := List.mem_map.1 hr
    exact Nat.le_refl _
end Go.Proofs.Ytbfbnfnjjlibbaa
