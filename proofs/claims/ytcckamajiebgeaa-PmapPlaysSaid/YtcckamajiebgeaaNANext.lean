/-
  The contract of the arena's next. Conditions: the arena is one, in memory.
-/
import Derived.Test.YtcckamajiebgeaaNASmall
namespace Go.Proofs.Ytcckamajiebgeaa
open Go.RowKit
set_option linter.unusedVariables false
set_option linter.unusedSimpArgs false
set_option maxRecDepth 100000

/-- The beginning of a row of the program's own is one, too. -/
theorem row_cut {w : World} {base size n c : Nat} {e : TypeId} {a : Option Addr} {xs : List Value} (h : w.ownsRow base e size (.slice a n c) n xs) (q : Nat) (hq : q ≤ n) : w.ownsRow base e size (.slice a q c) q (xs.take (q * size)) := by
  have hl := h.1
  have hqs : q * size ≤ n * size := Nat.mul_le_mul_right _ hq
  refine ⟨by rw [List.length_take, hl, Nat.min_eq_left hqs], ?_⟩
  rcases h.2 with ⟨h0, hn⟩ | ⟨g, cap, cur, h0, h2, h3, h4, h5, h6, h7⟩
  · simp at h0
    obtain ⟨rfl, _, rfl⟩ := h0
    obtain rfl : q = 0 := by omega
    exact .inl ⟨rfl, rfl⟩
  · simp at h0
    obtain ⟨rfl, rfl⟩ := h0
    refine .inr ⟨g, c, cur, rfl, h2, h3, by omega, h5, h6, ?_⟩
    rw [← h7, List.take_take, Nat.min_eq_left hqs]
theorem Am.set2 {w : World} {g most : Nat} {vs vf vf' : Value} {A : Ar} {r : List Nat} (h : Am w g most vs vf A) (hr : w.ownsRow 0 3 1 vf' r.length (icl r.reverse)) : Am (w.setCell ⟨g, 2, none⟩ vf') g most vs vf' ⟨A.sl, r⟩ := by
  refine ⟨?_, row_kept h.sl fun b hb => Below.heap_setCell _ _ _ _ ?_, row_kept hr fun b hb => Below.heap_setCell _ _ _ _ ?_⟩
  · have := Joins.block_setCell (i := 2) h.blk vf'
    simpa using this
  · rintro rfl
    exact h.neS hb
  · rintro rfl
    exact row_ne hr h.blk (by decide) hb
theorem Am.set1 {w : World} {g most : Nat} {vs vs' vf : Value} {A : Ar} {l : List Sl} (hb : w.heap[g]? = some (.cells #[.int .i64 (most : Int), vs, vf] 85 (0, 0))) (hf : w.ownsRow 0 3 1 vf A.fr.length (icl A.fr.reverse)) (hr : w.ownsRow 0 95 9 vs' l.length (slcs l)) : Am (w.setCell ⟨g, 1, none⟩ vs') g most vs' vf ⟨l, A.fr⟩ := by
  refine ⟨?_, row_kept hr fun b hb' => Below.heap_setCell _ _ _ _ ?_, row_kept hf fun b hb' => Below.heap_setCell _ _ _ _ ?_⟩
  · have := Joins.block_setCell (i := 1) hb vs'
    simpa using this
  · rintro rfl
    exact row_ne hr hb (by decide) hb'
  · rintro rfl
    exact row_ne hf hb (by decide) hb'
theorem icl_last (s : Nat) (r : List Nat) : icl (s :: r).reverse = icl r.reverse ++ [.int .i64 (s : Int)] := by simp [icl]
theorem icl_length (l : List Nat) : (icl l).length = l.length := by simp [icl]
def NextF (g most s : Nat) (vs vf : Value) (A : Ar) (r : List Nat) (w : World) (e : Ending) (w' : World) : Prop :=
  e = .returned (.int .i64 (s : Int)) ∧ ∃ vf', Am w' g most vs vf' ⟨A.sl, r⟩ ∧ Mod [g] w w' ∧ vf'.ownBlock = vf.ownBlock
set_option maxHeartbeats 1000000 in
theorem anext_free (g most : Nat) (vs vf : Value) (A : Ar) (s : Nat) (r : List Nat) (hf : A.fr = s :: r) (hU : A.fr.length ≤ 1000000000) (w : World) (h : Am w g most vs vf A) : Calls Try.prog 52 #[.pointer (some ⟨g, 0, none⟩)] w (NextF g most s vs vf A r w) := by
  have hr := h.fr
  rw [hf] at hr
  obtain ⟨b, c, rfl, -, hlt⟩ := hr.form (by simp)
  have hz := hr.cellAt r.length (by simp)
  rw [icl_last, List.getElem?_append_right (by rw [icl_length]; simp), icl_length, List.length_reverse, Nat.sub_self] at hz
  simp only [List.getElem?_cons_zero] at hz
  have hcut := row_cut hr r.length (by simp)
  rw [icl_last, List.take_left' (by rw [icl_length]; simp)] at hcut
  obtain ⟨-, hcm⟩ := row_le hr
  have hcm2 := (row_le hr).1
  have HS := hide (h.set2 hcut)
  have HM := hide ((Mod.refl [g] w).setCell (p := ⟨g, 2, none⟩) (.inl (by simp)) (.slice (some ⟨b, 0, none⟩) r.length c))
  have c2 := h.cell2
  have f2 := h.free 2
  rw [hf] at hU
  simp only [List.length_cons] at *
  generalize r.length = n at *
  have w1 : IntKind.i64.wrap (((n + 1 : Nat) : Int) - 1) = (n : Int) := (wrap_in _ (by omega) (by omega)).trans (by omega)
  have d0 : decide ((n : Int) < 0) = false := by simp
  have i0 : (0 : Int) ≤ (n : Int) := by omega
  have i1 : (n : Int) < ((n + 1 : Nat) : Int) := by omega
  unfold maxLen at hcm
  clear hcut hr h hf
  go_enter Try.func52, Try.ntmps52
  go_wp2
  go_ret
  exact ⟨rfl, _, HS.out, HM.out, rfl⟩
def NextN (g most : Nat) (vs vf : Value) (A : Ar) (w : World) (e : Ending) (w' : World) : Prop :=
  e = .returned (.int .i64 ((A.sl.length + 1 : Nat) : Int)) ∧ ∃ b c, Am w' g most (.slice (some ⟨b, 0, none⟩) (A.sl.length + 1) c) vf ⟨A.sl ++ [⟨0, none⟩], []⟩ ∧ Mod (g :: vs.ownBlock.toList) w w' ∧ (vs.ownBlock = some b ∨ w.heap.size ≤ b)
theorem anew_end {w w2 : World} {g most b c d1 d2 : Nat} {a1 a2 : Option Addr} {A : Ar} (h : Am w g most (.slice a1 A.sl.length d1) (.slice a2 0 d2) A) (hf : A.fr = [])
    (ho : w2.ownsRow 0 95 9 (.slice (some ⟨b, 0, none⟩) (A.sl.length + 1) c) (A.sl.length + 1) (slcs A.sl ++ slc ⟨0, none⟩))
    (hg : (w.alloc (.cells #[.int .i64 0, .int .i64 0, .int .i64 0, .int .i64 0, .int .i64 0, .int .i64 0, .int .i64 0, .bool false, .int .i64 0] 95)).grownBy w2 (Value.slice a1 A.sl.length d1).ownBlock) :
    w2.cell? ⟨g, 1, none⟩ = some (.slice a1 A.sl.length d1) ∧ w2.frozen? ⟨g, 1, none⟩ = false ∧
    Am (w2.setCell ⟨g, 1, none⟩ (.slice (some ⟨b, 0, none⟩) (A.sl.length + 1) c)) g most (.slice (some ⟨b, 0, none⟩) (A.sl.length + 1) c) (.slice a2 0 d2) ⟨A.sl ++ [⟨0, none⟩], []⟩ ∧
    Mod (g :: (Value.slice a1 A.sl.length d1).ownBlock.toList) w (w2.setCell ⟨g, 1, none⟩ (.slice (some ⟨b, 0, none⟩) (A.sl.length + 1) c)) := by
  have h1 := h.alloc (.cells #[.int .i64 0, .int .i64 0, .int .i64 0, .int .i64 0, .int .i64 0, .int .i64 0, .int .i64 0, .bool false, .int .i64 0] 95)
  have hb := (hg.block g h1.lt (fun e => h.neS e.symm)).trans h1.blk
  have hfr := h1.fr.kept hg (by
    cases e : (Value.slice a2 0 d2).ownBlock with
    | none => exact .inl rfl
    | some k =>
      refine .inr fun e2 => ?_
      exact h.neSF e2.symm e)
  have M1 : Mod (g :: (Value.slice a1 A.sl.length d1).ownBlock.toList) w w2 := ((Mod.refl (g :: (Value.slice a1 A.sl.length d1).ownBlock.toList) w).alloc (.cells #[.int .i64 0, .int .i64 0, .int .i64 0, .int .i64 0, .int .i64 0, .int .i64 0, .int .i64 0, .bool false, .int .i64 0] 95)).trans (Mod.of_grown (fs := g :: (Value.slice a1 A.sl.length d1).ownBlock.toList) hg (fun k hk => by simp [hk])) (fun k hk => .inl hk)
  refine ⟨cell_of_row w2 g 1 _ _ (0, 0) hb, Joins.unfrozen_of_block hb 1, ?_, M1.setCell (.inl (by simp)) _⟩
  rw [hf] at hfr
  have := Am.set1 (A := ⟨A.sl, []⟩) (l := A.sl ++ [⟨0, none⟩]) hb hfr (by
    rw [List.length_append, slcs_append]
    simpa [slcs] using ho)
  exact this
set_option maxHeartbeats 1000000 in
theorem anext_new (g most : Nat) (vs vf : Value) (A : Ar) (hf : A.fr = []) (hU : A.sl.length ≤ 1000000000) (w : World) (h : Am w g most vs vf A) : Calls Try.prog 52 #[.pointer (some ⟨g, 0, none⟩)] w (NextN g most vs vf A w) := by
  obtain ⟨i0, hi0, hz0, hz1, hz2⟩ := info_parts slotinfo
  obtain ⟨a1, d1, rfl⟩ := row_form h.sl
  obtain ⟨a2, d2, e2⟩ := row_form h.fr
  rw [hf] at e2
  simp only [List.length_nil] at e2
  subst e2
  have H0 := hide h
  have HA := hide (h.alloc (.cells #[.int .i64 0, .int .i64 0, .int .i64 0, .int .i64 0, .int .i64 0, .int .i64 0, .int .i64 0, .bool false, .int .i64 0] 95))
  have bx := heap_alloc_new w (.cells #[.int .i64 0, .int .i64 0, .int .i64 0, .int .i64 0, .int .i64 0, .int .i64 0, .int .i64 0, .bool false, .int .i64 0] 95)
  have HNW := hide (World.news_of_block bx)
  have HX1 := hide (show ∀ u ∈ slc ⟨0, none⟩, u.oneCell' = true by have := slcs_one [⟨0, none⟩]; simpa [slcs] using this)
  have c1 := h.cell1
  have c2 := h.cell2
  have HF := hide hf
  clear h bx hf
  go_enter Try.func52, Try.ntmps52
  have KE := hide (fun (w2 : World) (b c : Nat) (ho : w2.ownsRow 0 95 9 (.slice (some ⟨b, 0, none⟩) (A.sl.length + 1) c) (A.sl.length + 1) (slcs A.sl ++ slc ⟨0, none⟩)) (hg : (w.alloc (.cells #[.int .i64 0, .int .i64 0, .int .i64 0, .int .i64 0, .int .i64 0, .int .i64 0, .int .i64 0, .bool false, .int .i64 0] 95)).grownBy w2 (Value.slice a1 A.sl.length d1).ownBlock) => anew_end H0.out HF.out ho hg)
  go_wp2_with (at_builtin; refine wpList_append_lies _ rfl _ _ _ rfl 0 95 i0 _ 9 72 Try.underlying82 hi0 hz0 hz1 hz2 rfl (by omega) (.slice a1 A.sl.length d1) A.sl.length (slcs A.sl) rfl HA.out.sl ⟨w.heap.size, 0, none⟩ 1 1 (slc ⟨0, none⟩) rfl rfl HNW.out HX1.out (by omega) (by simp only [maxLen]; omega) (by omega) (Nat.zero_le _) (w.heap.size + 1) (by simp) ?_; intro b c w2 hown2 hgrow2 hat2 hlt2; obtain ⟨k1, fk, k2, M2⟩ := KE.out w2 b c hown2 hgrow2; have HK2 := hide k2; have HM2 := hide M2; have HT2 := hide hat2; clear hown2 hgrow2 hat2 hlt2 k2 M2)
  go_ret
  refine ⟨rfl, b, c, HK2.out, HM2.out, ?_⟩
  rcases HT2.out with h1 | h1
  · exact .inl h1
  · exact .inr (by omega)
end Go.Proofs.Ytcckamajiebgeaa
