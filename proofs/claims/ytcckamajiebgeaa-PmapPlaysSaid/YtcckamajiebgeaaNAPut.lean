/-
  The contract of the arena's Put, of nodes. Conditions: the arena is one, in memory; no slot was used more than a million times.
-/
import Derived.Test.YtcckamajiebgeaaNANext
namespace Go.Proofs.Ytcckamajiebgeaa
open Go.RowKit
set_option linter.unusedVariables false
set_option linter.unusedSimpArgs false
set_option maxRecDepth 100000

/-- What next leaves: the slot that is taken, as it lies there yet. -/
structure Nx (w : World) (g most : Nat) (A : Ar) (fs : List Nat) (w' : World) (j b c : Nat) (vf : Value) (B : Ar) : Prop where
  lt : j < B.sl.length
  am : Am w' g most (.slice (some ⟨b, 0, none⟩) B.sl.length c) vf B
  mod : Mod fs w w'
  fs : ∀ k, k = g ∨ k = b ∨ vf.ownBlock = some k → k ∈ fs ∨ w.heap.size ≤ k
  nxt : A.nxt = (j + 1, B.sl[j].gen + 1)
  put : ∀ x, A.put x = ⟨B.sl.set j ⟨B.sl[j].gen + 1, some x⟩, B.fr⟩
theorem anext_any (g most U : Nat) (A : Ar) (fs : List Nat) (hU : U ≤ 1000000) (w : World) (h : An w g most U A fs) : Calls Try.prog 52 #[.pointer (some ⟨g, 0, none⟩)] w (fun e w' => ∃ j b c vf B, e = .returned (.int .i64 ((j + 1 : Nat) : Int)) ∧ Nx w g most A fs w' j b c vf B) := by
  have hl := h.len
  have hc := h.cnt
  obtain ⟨vs, vf, M, rfl⟩ := h.mem
  rcases h.arw.nxt with ⟨r, hf, h1, h2, k, hk, hn, hg, hp⟩ | ⟨hf, hn, hp⟩
  · refine (anext_free g most vs vf A A.nxt.1 r hf (by omega) w M).mono ?_
    rintro e w' ⟨rfl, vf', hM, hmod, hob⟩
    have hj : A.nxt.1 - 1 < A.sl.length := by omega
    obtain ⟨b, c, rfl, hne⟩ := M.form (by omega)
    obtain ⟨_, hk'⟩ := List.getElem?_eq_some_iff.1 hk
    refine ⟨A.nxt.1 - 1, b, c, vf', ⟨A.sl, r⟩, by rw [show A.nxt.1 - 1 + 1 = A.nxt.1 by omega], ⟨hj, hM, ?_, ?_, ?_, ?_⟩⟩
    · exact ⟨hmod.os, hmod.tape, hmod.output, hmod.size, fun k hk hnot => hmod.block k hk (fun hm => hnot (by simp at hm; simp [hm]))⟩
    · rintro k (rfl | rfl | hk)
      · exact .inl (by simp)
      · exact .inl (by simp [Value.ownBlock])
      · rw [hob] at hk
        exact .inl (by simp [hk])
    · simp only [hk']
      rw [← hg]
      exact Prod.ext (by simp; omega) rfl
    · intro x
      rw [hp x]
      simp only [hk']
  · refine (anext_new g most vs vf A hf (by omega) w M).mono ?_
    rintro e w' ⟨rfl, b, c, hM, hmod, hob⟩
    refine ⟨A.sl.length, b, c, vf, ⟨A.sl ++ [⟨0, none⟩], []⟩, rfl, ⟨by simp, by simpa using hM, ?_, ?_, ?_, ?_⟩⟩
    · exact ⟨hmod.os, hmod.tape, hmod.output, hmod.size, fun k hk hnot => hmod.block k hk (fun hm => hnot (by
        simp only [List.mem_cons, List.mem_append] at hm ⊢
        rcases hm with hm | hm
        · exact .inl hm
        · exact .inr (.inl hm)))⟩
    · rintro k (rfl | rfl | hk)
      · exact .inl (by simp)
      · rcases hob with h | h
        · exact .inl (by simp [h])
        · exact .inr h
      · exact .inl (by simp [hk])
    · rw [hn]
      simp
    · intro x
      rw [hp x]
      simp
/-- A node is stored at a place. -/
def stNd (w : World) (b o : Nat) (n : Nd) : World := ((((((w.setCell ⟨b, o, none⟩ (.int .i64 n.k)).setCell ⟨b, o + 1, none⟩ (.int .i64 n.v)).setCell ⟨b, o + 2, none⟩ (.int .i64 n.l.1)).setCell ⟨b, o + 3, none⟩ (.int .i64 n.l.2)).setCell ⟨b, o + 4, none⟩ (.int .i64 n.r.1)).setCell ⟨b, o + 5, none⟩ (.int .i64 n.r.2)).setCell ⟨b, o + 6, none⟩ (.int .i64 n.h)
theorem But.stNd (w : World) (b o : Nat) (n : Nd) : But b w (stNd w b o n) := (((((((But.refl b w).set o _).set _ _).set _ _).set _ _).set _ _).set _ _).set _ _
theorem But.trans {b : Nat} {w w' w'' : World} (h : But b w w') (h' : But b w' w'') : But b w w'' := ⟨h'.os.trans h.os, h'.tape.trans h.tape, h'.output.trans h.output, h'.size.trans h.size, fun k hk => (h'.block k hk).trans (h.block k hk)⟩
theorem But.mod {b : Nat} {fs : List Nat} {a w w' : World} (h : But b w w') (hm : Mod fs a w) (hb : b ∈ fs ∨ a.heap.size ≤ b) : Mod fs a w' :=
  hm.trans (fs' := [b]) ⟨h.os, h.tape, h.output, by rw [h.size]; exact Nat.le_refl _, fun k _ hk => h.block k (by simpa using hk)⟩ (by simpa using hb)
/-- A row's slot as a beginning, the slot, and the rest. -/
theorem slcs_part (l : List Sl) (k : Nat) (h : k < l.length) : ∃ P Q, P.length = k * 9 ∧ slcs l = P ++ (slc l[k] ++ Q) ∧ ∀ y, slcs (l.set k y) = P ++ (slc y ++ Q) := by
  refine ⟨(slcs l).take (k * 9), (slcs l).drop (k * 9 + 9), ?_, ?_, fun y => by rw [slcs_set l k y h, List.append_assoc]⟩
  · rw [List.length_take, slcs_len]
    omega
  · have := slcs_set l k l[k] h
    rw [List.set_getElem_self] at this
    rw [← List.append_assoc]
    exact this
theorem set_mid {P S Q : List Value} {n i : Nat} (v : Value) (hP : P.length = n) (hi : i < S.length) : (P ++ (S ++ Q)).set (n + i) v = P ++ (S.set i v ++ Q) := by
  subst hP
  rw [List.set_append_right _ _ (by omega), Nat.add_sub_cancel_left, List.set_append_left _ _ hi]
theorem row_stNd {w : World} {base b c n o : Nat} {e : TypeId} {sz : Nat} {xs : List Value} (h : w.ownsRow base e sz (.slice (some ⟨b, 0, none⟩) n c) n xs) (x : Nd) :
    (stNd w b o x).ownsRow base e sz (.slice (some ⟨b, 0, none⟩) n c) n (((((((xs.set o (.int .i64 x.k)).set (o + 1) (.int .i64 x.v)).set (o + 2) (.int .i64 x.l.1)).set (o + 3) (.int .i64 x.l.2)).set (o + 4) (.int .i64 x.r.1)).set (o + 5) (.int .i64 x.r.2)).set (o + 6) (.int .i64 x.h)) :=
  ((((((((((((h.stored o _).1).stored (o + 1) _).1).stored (o + 2) _).1).stored (o + 3) _).1).stored (o + 4) _).1).stored (o + 5) _).1.stored (o + 6) _).1
theorem slot_stNd {l : List Sl} {k : Nat} (h : k < l.length) (y : Sl) (x : Nd) (hx : y.it.getD ndz = x) :
    (((((((((slcs l).set (k * 9) (.int .i64 x.k)).set (k * 9 + 1) (.int .i64 x.v)).set (k * 9 + 2) (.int .i64 x.l.1)).set (k * 9 + 3) (.int .i64 x.l.2)).set (k * 9 + 4) (.int .i64 x.r.1)).set (k * 9 + 5) (.int .i64 x.r.2)).set (k * 9 + 6) (.int .i64 x.h)).set (k * 9 + 7) (.bool y.it.isSome)).set (k * 9 + 8) (.int .i64 (y.gen : Int)) = slcs (l.set k y) := by
  obtain ⟨P, Q, hP, e1, e2⟩ := slcs_part l k h
  rw [e2, e1]
  have h0 : ∀ (S : List Value) (v : Value), 0 < S.length → (P ++ (S ++ Q)).set (k * 9) v = P ++ (S.set 0 v ++ Q) := fun S v hS => set_mid (i := 0) v hP hS
  rw [h0 _ _ (by rw [slc_length]; omega)]
  iterate 8 rw [set_mid _ hP (by simp only [List.length_set, slc_length]; omega)]
  subst hx
  rfl
theorem slot_stNd8 {l : List Sl} {k : Nat} (h : k < l.length) (y : Sl) (x : Nd) (hx : y.it.getD ndz = x) (hy : y.gen = l[k].gen) :
    ((((((((slcs l).set (k * 9) (.int .i64 x.k)).set (k * 9 + 1) (.int .i64 x.v)).set (k * 9 + 2) (.int .i64 x.l.1)).set (k * 9 + 3) (.int .i64 x.l.2)).set (k * 9 + 4) (.int .i64 x.r.1)).set (k * 9 + 5) (.int .i64 x.r.2)).set (k * 9 + 6) (.int .i64 x.h)).set (k * 9 + 7) (.bool y.it.isSome) = slcs (l.set k y) := by
  obtain ⟨P, Q, hP, e1, e2⟩ := slcs_part l k h
  rw [e2, e1]
  have h0 : ∀ (S : List Value) (v : Value), 0 < S.length → (P ++ (S ++ Q)).set (k * 9) v = P ++ (S.set 0 v ++ Q) := fun S v hS => set_mid (i := 0) v hP hS
  rw [h0 _ _ (by rw [slc_length]; omega)]
  iterate 7 rw [set_mid _ hP (by simp only [List.length_set, slc_length]; omega)]
  subst hx
  unfold slc
  rw [hy]
  rfl
theorem Am.stored {w : World} {g most b c : Nat} {vf : Value} {B : Ar} (h : Am w g most (.slice (some ⟨b, 0, none⟩) B.sl.length c) vf B) (j : Nat) (hj : j < B.sl.length) (y : Sl) (x : Nd) (hx : y.it.getD ndz = x) :
    Am (((stNd w b (j * 9) x).setCell ⟨b, j * 9 + 7, none⟩ (.bool y.it.isSome)).setCell ⟨b, j * 9 + 8, none⟩ (.int .i64 (y.gen : Int))) g most (.slice (some ⟨b, 0, none⟩) B.sl.length c) vf ⟨B.sl.set j y, B.fr⟩ := by
  have hbg : b ≠ g := fun e => h.neS (by rw [e]; rfl)
  have s1 := row_stNd (o := j * 9) h.sl x
  have s2 := (s1.stored (j * 9 + 7) (.bool y.it.isSome)).1
  have s3 := (s2.stored (j * 9 + 8) (.int .i64 (y.gen : Int))).1
  rw [slot_stNd hj y x hx] at s3
  have hk := (((But.stNd w b (j * 9) x).set (j * 9 + 7) (.bool y.it.isSome)).set (j * 9 + 8) (.int .i64 (y.gen : Int))).block
  refine ⟨(hk g (fun e => hbg e.symm)).trans h.blk, by rw [List.length_set]; exact s3, row_kept h.fr fun k hk' => hk k ?_⟩
  rintro rfl
  exact h.neSF rfl hk'
theorem Am.stored2 {w : World} {g most b c : Nat} {vf : Value} {B : Ar} (h : Am w g most (.slice (some ⟨b, 0, none⟩) B.sl.length c) vf B) (j : Nat) (hj : j < B.sl.length) (y : Sl) (x : Nd) (hx : y.it.getD ndz = x) (hy : y.gen = B.sl[j].gen) :
    Am ((stNd w b (j * 9) x).setCell ⟨b, j * 9 + 7, none⟩ (.bool y.it.isSome)) g most (.slice (some ⟨b, 0, none⟩) B.sl.length c) vf ⟨B.sl.set j y, B.fr⟩ := by
  have hbg : b ≠ g := fun e => h.neS (by rw [e]; rfl)
  have s1 := row_stNd (o := j * 9) h.sl x
  have s2 := (s1.stored (j * 9 + 7) (.bool y.it.isSome)).1
  rw [slot_stNd8 hj y x hx hy] at s2
  have hk := ((But.stNd w b (j * 9) x).set (j * 9 + 7) (.bool y.it.isSome)).block
  refine ⟨(hk g (fun e => hbg e.symm)).trans h.blk, by rw [List.length_set]; exact s2, row_kept h.fr fun k hk' => hk k ?_⟩
  rintro rfl
  exact h.neSF rfl hk'
/-- The nine cells of a slot, whatever lies there. -/
theorem Am.all {w : World} {g most : Nat} {b c : Nat} {vf : Value} {A : Ar} (h : Am w g most (.slice (some ⟨b, 0, none⟩) A.sl.length c) vf A) (k : Nat) (hk : k < A.sl.length) {n : Nd} (hn : A.sl[k].it.getD ndz = n) :
    w.cell? ⟨b, k * 9, none⟩ = some (.int .i64 n.k) ∧ w.cell? ⟨b, k * 9 + 1, none⟩ = some (.int .i64 n.v) ∧ w.cell? ⟨b, k * 9 + 2, none⟩ = some (.int .i64 n.l.1) ∧ w.cell? ⟨b, k * 9 + 3, none⟩ = some (.int .i64 n.l.2) ∧ w.cell? ⟨b, k * 9 + 4, none⟩ = some (.int .i64 n.r.1) ∧ w.cell? ⟨b, k * 9 + 5, none⟩ = some (.int .i64 n.r.2) ∧ w.cell? ⟨b, k * 9 + 6, none⟩ = some (.int .i64 n.h) := by
  have h0 := h.nine k hk
  unfold slc at h0
  rw [hn] at h0
  exact ⟨h0 0 (by omega), h0 1 (by omega), h0 2 (by omega), h0 3 (by omega), h0 4 (by omega), h0 5 (by omega), h0 6 (by omega)⟩
theorem live_eq (A : Ar) : A.live = (A.sl.filter (·.it.isSome)).length := rfl
theorem An.put {w' : World} {g most U : Nat} {A : Ar} {w : World} {fs : List Nat} {b c : Nat} {vf : Value} {x : Nd} (h : An w g most U A fs) (hlt : A.live < most) (hM : Am w' g most (.slice (some ⟨b, 0, none⟩) (A.put x).sl.length c) vf (A.put x)) :
    An w' g most (U + 1) (A.put x) (g :: b :: vf.ownBlock.toList) := by
  have hlive := h.arw.live_put x
  have hc := h.cnt
  have hl := h.len
  refine ⟨h.arw.put x, ?_, by omega, h.mle, ?_, ?_, _, _, hM, by simp [Value.ownBlock]⟩
  · rcases h.arw.nxt with ⟨r, hf, h1, h2, k, hk, hn, hg, hp⟩ | ⟨hf, hn, hp⟩
    · rw [hlive, hp x]
      rw [hf] at hc
      simp at hc ⊢
      omega
    · rw [hlive, hp x]
      rw [hf] at hc
      simp at hc ⊢
      omega
  · intro k hk
    rcases h.arw.nxt with ⟨r, hf, h1, h2, k', hk', hn, hg, hp⟩ | ⟨hf, hn, hp⟩
    · rw [hp x] at hk
      have := h.use k' (List.mem_of_getElem? hk')
      rcases List.mem_or_eq_of_mem_set hk with hk | rfl
      · have := h.use k hk
        omega
      · show k'.gen + 1 ≤ U + 1
        omega
    · rw [hp x] at hk
      rcases List.mem_append.1 hk with hk | hk
      · have := h.use k hk
        omega
      · rw [List.mem_singleton.1 hk]
        show 1 ≤ U + 1
        omega
  · rcases h.arw.nxt with ⟨r, hf, h1, h2, k', hk', hn, hg, hp⟩ | ⟨hf, hn, hp⟩
    · rw [hp x]
      simp
      omega
    · rw [hp x]
      simp
      omega
theorem An.put_len {g most U : Nat} {A : Ar} {w : World} {fs : List Nat} (h : An w g most U A fs) (x : Nd) : (A.put x).sl.length ≤ U + 1 ∧ A.nxt.2 ≤ U + 1 := by
  have hl := h.len
  rcases h.arw.nxt with ⟨r, hf, h1, h2, k', hk', hn, hg, hp⟩ | ⟨hf, hn, hp⟩
  · have := h.use k' (List.mem_of_getElem? hk')
    rw [hp x, hg]
    simp
    omega
  · rw [hp x, hn]
    simp
    omega
end Go.Proofs.Ytcckamajiebgeaa
