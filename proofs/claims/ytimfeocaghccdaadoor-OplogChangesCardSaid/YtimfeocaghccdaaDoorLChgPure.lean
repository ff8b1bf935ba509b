/-
  For OplogChanges: changes that can be read; a batch whose changes are kept; what the changes say of a node. Conditions: as Put's.
-/
import Derived.Test.YtimfeocaghccdaaDoorLM3
namespace Go.Proofs.YtimfeocaghccdaaDoor
set_option maxRecDepth 100000
open Go.RowKit Go.Maps
set_option linter.unusedVariables false
set_option linter.unusedSimpArgs false
set_option maxRecDepth 100000

theorem chcs_at : ∀ (l : List Ch) (j i : Nat) (h : j < l.length), i < 7 → (chcs l)[j * 7 + i]? = (chc l[j])[i]?
  | [], j, i, h, _ => by simp at h
  | o :: os, 0, i, h, hi => by
    simp only [chcs, List.map_cons, List.flatten_cons, Nat.zero_mul, Nat.zero_add, List.getElem_cons_zero]
    rw [List.getElem?_append_left (by simpa [chc] using hi)]
  | o :: os, j + 1, i, h, hi => by
    have := chcs_at os j i (by simpa using h) hi
    simp only [chcs, List.map_cons, List.flatten_cons, List.getElem_cons_succ] at this ⊢
    rw [← this, List.getElem?_append_right (by simp [chc]; omega)]
    congr 1
    simp [chc]
    omega
/-- One of the changes can be read. -/
theorem OwnChs.seven {w : World} {base : Nat} {A : Option Addr} {n c : Nat} {l : List Ch} (h : OwnChs w base (.slice A n c) l) (j : Nat) (hj : j < l.length) :
    ∃ b, A = some ⟨b, 0, none⟩ ∧ w.cell? ⟨b, j * 7, none⟩ = some (.int .i64 l[j].1) ∧ w.cell? ⟨b, j * 7 + 1, none⟩ = some (.bool (spI l[j].2.1)) ∧ w.cell? ⟨b, j * 7 + 2, none⟩ = some (.int .i64 (spT l[j].2.1)) ∧ w.cell? ⟨b, j * 7 + 3, none⟩ = some (.string (bs (spN l[j].2.1))) ∧ w.cell? ⟨b, j * 7 + 4, none⟩ = some (.bool (spI l[j].2.2)) ∧ w.cell? ⟨b, j * 7 + 5, none⟩ = some (.int .i64 (spT l[j].2.2)) ∧ w.cell? ⟨b, j * 7 + 6, none⟩ = some (.string (bs (spN l[j].2.2))) := by
  have hrow := h
  rcases h.2 with ⟨h0, h1⟩ | ⟨g, cap, cur, e, hb, hg, hn⟩
  · omega
  · cases e
    have hc : ∀ i u, i < 7 → (chc l[j])[i]? = some u → w.cell? ⟨g, j * 7 + i, none⟩ = some u := fun i u hi hu => by
      have := World.ownsRow.cells (g := g) hrow rfl (j * 7 + i) u ((chcs_at l j i hj hi).trans hu)
      rwa [Addr.add_lit, Nat.zero_add] at this
    exact ⟨g, rfl, hc 0 _ (by omega) rfl, hc 1 _ (by omega) rfl, hc 2 _ (by omega) rfl, hc 3 _ (by omega) rfl, hc 4 _ (by omega) rfl, hc 5 _ (by omega) rfl, hc 6 _ (by omega) rfl⟩
/-- What is told when L became M. -/
def chL (L M : List O5) : List Ch := chs (runS L).1 (runS M).1 (M.map (·.d))
/-- A batch was put; its changes lie in a row apart. -/
def PutC (w0 w : World) (g most : Nat) (L M : List O5) (d : Nat) (fs : List Nat) (e : Ending) (w' : World) : Prop :=
  ∃ A c fs', e = .returned (.tuple #[.int .i64 (d : Int), .slice A (chL L M).length c, .int .i64 0]) ∧ OwnChs w' w.heap.size (.slice A (chL L M).length c) (chL L M) ∧ Lwg w0 w' g most M fs' ∧ Mod fs w w' ∧ ∀ k ∈ fs', k ∈ fs ∨ w.heap.size ≤ k
theorem put_chs (w0 : World) (hE : Env w0) (g most : Nat) (L : List O5) (fs : List Nat) (A : Option Addr) (c : Nat) (os : List O5) (hr : AllR os) (hm : ∀ o ∈ os, o.l.length ≤ maxLen) (hn : L.length + os.length ≤ 800) (hf : (putO L os).length ≤ most) (w : World) (h : Lwg w0 w g most L fs) (hO : Ops w A c os) :
    Calls Tryd.prog 8 #[.pointer (some ⟨g, 0, none⟩), .slice A os.length c] w (PutC w0 w g most L (putO L os) ((putO L os).length - L.length) fs) := by
  have e0 : putE most L os = 0 := by
    unfold putE
    rw [allR_any hr, if_neg (by decide), if_neg (by omega)]
  have eM : putL most L os = putO L os := by unfold putL; rw [if_pos e0]
  refine (put_any w0 hE g most L fs A c os hm hn w h hO).mono ?_
  rintro e w' ⟨v, fs', rfl, hC, hL, hm, hf, -⟩
  rw [eM] at hC hL
  obtain ⟨A', c', rfl⟩ := hC.form
  have h1 := putF_le (f := ocF) os L
  have h2 : (putO L os).length = (putF ocF L os).length := rfl
  refine ⟨A', c', fs', ?_, hC, hL, hm, hf⟩
  rw [eM, e0]
  congr 4
  simp
  omega
/-- Where a node is when so many changes were put in their places. -/
def wantK (A B : List Kd) (D : List Int) (k : Nat) (n : Int) : Option Kd := if n ∈ D.take k then fnd B n else fnd A n
theorem wantK_zero (A B : List Kd) (D : List Int) (n : Int) : wantK A B D 0 n = fnd A n := by simp [wantK]
theorem wantK_skip {A B : List Kd} {D : List Int} {k : Nat} {n : Int} (hk : k < D.length) (h : D[k] ≠ n) : wantK A B D (k + 1) n = wantK A B D k n := by
  unfold wantK
  have : n ∈ D.take (k + 1) ↔ n ∈ D.take k := by
    rw [List.take_succ_eq_append_getElem hk, List.mem_append, List.mem_singleton]
    constructor
    · rintro (h1 | h1)
      · exact h1
      · exact absurd h1.symm h
    · exact .inl
  by_cases e : n ∈ D.take k
  · rw [if_pos e, if_pos (this.2 e)]
  · rw [if_neg e, if_neg (fun h => e (this.1 h))]
theorem wantK_hit {A B : List Kd} {D : List Int} {k : Nat} (hk : k < D.length) : wantK A B D (k + 1) D[k] = fnd B D[k] := by
  unfold wantK
  rw [if_pos]
  rw [List.take_succ_eq_append_getElem hk]
  exact List.mem_append_right _ (List.mem_singleton.2 rfl)
theorem srt_lt {D : List Int} (hs : SrtF cm D) {i j : Nat} (hij : i < j) (hj : j < D.length) : D[i] < D[j] := cm_lt.1 (List.pairwise_iff_getElem.1 hs i j (by omega) hj hij)
theorem wantK_was {A B : List Kd} {D : List Int} (hs : SrtF cm D) {k : Nat} (hk : k < D.length) : wantK A B D k D[k] = fnd A D[k] := by
  unfold wantK
  rw [if_neg]
  intro h
  obtain ⟨i, hi, e⟩ := List.getElem_of_mem h
  rw [List.length_take] at hi
  rw [List.getElem_take] at e
  have := srt_lt hs (show i < k by omega) hk
  omega
/-- What the changes of a batch are. -/
structure ChOk (A B : List Kd) (D : List Int) (C : List Ch) : Prop where
  len : C.length = D.length
  at_ : ∀ k (h : k < D.length), C[k]? = some (D[k], fnd A D[k], fnd B D[k])
  ne : ∀ k (h : k < D.length), fnd A D[k] ≠ fnd B D[k]
  srt : SrtF cm D
  bnd : ∀ n ∈ D, 256 ≤ n ∧ n ≤ 263
  all : ∀ n, wantK A B D D.length n = fnd B n
theorem chL_ok {L M : List O5} (hs : ∀ o ∈ L, o ∈ M) (hb : ∀ o ∈ M, 256 ≤ o.d ∧ o.d ≤ 263) : ChOk (runS L).1 (runS M).1 (dif (runS L).1 (runS M).1 (M.map (·.d))) (chL L M) := by
  have hmem : ∀ k (h : k < (dif (runS L).1 (runS M).1 (M.map (·.d))).length), (dif (runS L).1 (runS M).1 (M.map (·.d)))[k] ∈ dif (runS L).1 (runS M).1 (M.map (·.d)) := fun k h => List.getElem_mem h
  refine ⟨by simp [chL, chs], fun k h => ?_, fun k h => (mem_dif.1 (hmem k h)).2, dif_srt _ _ _, fun n hn => ?_, fun n => ?_⟩
  · unfold chL chs
    rw [List.getElem?_map, List.getElem?_eq_getElem h]
    rfl
  · obtain ⟨o, ho, rfl⟩ := List.mem_map.1 (mem_dif.1 hn).1
    exact hb o ho
  · unfold wantK
    rw [List.take_length]
    by_cases e : n ∈ dif (runS L).1 (runS M).1 (M.map (·.d))
    · rw [if_pos e]
    · rw [if_neg e]
      have := (not_congr (dif_all hs)).1 e
      exact Classical.not_not.1 this
theorem ofT_d (ts : List T5) : ∀ o ∈ ts.map ofT, 256 ≤ o.d ∧ o.d ≤ 263 := by
  intro o ho
  obtain ⟨t, _, rfl⟩ := List.mem_map.1 ho
  show 256 ≤ 256 + (t.c : Int) % 8 ∧ 256 + (t.c : Int) % 8 ≤ 263
  omega
/-- What is where: are two spots of a node one? -/
theorem sp_same {a b : Option Kd} (h : spI a = spI b ∧ spT a = spT b ∧ spN a = spN b) (hn : ∀ x y, a = some x → b = some y → x.nd = y.nd) : a = b := by
  obtain ⟨h1, h2, h3⟩ := h
  cases a with
  | none => cases b with
    | none => rfl
    | some y => simp [spI] at h1
  | some x => cases b with
    | none => simp [spI] at h1
    | some y =>
      have := hn x y rfl rfl
      simp [spT, spN] at h2 h3
      obtain ⟨t1, m1, d1⟩ := x
      obtain ⟨t2, m2, d2⟩ := y
      simp at h2 h3 this
      subst h2 h3 this
      rfl
end Go.Proofs.YtimfeocaghccdaaDoor
