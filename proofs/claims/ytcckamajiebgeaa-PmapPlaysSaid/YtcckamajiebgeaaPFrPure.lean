/-
  What is gone is freed, plain: the new version stands, and as many nodes lie there as it has. No conditions.
-/
import Derived.Test.YtcckamajiebgeaaPEdit
namespace Go.Proofs.Ytcckamajiebgeaa
set_option linter.unusedVariables false
set_option linter.unusedSimpArgs false

theorem get_split {A : Ar} {s t : Int} {x : Nd} (h : A.get s t = some x) : 1 ≤ s ∧ ∃ k, A.sl[s.toNat - 1]? = some k ∧ (k.gen : Int) = t ∧ k.it = some x := by
  unfold Ar.get at h
  by_cases h1 : 1 ≤ s
  · rw [if_pos h1] at h
    cases hk : A.sl[s.toNat - 1]? with
    | none => rw [hk] at h; simp at h
    | some k =>
      rw [hk] at h
      simp only at h
      by_cases h2 : (k.gen : Int) = t
      · rw [if_pos h2] at h
        exact ⟨h1, k, rfl, h2, h⟩
      · rw [if_neg h2] at h
        simp at h
  · rw [if_neg h1] at h
    simp at h
theorem free_other {A : Ar} {s t s' t' : Int} {x y : Nd} (h : A.get s t = some x) (h' : A.get s' t' = some y) (hne : (s', t') ≠ (s, t)) : (A.free s.toNat).get s' t' = some y := by
  obtain ⟨h1, k, hk, hg, hi⟩ := get_split h
  obtain ⟨h1', k', hk', hg', hi'⟩ := get_split h'
  have hs : s ≠ s' := by
    rintro rfl
    rw [hk] at hk'
    obtain rfl := Option.some.inj hk'
    exact hne (by rw [← hg, ← hg'])
  have hidx : s.toNat - 1 ≠ s'.toNat - 1 := by omega
  unfold Ar.get Ar.free
  rw [if_pos h1']
  simp only [List.getElem?_set_ne hidx, hk']
  rw [if_pos hg', hi']
theorem free_live {A : Ar} {s t : Int} {x : Nd} (h : A.get s t = some x) : (A.free s.toNat).live + 1 = A.live := by
  obtain ⟨h1, k, hk, hg, hi⟩ := get_split h
  have := live_free (A := A) (s := s.toNat) (g := k.gen) (x := x) (by rw [show ((s.toNat : Nat) : Int) = s by omega, hg]; exact h)
  exact this
/-- Freed, one by one. -/
def frs (A : Ar) (l : List (Int × Int)) : Ar := l.foldl (fun A h => A.free h.1.toNat) A
theorem frs_ok : ∀ (l : List (Int × Int)) (A : Ar), (∀ h ∈ l, (A.get h.1 h.2).isSome = true) → l.Nodup → (frs A l).live + l.length = A.live ∧ ∀ h y, h ∉ l → A.get h.1 h.2 = some y → (frs A l).get h.1 h.2 = some y
  | [], A, _, _ => ⟨rfl, fun _ _ _ h => h⟩
  | g :: l, A, ha, hn => by
    obtain ⟨hn1, hn2⟩ := List.nodup_cons.1 hn
    obtain ⟨x, hx⟩ := Option.isSome_iff_exists.1 (ha g (List.mem_cons_self ..))
    have hne : ∀ {h : Int × Int}, h ≠ g → (h.1, h.2) ≠ (g.1, g.2) := fun h => h
    obtain ⟨i1, i2⟩ := frs_ok l (A.free g.1.toNat) (fun h hh => by
      obtain ⟨y, hy⟩ := Option.isSome_iff_exists.1 (ha h (List.mem_cons_of_mem _ hh))
      rw [free_other hx hy (hne fun e => hn1 (e ▸ hh))]
      rfl) hn2
    refine ⟨?_, fun h y hm hy => i2 h y (fun e => hm (List.mem_cons_of_mem _ e)) (free_other hx hy (hne fun e => hm (by rw [e]; exact List.mem_cons_self ..)))⟩
    have := free_live hx
    show (frs (A.free g.1.toNat) l).live + (l.length + 1) = A.live
    omega
theorem frs_take {A : Ar} {l : List (Int × Int)} (k : Nat) (hk : k < l.length) : frs A (l.take (k + 1)) = (frs A (l.take k)).free (l[k]).1.toNat := by
  rw [List.take_succ_eq_append_getElem hk]
  unfold frs
  rw [List.foldl_append]
  rfl
theorem Tr.Lies.keep {F G : Int → Int → Option Nd} : ∀ {T : Tr}, (∀ h ∈ T.hds, ∀ x, F h.1 h.2 = some x → G h.1 h.2 = some x) → T.Lies F → T.Lies G
  | .nil, _, _ => trivial
  | .node g k v l r, hk, ⟨h1, h2, h3, h4, h5, h6⟩ =>
    ⟨hk g (by simp [Tr.hds]) _ h1, h2, h3, h4, h5.keep (fun h hh => hk h (by simp [Tr.hds, hh])), h6.keep (fun h hh => hk h (by simp [Tr.hds, hh]))⟩
theorem miH_mem {a b : List (Int × Int)} {x : Int × Int} : x ∈ miH a b ↔ x ∈ a ∧ x ∉ b := by simp [miH]
theorem miH_nodup {a b : List (Int × Int)} (h : a.Nodup) : (miH a b).Nodup := h.sublist List.filter_sublist
theorem miH_count {a b : List (Int × Int)} (ha : a.Nodup) (hb : b.Nodup) : (miH a b).length + b.length = (miH b a).length + a.length := by
  have split : ∀ (a b : List (Int × Int)), (miH a b).length + (a.filter fun x => decide (x ∈ b)).length = a.length := by
    intro a b
    induction a with
    | nil => rfl
    | cons x a ih =>
      unfold miH at ih ⊢
      by_cases h : x ∈ b
      · rw [List.filter_cons_of_neg (by simp [h]), List.filter_cons_of_pos (by simp [h])]
        simp only [List.length_cons]
        omega
      · rw [List.filter_cons_of_pos (by simp [h]), List.filter_cons_of_neg (by simp [h])]
        simp only [List.length_cons]
        omega
  have hp : (a.filter fun x => decide (x ∈ b)).Perm (b.filter fun x => decide (x ∈ a)) := by
    rw [List.perm_ext_iff_of_nodup (ha.sublist List.filter_sublist) (hb.sublist List.filter_sublist)]
    intro x
    simp [and_comm]
  have h1 := split a b
  have h2 := split b a
  have h3 := hp.length_eq
  omega
/-- Behind an edit, what is gone being freed so far. -/
structure Frd (A A' : Ar) (T T' : Tr) (made gone : List (Int × Int)) : Prop where
  all : ∀ h ∈ gone, (A'.get h.1 h.2).isSome = true ∧ i64B h.1 ∧ i64B h.2
  nd : gone.Nodup
  st : Stands A' T'
  dj : ∀ h ∈ T'.hds, h ∉ gone
  cnt : A'.live + T.hds.length = A.live + T'.hds.length + gone.length
  gl : gone.length ≤ T.hds.length
theorem Frd.of {P : MapPred} {W w w' : World} {gm most U : Nat} {A : Ar} {T : Tr} {ps : List Pp} {vm vg : Value} {T' : Tr} {A' : Ar} {U' : Nat} {made gone : List (Int × Int)} (E : Ed P W w w' gm most U A T ps vm vg T' A' U' made gone) (hs : Stands A T) : Frd A A' T T' made gone := by
  have hn := hs.lies.nodup hs.ord
  have hn' := E.st.lies.nodup E.st.ord
  have hgm : ∀ h ∈ gone, h ∈ T.hds ∧ h ∉ T'.hds := fun h hh => miH_mem.1 (E.gn.mem_iff.1 hh)
  have c1 := miH_count hn hn'
  have c2 := E.gn.length_eq
  have c3 := E.mad.length_eq
  have c4 := E.live
  refine ⟨fun h hh => ?_, E.gn.nodup_iff.2 (miH_nodup hn), E.st, fun h hh hg => (hgm h hg).2 hh, by omega, by rw [c2]; exact miH_length _ _⟩
  obtain ⟨h1, h2, h3, h4⟩ := hs.lies.at h (hgm h hh).1
  obtain ⟨x, hx⟩ := Option.isSome_iff_exists.1 h1
  exact ⟨by rw [E.mono _ _ _ hx]; rfl, h3, h4⟩
theorem Frd.next {A A' : Ar} {T T' : Tr} {made gone : List (Int × Int)} (h : Frd A A' T T' made gone) {j : Nat} (hj : j < gone.length) : ∃ x, (frs A' (gone.take j)).get (gone[j]).1 (gone[j]).2 = some x := by
  obtain ⟨x, hx⟩ := Option.isSome_iff_exists.1 (h.all _ (List.getElem_mem hj)).1
  refine ⟨x, (frs_ok (gone.take j) A' (fun g hg => (h.all g (List.mem_of_mem_take hg)).1) (h.nd.sublist (List.take_sublist ..))).2 _ x (fun hm => ?_) hx⟩
  obtain ⟨i, hi, he⟩ := List.getElem_of_mem hm
  rw [List.length_take] at hi
  rw [List.getElem_take] at he
  have := (List.getElem_inj h.nd).1 he
  omega
theorem Frd.done {A A' : Ar} {T T' : Tr} {made gone : List (Int × Int)} (h : Frd A A' T T' made gone) (hc : A.live = T.hds.length) : Stands (frs A' gone) T' ∧ (frs A' gone).live = T'.prs.length := by
  obtain ⟨h1, h2⟩ := frs_ok gone A' (fun g hg => (h.all g hg).1) h.nd
  have h3 := h.cnt
  have h4 := T'.hds_prs
  exact ⟨⟨h.st.lies.keep fun g hg x hx => h2 g x (h.dj g hg) hx, h.st.bal, h.st.ord⟩, by omega⟩
end Go.Proofs.Ytcckamajiebgeaa
