/-
  ArenaOnce: which handles lie, and which are gone, whatever is put and freed. No conditions.
-/
import Derived.Test.YtooejagekkgpaaaAOnce
namespace Go.Proofs.Ytooejagekkgpaaa
set_option linter.unusedVariables false
set_option linter.unusedSimpArgs false

/-- Handles that lie, and such as are gone. -/
structure Onc (A : Ar) (al go : List (Nat × Nat)) : Prop where
  arw : Arw A
  told : ∀ p ∈ al ++ go, Told A p.1 p.2
  there : ∀ p ∈ al, ∃ x, A.get p.1 p.2 = some x
  gone : ∀ p ∈ go, A.get p.1 p.2 = none
  nd : al.Nodup
  liv : A.live = al.length
theorem Onc.start : Onc ⟨[], []⟩ [] [] := ⟨Arw.start, by simp, by simp, by simp, List.nodup_nil, rfl⟩
theorem Onc.new {A : Ar} {al go : List (Nat × Nat)} (h : Onc A al go) (x : Int) : A.nxt ∉ al ∧ A.nxt ∉ go ∧ 1 ≤ A.nxt.1 ∧ 1 ≤ A.nxt.2 := by
  obtain ⟨_, h2, _, h4, h5⟩ := h.arw.told_new x
  exact ⟨fun hm => h2 (h.told _ (List.mem_append_left _ hm)), fun hm => h2 (h.told _ (List.mem_append_right _ hm)), h4, h5⟩
theorem Onc.put {A : Ar} {al go : List (Nat × Nat)} (h : Onc A al go) (x : Int) : Onc (A.put x) (al ++ [A.nxt]) go := by
  obtain ⟨h1, h2, h3, h4, h5⟩ := h.arw.told_new x
  refine ⟨h.arw.put x, ?_, ?_, ?_, ?_, ?_⟩
  · intro p hp
    simp only [List.mem_append, List.mem_singleton] at hp
    rcases hp with (hp | rfl) | hp
    · exact (h.arw.told_put x (h.told p (List.mem_append_left _ hp))).1
    · exact h1
    · exact (h.arw.told_put x (h.told p (List.mem_append_right _ hp))).1
  · intro p hp
    rcases List.mem_append.1 hp with hp | hp
    · rw [(h.arw.told_put x (h.told p (List.mem_append_left _ hp))).2]
      exact h.there p hp
    · rw [List.mem_singleton.1 hp]
      exact ⟨x, h3⟩
  · intro p hp
    rw [(h.arw.told_put x (h.told p (List.mem_append_right _ hp))).2]
    exact h.gone p hp
  · rw [List.nodup_append]
    refine ⟨h.nd, by simp, fun a ha b hb e => ?_⟩
    rw [List.mem_singleton.1 hb] at e
    exact (h.new x).1 (e ▸ ha)
  · rw [h.arw.live_put x, h.liv, List.length_append]
    rfl
theorem nodup_cut {α : Type} {l : List α} (h : l.Nodup) (k : Nat) (hk : k < l.length) : l[k] ∉ l.take k ++ l.drop (k + 1) ∧ (l.take k ++ l.drop (k + 1)).Nodup := by
  have e : l = l.take k ++ l[k] :: l.drop (k + 1) := by
    conv => lhs; rw [← List.take_append_drop k l, List.drop_eq_getElem_cons hk]
  rw [e] at h
  rw [List.nodup_append] at h
  obtain ⟨h1, h2, h3⟩ := h
  rw [List.nodup_cons] at h2
  refine ⟨fun hm => ?_, ?_⟩
  · rcases List.mem_append.1 hm with hm | hm
    · exact h3 _ hm _ (List.mem_cons_self ..) rfl
    · exact h2.1 hm
  · rw [List.nodup_append]
    exact ⟨h1, h2.2, fun a ha b hb => h3 a ha b (List.mem_cons_of_mem _ hb)⟩
theorem Onc.free {A : Ar} {al go : List (Nat × Nat)} (h : Onc A al go) (k : Nat) (hk : k < al.length) : Onc (A.free al[k].1) (al.take k ++ al.drop (k + 1)) (go ++ [al[k]]) := by
  obtain ⟨x, hx⟩ := h.there al[k] (List.getElem_mem hk)
  obtain ⟨h1, h2, h3⟩ := get_free hx
  obtain ⟨n1, n2⟩ := nodup_cut h.nd k hk
  have ha : ∀ p, p ∈ al.take k ++ al.drop (k + 1) → p ∈ al := fun p hp => by
    rcases List.mem_append.1 hp with hp | hp
    · exact List.mem_of_mem_take hp
    · exact List.mem_of_mem_drop hp
  have hT : ∀ p ∈ al ++ go, Told (A.free al[k].1) p.1 p.2 := fun p hp => h2 _ _ (h.told p hp)
  have hf := h.arw.free hx
  rw [Int.toNat_natCast] at hf
  refine ⟨hf, ?_, ?_, ?_, n2, ?_⟩
  · intro p hp
    simp only [List.mem_append, List.mem_singleton] at hp
    rcases hp with hp | hp | rfl
    · exact hT p (List.mem_append_left _ (ha p (List.mem_append.2 hp)))
    · exact hT p (List.mem_append_right _ hp)
    · exact hT _ (List.mem_append_left _ (List.getElem_mem hk))
  · intro p hp
    have hne : ¬ (p.1 = al[k].1 ∧ p.2 = al[k].2) := fun ⟨e1, e2⟩ => n1 ((Prod.ext e1 e2 : p = al[k]) ▸ hp)
    rw [h3 _ _ (h.told p (List.mem_append_left _ (ha p hp))) hne]
    exact h.there p (ha p hp)
  · intro p hp
    rcases List.mem_append.1 hp with hp | hp
    · by_cases e : p = al[k]
      · rw [e]
        exact h1
      · have hne : ¬ (p.1 = al[k].1 ∧ p.2 = al[k].2) := fun ⟨e1, e2⟩ => e (Prod.ext e1 e2)
        rw [h3 _ _ (h.told p (List.mem_append_right _ hp)) hne]
        exact h.gone p hp
    · rw [List.mem_singleton.1 hp]
      exact h1
  · have := live_free hx
    have hl := h.liv
    rw [List.length_append, List.length_take, List.length_drop]
    omega
/-- Handles as numbers. -/
def ni (p : Nat × Nat) : Int × Int := ((p.1 : Int), (p.2 : Int))
def nis (l : List (Nat × Nat)) : List (Int × Int) := l.map ni
theorem nis_length (l : List (Nat × Nat)) : (nis l).length = l.length := by simp [nis]
theorem nis_append (a b : List (Nat × Nat)) : nis (a ++ b) = nis a ++ nis b := by simp [nis]
theorem nis_at (l : List (Nat × Nat)) (k : Nat) (h : k < l.length) : (nis l)[k]'(by rw [nis_length]; exact h) = ((l[k].1 : Int), (l[k].2 : Int)) := by simp [nis, ni]
theorem nis_mem {l : List (Nat × Nat)} {p : Nat × Nat} : ((p.1 : Int), (p.2 : Int)) ∈ nis l ↔ p ∈ l := by
  unfold nis
  rw [List.mem_map]
  constructor
  · rintro ⟨q, hq, e⟩
    simp [ni] at e
    obtain ⟨e1, e2⟩ := e
    have e : q = p := Prod.ext (by omega) (by omega)
    rwa [← e]
  · intro h
    exact ⟨p, h, rfl⟩
theorem nis_take (l : List (Nat × Nat)) (k : Nat) : nis (l.take k) = (nis l).take k := by simp [nis, List.map_take]
theorem nis_drop (l : List (Nat × Nat)) (k : Nat) : nis (l.drop k) = (nis l).drop k := by simp [nis, List.map_drop]
end Go.Proofs.Ytooejagekkgpaaa
