/-
  An arena, plain: which handles were told, what stays what it was, whatever is put and freed beside it. No conditions.
-/
import Derived.Test.YtcckamajiebgeaaNAPure
namespace Go.Proofs.Ytcckamajiebgeaa
set_option linter.unusedVariables false
set_option linter.unusedSimpArgs false

/-- An arena that came of puts and frees. -/
def Arw (A : Ar) : Prop := ∃ L N, Tied A L N
theorem Arw.start : Arw ⟨[], []⟩ := ⟨[], 0, Tied.start⟩
theorem Arw.put {A : Ar} (h : Arw A) (x : Nd) : Arw (A.put x) := by
  obtain ⟨L, N, h⟩ := h
  exact ⟨_, N, (h.put x).1⟩
theorem get_some {A : Ar} {s g : Int} {x : Nd} (h : A.get s g = some x) : 1 ≤ s ∧ ∃ k, A.sl[s.toNat - 1]? = some k ∧ (k.gen : Int) = g ∧ k.it = some x := by
  unfold Ar.get at h
  split at h
  · rename_i h1
    split at h
    · rename_i k hk
      split at h
      · rename_i hg
        exact ⟨h1, k, hk, hg, h⟩
      · cases h
    · cases h
  · cases h
theorem Arw.free {A : Ar} (h : Arw A) {s g : Int} {x : Nd} (hg : A.get s g = some x) : Arw (A.free s.toNat) := by
  obtain ⟨L, N, h⟩ := h
  obtain ⟨e, he, h1, h2, h3, h4⟩ := h.miss hg
  obtain ⟨P, Q, rfl⟩ := List.append_of_mem he
  have := h.free (e' := { e with lies := false, fd := N + 1 }) rfl h3 rfl rfl rfl rfl
  rw [show s.toNat = e.s by omega]
  exact ⟨_, _, this⟩
/-- What was told: a slot that was used, at most so often. -/
def Told (A : Ar) (s g : Nat) : Prop := 1 ≤ s ∧ 1 ≤ g ∧ ∃ k, A.sl[s - 1]? = some k ∧ g ≤ k.gen
theorem Told.slot {A : Ar} {s g : Nat} (h : Told A s g) : s ≤ A.sl.length := by
  obtain ⟨h1, _, k, hk, _⟩ := h
  have := (List.getElem?_eq_some_iff.1 hk).1
  omega
theorem Arw.nxt {A : Ar} (h : Arw A) : (∃ r, A.fr = A.nxt.1 :: r ∧ 1 ≤ A.nxt.1 ∧ A.nxt.1 ≤ A.sl.length ∧ ∃ k, A.sl[A.nxt.1 - 1]? = some k ∧ k.it = none ∧ A.nxt.2 = k.gen + 1 ∧ ∀ x, A.put x = ⟨A.sl.set (A.nxt.1 - 1) ⟨k.gen + 1, some x⟩, r⟩) ∨ (A.fr = [] ∧ A.nxt = (A.sl.length + 1, 1) ∧ ∀ x, A.put x = ⟨A.sl ++ [⟨1, some x⟩], []⟩) := by
  obtain ⟨L, N, h⟩ := h
  cases hf : A.fr with
  | nil => exact .inr ⟨rfl, by unfold Ar.nxt; rw [hf], fun x => by unfold Ar.put; rw [hf]⟩
  | cons s r =>
    have hs := (h.fr s).1 (by rw [hf]; simp)
    obtain ⟨k, hk, hS⟩ := h.slot hs.1 hs.2.1
    have e1 : A.nxt = (s, k.gen + 1) := by unfold Ar.nxt; rw [hf]; simp [hk]
    have hkn : k.it = none := by
      have := hS.us.2
      rw [hs.2.2] at this
      cases hi : k.it
      · rfl
      · rw [hi] at this; cases this
    rw [e1]
    exact .inl ⟨r, rfl, hs.1, hs.2.1, k, hk, hkn, rfl, fun x => by unfold Ar.put; rw [hf]; simp [hk]⟩
/-- What is told is new, and finds what was put. -/
theorem Arw.told_new {A : Ar} (h : Arw A) (x : Nd) : Told (A.put x) A.nxt.1 A.nxt.2 ∧ ¬ Told A A.nxt.1 A.nxt.2 ∧ (A.put x).get A.nxt.1 A.nxt.2 = some x ∧ 1 ≤ A.nxt.1 ∧ 1 ≤ A.nxt.2 := by
  rcases h.nxt with ⟨r, hf, h1, h2, k, hk, hn, hg, hp⟩ | ⟨hf, hn, hp⟩
  · have hi : A.nxt.1 - 1 < A.sl.length := by omega
    rw [hp]
    refine ⟨⟨h1, by omega, ⟨k.gen + 1, some x⟩, by simp [List.getElem?_set_self hi], by simp; omega⟩, fun ht => ?_, ?_, h1, by omega⟩
    · obtain ⟨_, _, k', hk', hle⟩ := ht
      rw [hk] at hk'
      obtain rfl := Option.some.inj hk'
      omega
    · unfold Ar.get
      rw [if_pos (by omega)]
      simp [List.getElem?_set_self hi, hg]
  · rw [hp, hn]
    refine ⟨⟨by simp, by simp, ⟨1, some x⟩, by simp, by simp⟩, fun ht => ?_, ?_, by simp, by simp⟩
    · have := ht.slot
      simp at this
      omega
    · unfold Ar.get
      rw [if_pos (by omega)]
      simp
/-- What was told ahead stays told, and finds what it found. -/
theorem Arw.told_put {A : Ar} (h : Arw A) (x : Nd) {s g : Nat} (ht : Told A s g) : Told (A.put x) s g ∧ (A.put x).get s g = A.get s g := by
  have hsl := ht.slot
  obtain ⟨t1, t2, k', hk', hle⟩ := ht
  rcases h.nxt with ⟨r, hf, h1, h2, k, hk, hn, hg, hp⟩ | ⟨hf, hn, hp⟩
  · have hi : A.nxt.1 - 1 < A.sl.length := by omega
    rw [hp]
    by_cases e : A.nxt.1 = s
    · subst e
      rw [hk] at hk'
      obtain rfl := Option.some.inj hk'
      refine ⟨⟨t1, t2, ⟨k.gen + 1, some x⟩, by simp [List.getElem?_set_self hi], by simp; omega⟩, ?_⟩
      unfold Ar.get
      rw [if_pos (by omega), if_pos (by omega)]
      simp only [Int.toNat_natCast, List.getElem?_set_self hi, hk]
      rw [if_neg (by simp; omega)]
      split
      · exact hn.symm
      · rfl
    · have e' : A.nxt.1 - 1 ≠ s - 1 := by omega
      refine ⟨⟨t1, t2, k', by simp [List.getElem?_set_ne e', hk'], hle⟩, ?_⟩
      unfold Ar.get
      simp only [Int.toNat_natCast, List.getElem?_set_ne e']
  · rw [hp]
    have hi : s - 1 < A.sl.length := by omega
    refine ⟨⟨t1, t2, k', by simp [List.getElem?_append_left hi, hk'], hle⟩, ?_⟩
    unfold Ar.get
    simp only [Int.toNat_natCast, List.getElem?_append_left hi]
/-- What is freed is found no more; all others are. -/
theorem get_free {A : Ar} {s g : Nat} {x : Nd} (hg : A.get s g = some x) : (A.free s).get s g = none ∧ (∀ t u : Nat, Told A t u → Told (A.free s) t u) ∧ (∀ t u : Nat, Told A t u → ¬ (t = s ∧ u = g) → (A.free s).get t u = A.get t u) := by
  obtain ⟨h1, k, hk, hgen, hit⟩ := get_some hg
  rw [Int.toNat_natCast] at hk
  have hi : s - 1 < A.sl.length := (List.getElem?_eq_some_iff.1 hk).1
  have e0 : A.free s = ⟨A.sl.set (s - 1) ⟨k.gen, none⟩, s :: A.fr⟩ := by unfold Ar.free; simp [hk]
  rw [e0]
  refine ⟨?_, fun t u ht => ?_, fun t u ht hne => ?_⟩
  · unfold Ar.get
    rw [if_pos h1]
    simp [List.getElem?_set_self hi]
  · obtain ⟨t1, t2, k', hk', hle⟩ := ht
    by_cases e : s = t
    · subst e
      rw [hk] at hk'
      obtain rfl := Option.some.inj hk'
      exact ⟨t1, t2, ⟨k.gen, none⟩, by simp [List.getElem?_set_self hi], hle⟩
    · exact ⟨t1, t2, k', by simp [List.getElem?_set_ne (show s - 1 ≠ t - 1 by omega), hk'], hle⟩
  · obtain ⟨t1, t2, k', hk', hle⟩ := ht
    by_cases e : s = t
    · subst e
      rw [hk] at hk'
      obtain rfl := Option.some.inj hk'
      have hug : u ≠ g := fun e => hne ⟨rfl, e⟩
      unfold Ar.get
      rw [if_pos h1, if_pos h1]
      simp only [Int.toNat_natCast, List.getElem?_set_self hi, hk]
      rw [if_neg (by show ¬ ((k.gen : Int) = (u : Int)); omega), if_neg (by omega)]
    · unfold Ar.get
      simp only [Int.toNat_natCast, List.getElem?_set_ne (show s - 1 ≠ t - 1 by omega)]
/-- How many lie there. -/
theorem Arw.live_put {A : Ar} (h : Arw A) (x : Nd) : (A.put x).live = A.live + 1 := by
  obtain ⟨L, N, h⟩ := h
  have h1 := (h.put x).1.liv
  rw [liN_append, h.liv] at h1
  rw [← h1]
  simp [liN]
theorem live_free {A : Ar} {s g : Nat} {x : Nd} (hg : A.get s g = some x) : (A.free s).live + 1 = A.live := by
  obtain ⟨h1, k, hk, hgen, hit⟩ := get_some hg
  rw [Int.toNat_natCast] at hk
  have hi : s - 1 < A.sl.length := (List.getElem?_eq_some_iff.1 hk).1
  have e0 : A.free s = ⟨A.sl.set (s - 1) ⟨k.gen, none⟩, s :: A.fr⟩ := by unfold Ar.free; simp [hk]
  rw [e0]
  have h2 := filt_set (fun k : Sl => k.it.isSome) A.sl (s - 1) ⟨k.gen, none⟩ hi
  rw [List.getElem?_eq_getElem hi] at hk
  rw [Option.some.inj hk] at h2
  simp [Ar.live, hit] at h2 ⊢
  omega
/-- The number of those that lie there is at most the number of slots used; what is full has no freed one. -/
theorem Arw.live_le {A : Ar} (h : Arw A) : A.live ≤ A.sl.length := List.length_filter_le _ _
theorem Arw.live_lt {A : Ar} (h : Arw A) {s : Nat} {r : List Nat} (hf : A.fr = s :: r) : A.live < A.sl.length := by
  rcases h.nxt with ⟨r', hf', h1, h2, k, hk, hn, hg, hp⟩ | ⟨hf', _⟩
  · have hi : A.nxt.1 - 1 < A.sl.length := by omega
    have h3 := filt_set (fun k : Sl => k.it.isSome) A.sl (A.nxt.1 - 1) ⟨k.gen, some ndz⟩ hi
    rw [List.getElem?_eq_getElem hi] at hk
    rw [Option.some.inj hk] at h3
    have h4 := List.length_filter_le (fun k : Sl => k.it.isSome) (A.sl.set (A.nxt.1 - 1) ⟨k.gen, some ndz⟩)
    rw [List.length_set] at h4
    simp only [hn, Option.isSome_none, Option.isSome_some, Bool.false_eq_true, if_false, if_true, Nat.add_zero] at h3
    unfold Ar.live
    omega
  · rw [hf] at hf'
    cases hf'
end Go.Proofs.Ytcckamajiebgeaa
