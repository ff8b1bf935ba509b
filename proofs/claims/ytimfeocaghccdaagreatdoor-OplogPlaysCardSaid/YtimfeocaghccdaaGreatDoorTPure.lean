/-
  A tree of nodes as a list: where a node is, what is above what, what an operation makes of it, what an undoing makes of it. No conditions beyond those that each statement bears.
-/
import Derived.Test.YtimfeocaghccdaaGreatDoorOOrderPure
import Derived.Test.YtimfeocaghccdaaGreatDoorO5
namespace Go.Proofs.YtimfeocaghccdaaGreatDoor
set_option maxRecDepth 100000
open Go.RowKit
set_option linter.unusedVariables false

/-- A node below another one, by a name. -/
structure Kd where
  to : Int
  nm : List UInt8
  nd : Int
deriving instance DecidableEq for Kd
instance : Inhabited Kd := ⟨⟨0, [], 0⟩⟩
/-- The entry of a node. -/
def fnd (L : List Kd) (n : Int) : Option Kd := L.find? fun k => k.nd == n
/-- Is a node known? -/
def isKn (L : List Kd) (n : Int) : Bool := n == 0 || n == 1 || (fnd L n).isSome
/-- Going up, so many steps at most: is one met? -/
def upF (L : List Kd) : Nat → Int → Int → Bool
  | 0, _, _ => false
  | f + 1, a, b => if a = b then true else match fnd L b with
    | none => false
    | some k => upF L f a k.to
/-- Is one above the other? -/
def abv (L : List Kd) (a b : Int) : Bool := isKn L b && upF L (L.length + 1) a b
/-- A node's entry taken out, and another one put in. -/
def putS (L : List Kd) (n : Int) (s : Option Kd) : List Kd := L.filter (fun k => k.nd != n) ++ s.toList
def O5.kd (o : O5) : Kd := ⟨o.t, o.l, o.d⟩
/-- May a node be put there? -/
def can (L : List Kd) (o : O5) : Bool := isKn L o.t && !abv L o.d o.t
/-- What an operation that is right makes of a tree. -/
def app (L : List Kd) (o : O5) : List Kd := if can L o = true then putS L o.d (some o.kd) else L
/-- A tree, and all that it was, the last one first. -/
inductive Hst : List Kd → List (List Kd) → Prop
  | nil : Hst [] []
  | app {L : List Kd} {r : List (List Kd)} (o : O5) : Hst L r → o.R = true → Hst (app L o) (L :: r)
/-- So many steps up to the root, or to the trash. -/
inductive Rt (L : List Kd) : Nat → Int → Prop
  | top {n : Int} : n = 0 ∨ n = 1 → Rt L 0 n
  | up {d : Nat} {n : Int} {k : Kd} : fnd L n = some k → Rt L d k.to → Rt L (d + 1) n
/-- A tree as it must be. -/
structure Wf (L : List Kd) : Prop where
  one : (L.map (·.nd)).Nodup
  lo : ∀ k ∈ L, 256 ≤ k.nd ∧ k.nd ≤ 4294967295
  rt : ∀ k ∈ L, ∃ d, Rt L d k.nd
  nm : ∀ k ∈ L, right k.nm = true
  tt : ∀ k ∈ L, 0 ≤ k.to ∧ k.to ≤ 4294967295

theorem fnd_some {L : List Kd} {n : Int} {k : Kd} (h : fnd L n = some k) : k ∈ L ∧ k.nd = n := by
  unfold fnd at h
  exact ⟨List.mem_of_find?_eq_some h, by simpa using List.find?_some h⟩
theorem fnd_none {L : List Kd} {n : Int} (h : fnd L n = none) : ∀ k ∈ L, k.nd ≠ n := by
  unfold fnd at h
  intro k hk e
  have := List.find?_eq_none.1 h k hk
  simp [e] at this
theorem nd_inj : ∀ {L : List Kd}, (L.map (·.nd)).Nodup → ∀ {a b : Kd}, a ∈ L → b ∈ L → a.nd = b.nd → a = b
  | [], _, a, b, ha, _, _ => by simp at ha
  | x :: L, h, a, b, ha, hb, e => by
    simp only [List.map_cons, List.nodup_cons] at h
    rcases List.mem_cons.1 ha with rfl | ha'
    · rcases List.mem_cons.1 hb with rfl | hb'
      · rfl
      · exact absurd (List.mem_map.2 ⟨b, hb', e.symm⟩) h.1
    · rcases List.mem_cons.1 hb with rfl | hb'
      · exact absurd (List.mem_map.2 ⟨a, ha', e⟩) h.1
      · exact nd_inj h.2 ha' hb' e
theorem fnd_mem {L : List Kd} (h : (L.map (·.nd)).Nodup) {k : Kd} (hk : k ∈ L) : fnd L k.nd = some k := by
  cases e : fnd L k.nd with
  | none => exact absurd rfl (fnd_none e k hk)
  | some k' =>
    obtain ⟨h1, h2⟩ := fnd_some e
    rw [nd_inj h h1 hk h2]
theorem mem_fnd {L : List Kd} (h : (L.map (·.nd)).Nodup) (k : Kd) : k ∈ L ↔ fnd L k.nd = some k :=
  ⟨fnd_mem h, fun e => (fnd_some e).1⟩
theorem nodup_of_nd : ∀ {L : List Kd}, (L.map (·.nd)).Nodup → L.Nodup
  | [], _ => List.nodup_nil
  | x :: L, h => by
    simp only [List.map_cons, List.nodup_cons] at h
    exact List.nodup_cons.2 ⟨fun hx => h.1 (List.mem_map.2 ⟨x, hx, rfl⟩), nodup_of_nd h.2⟩
/-- Two lists in which all nodes are at one spot are one but for their order. -/
theorem perm_fnd {L M : List Kd} (h : (L.map (·.nd)).Nodup) (h' : (M.map (·.nd)).Nodup) (e : ∀ n, fnd L n = fnd M n) : L.Perm M :=
  (List.perm_ext_iff_of_nodup (nodup_of_nd h) (nodup_of_nd h')).2 fun k => by rw [mem_fnd h, mem_fnd h', e]
theorem fnd_perm {L M : List Kd} (h : (L.map (·.nd)).Nodup) (p : L.Perm M) (n : Int) : fnd L n = fnd M n := by
  have h' : (M.map (·.nd)).Nodup := (p.map _).nodup_iff.1 h
  cases e : fnd L n with
  | none =>
    cases e' : fnd M n with
    | none => rfl
    | some k =>
      obtain ⟨h1, h2⟩ := fnd_some e'
      exact absurd h2 (fnd_none e k (p.mem_iff.2 h1))
  | some k =>
    obtain ⟨h1, h2⟩ := fnd_some e
    rw [← h2, fnd_mem h' (p.mem_iff.1 h1)]
theorem fnd_filter {L : List Kd} (n m : Int) : fnd (L.filter fun k => k.nd != n) m = if m = n then none else fnd L m := by
  unfold fnd
  rw [List.find?_filter]
  by_cases e : m = n
  · subst e
    rw [if_pos rfl, List.find?_eq_none]
    intro k _
    simp
  · rw [if_neg e]
    congr 1
    funext k
    by_cases hk : k.nd = m
    · simp [hk, e]
    · simp [hk]
theorem fnd_putS (L : List Kd) (n : Int) (s : Option Kd) (hs : ∀ k, s = some k → k.nd = n) (m : Int) : fnd (putS L n s) m = if m = n then s else fnd L m := by
  have e := fnd_filter (L := L) n m
  unfold fnd at e
  unfold putS fnd
  rw [List.find?_append, e]
  by_cases hm : m = n
  · subst hm
    rw [if_pos rfl]
    cases s with
    | none => simp
    | some k => simp [hs k rfl]
  · rw [if_neg hm]
    cases s with
    | none => simp [hm]
    | some k =>
      have : ¬ k.nd = m := fun e => hm (by rw [← e, hs k rfl])
      simp [hm, this]
theorem putS_one {L : List Kd} (h : (L.map (·.nd)).Nodup) (n : Int) (s : Option Kd) (hs : ∀ k, s = some k → k.nd = n) : ((putS L n s).map (·.nd)).Nodup := by
  unfold putS
  rw [List.map_append, List.nodup_append]
  refine ⟨(List.filter_sublist.map _).nodup h, ?_, ?_⟩
  · cases s <;> simp
  · intro a ha b hb
    obtain ⟨k, hk, rfl⟩ := List.mem_map.1 ha
    have hk2 := (List.mem_filter.1 hk).2
    cases s with
    | none => simp at hb
    | some x =>
      simp at hb
      subst hb
      rw [hs x rfl]
      simpa using hk2
theorem mem_putS {L : List Kd} {n : Int} {s : Option Kd} {k : Kd} (h : k ∈ putS L n s) : k ∈ L ∨ s = some k := by
  unfold putS at h
  rcases List.mem_append.1 h with h | h
  · exact .inl (List.mem_filter.1 h).1
  · exact .inr (by simpa using h)
theorem putS_len (L : List Kd) (n : Int) (s : Option Kd) : (putS L n s).length ≤ L.length + 1 := by
  unfold putS
  rw [List.length_append]
  have := List.length_filter_le (fun k : Kd => k.nd != n) L
  cases s <;> simp <;> omega

/-! ### going up -/
theorem fnd_top {L : List Kd} (h : ∀ k ∈ L, 256 ≤ k.nd ∧ k.nd ≤ 4294967295) {n : Int} (hn : n < 256) : fnd L n = none := by
  cases e : fnd L n with
  | none => rfl
  | some k =>
    obtain ⟨h1, h2⟩ := fnd_some e
    have := h k h1
    omega
theorem Rt.det {L : List Kd} (h : ∀ k ∈ L, 256 ≤ k.nd ∧ k.nd ≤ 4294967295) {d d' : Nat} {n : Int} (a : Rt L d n) : Rt L d' n → d = d' := by
  induction a generalizing d' with
  | top ht =>
    intro b
    cases b with
    | top _ => rfl
    | up hf _ => rw [fnd_top h (by omega)] at hf; cases hf
  | up hf _ ih =>
    intro b
    cases b with
    | top ht => rw [fnd_top h (by omega)] at hf; cases hf
    | up hf' hr =>
      rw [hf] at hf'
      cases hf'
      rw [ih hr]
theorem pigeon : ∀ (c M : List Int), c.Nodup → (∀ x ∈ c, x ∈ M) → c.length ≤ M.length
  | [], _, _, _ => Nat.zero_le _
  | x :: c, M, hd, hm => by
    have h1 := List.nodup_cons.1 hd
    have := pigeon c (M.erase x) h1.2 (fun y hy => (List.mem_erase_of_ne (by rintro rfl; exact h1.1 hy)).2 (hm y (by simp [hy])))
    rw [List.length_erase_of_mem (hm x (by simp))] at this
    have : 0 < M.length := List.length_pos_of_mem (hm x (by simp))
    simp
    omega
theorem Rt.chain {L : List Kd} (h : ∀ k ∈ L, 256 ≤ k.nd ∧ k.nd ≤ 4294967295) {d : Nat} {n : Int} (a : Rt L d n) :
    ∃ c : List Int, c.length = d ∧ c.Nodup ∧ (∀ x ∈ c, x ∈ L.map (·.nd)) ∧ ∀ x ∈ c, ∃ e, e ≤ d ∧ Rt L e x := by
  induction a with
  | top _ => exact ⟨[], rfl, List.nodup_nil, by simp, by simp⟩
  | @up d n k hf hr ih =>
    obtain ⟨c, h1, h2, h3, h4⟩ := ih
    have hn := fnd_some hf
    refine ⟨n :: c, by simp [h1], List.nodup_cons.2 ⟨fun hx => ?_, h2⟩, ?_, ?_⟩
    · obtain ⟨e, he, hre⟩ := h4 n hx
      have := Rt.det h (Rt.up hf hr) hre
      omega
    · intro x hx
      rcases List.mem_cons.1 hx with rfl | hx
      · exact List.mem_map.2 ⟨k, hn.1, hn.2⟩
      · exact h3 x hx
    · intro x hx
      rcases List.mem_cons.1 hx with rfl | hx
      · exact ⟨d + 1, Nat.le_refl _, .up hf hr⟩
      · obtain ⟨e, he, hre⟩ := h4 x hx
        exact ⟨e, by omega, hre⟩
theorem Rt.le {L : List Kd} (h : ∀ k ∈ L, 256 ≤ k.nd ∧ k.nd ≤ 4294967295) {d : Nat} {n : Int} (a : Rt L d n) : d ≤ L.length := by
  obtain ⟨c, h1, h2, h3, _⟩ := a.chain h
  have := pigeon c _ h2 h3
  simp at this
  omega
theorem Wf.known {L : List Kd} (h : Wf L) {n : Int} (hn : isKn L n = true) : ∃ d, Rt L d n := by
  unfold isKn at hn
  simp only [Bool.or_eq_true, beq_iff_eq] at hn
  rcases hn with (h0 | h0) | h0
  · exact ⟨0, .top (.inl h0)⟩
  · exact ⟨0, .top (.inr h0)⟩
  · obtain ⟨k, hk⟩ := Option.isSome_iff_exists.1 h0
    obtain ⟨h1, rfl⟩ := fnd_some hk
    exact h.rt k h1
theorem Rt.known {L : List Kd} {d : Nat} {n : Int} (a : Rt L d n) : isKn L n = true := by
  unfold isKn
  cases a with
  | top h => rcases h with rfl | rfl <;> simp
  | up hf _ => simp [hf]
/-- More steps than there are on the way tell no more. -/
theorem upF_enough {L : List Kd} (hl : ∀ k ∈ L, 256 ≤ k.nd ∧ k.nd ≤ 4294967295) {d : Nat} {b : Int} (h : Rt L d b) (a : Int) : ∀ f, d < f → upF L f a b = upF L (d + 1) a b := by
  induction h with
  | top ht =>
    intro f hf
    obtain ⟨f, rfl⟩ : ∃ g, f = g + 1 := ⟨f - 1, by omega⟩
    unfold upF
    rw [fnd_top hl (by omega)]
  | up hfn hr ih =>
    intro f hf
    obtain ⟨f, rfl⟩ : ∃ g, f = g + 1 := ⟨f - 1, by omega⟩
    unfold upF
    rw [hfn]
    simp only [ih f (by omega)]
/-- One is above another one. -/
inductive Anc (L : List Kd) (a : Int) : Int → Prop
  | self : Anc L a a
  | up {b : Int} {k : Kd} : fnd L b = some k → Anc L a k.to → Anc L a b
theorem Anc.trans {L : List Kd} {a b c : Int} (h : Anc L a b) (h' : Anc L b c) : Anc L a c := by
  induction h' with
  | self => exact h
  | up hf _ ih => exact .up hf ih
theorem upF_anc {L : List Kd} {a : Int} : ∀ {f : Nat} {b : Int}, upF L f a b = true → Anc L a b
  | 0, b, h => by simp [upF] at h
  | f + 1, b, h => by
    unfold upF at h
    split at h
    · rename_i e; exact e ▸ .self
    · split at h
      · cases h
      · rename_i k hk
        exact .up hk (upF_anc h)
theorem anc_upF {L : List Kd} (hl : ∀ k ∈ L, 256 ≤ k.nd ∧ k.nd ≤ 4294967295) {a : Int} {d : Nat} {b : Int} (h : Rt L d b) (x : Anc L a b) : upF L (d + 1) a b = true := by
  induction x generalizing d with
  | self => unfold upF; simp
  | @up b k hf _ ih =>
    unfold upF
    split
    · rfl
    · rw [hf]
      cases h with
      | top ht => rw [fnd_top hl (by omega)] at hf; cases hf
      | up hf' hr =>
        rw [hf] at hf'
        cases hf'
        exact ih hr
/-- What is above, as a way. -/
theorem Wf.abv {L : List Kd} (h : Wf L) (a b : Int) : abv L a b = true ↔ isKn L b = true ∧ Anc L a b := by
  unfold Proofs.YtimfeocaghccdaaGreatDoor.abv
  rw [Bool.and_eq_true]
  refine ⟨fun ⟨h1, h2⟩ => ⟨h1, upF_anc h2⟩, fun ⟨h1, h2⟩ => ⟨h1, ?_⟩⟩
  obtain ⟨d, hd⟩ := h.known h1
  have := hd.le h.lo
  rw [upF_enough h.lo hd a _ (by omega)]
  exact anc_upF h.lo hd h2
theorem Anc.known {L : List Kd} {a b : Int} (h : Anc L a b) {d : Nat} (hd : Rt L d b) (hl : ∀ k ∈ L, 256 ≤ k.nd ∧ k.nd ≤ 4294967295) : ∃ e, Rt L e a := by
  induction h generalizing d with
  | self => exact ⟨d, hd⟩
  | @up b k hf _ ih =>
    cases hd with
    | top ht => rw [fnd_top hl (by omega)] at hf; cases hf
    | up hf' hr =>
      rw [hf] at hf'
      cases hf'
      exact ih hr
/-- What isn't known is above nothing. -/
theorem Wf.abv_none {L : List Kd} (h : Wf L) {a : Int} (ha : isKn L a = false) (b : Int) : Proofs.YtimfeocaghccdaaGreatDoor.abv L a b = false := by
  cases e : Proofs.YtimfeocaghccdaaGreatDoor.abv L a b with
  | false => rfl
  | true =>
    obtain ⟨h1, h2⟩ := (h.abv a b).1 e
    obtain ⟨d, hd⟩ := h.known h1
    obtain ⟨x, hx⟩ := h2.known hd h.lo
    rw [hx.known] at ha
    cases ha

/-! ### what an operation makes -/
theorem kd_nd (o : O5) (k : Kd) (h : some o.kd = some k) : k.nd = o.d := by cases h; rfl
theorem fnd_moved (L : List Kd) (o : O5) (m : Int) : fnd (putS L o.d (some o.kd)) m = if m = o.d then some o.kd else fnd L m := fnd_putS L o.d _ (kd_nd o) m
theorem O5.R_t {o : O5} (h : o.R = true) : (256 ≤ o.d ∧ o.d ≤ 4294967295) ∧ (o.t = 0 ∨ o.t = 1 ∨ 256 ≤ o.t ∧ o.t ≤ 4294967295) ∧ right o.l = true := by
  obtain ⟨_, h1, h2, h3⟩ := opR_t h
  exact ⟨ndB_t h1, toB_t h2, h3⟩
theorem can_t {L : List Kd} {o : O5} (h : can L o = true) : isKn L o.t = true ∧ abv L o.d o.t = false := by
  unfold can at h
  simpa using h
/-- A way that doesn't meet a node stays, when that is moved. -/
theorem Rt.moved {L : List Kd} {o : O5} {d : Nat} {n : Int} (h : Rt L d n) (hn : ¬ Anc L o.d n) : Rt (putS L o.d (some o.kd)) d n := by
  induction h with
  | top ht => exact .top ht
  | @up d n k hf _ ih =>
    refine .up (k := k) ?_ (ih fun x => hn (.up hf x))
    rw [fnd_moved, if_neg (by rintro rfl; exact hn .self)]
    exact hf
theorem Rt.moved_any {L : List Kd} {o : O5} {e : Nat} (ho : Rt (putS L o.d (some o.kd)) e o.t) {d : Nat} {n : Int} (h : Rt L d n) : ∃ d', Rt (putS L o.d (some o.kd)) d' n := by
  induction h with
  | top ht => exact ⟨0, .top ht⟩
  | @up d n k hf _ ih =>
    by_cases hn : n = o.d
    · subst hn
      exact ⟨e + 1, .up (k := o.kd) (by rw [fnd_moved, if_pos rfl]) ho⟩
    · obtain ⟨d', hd'⟩ := ih
      exact ⟨d' + 1, .up (k := k) (by rw [fnd_moved, if_neg hn]; exact hf) hd'⟩
theorem Wf.moved {L : List Kd} (h : Wf L) {o : O5} (hr : o.R = true) (hc : can L o = true) : Wf (putS L o.d (some o.kd)) := by
  obtain ⟨h1, h2, h3⟩ := O5.R_t hr
  obtain ⟨c1, c2⟩ := can_t hc
  obtain ⟨d, hd⟩ := h.known c1
  have hn : ¬ Anc L o.d o.t := fun x => by rw [(h.abv o.d o.t).2 ⟨c1, x⟩] at c2; cases c2
  have ht := hd.moved hn
  have hlo : ∀ k ∈ putS L o.d (some o.kd), 256 ≤ k.nd ∧ k.nd ≤ 4294967295 := fun k hk => by
    rcases mem_putS hk with hk | hk
    · exact h.lo k hk
    · cases hk; exact h1
  refine ⟨putS_one h.one _ _ (kd_nd o), hlo, fun k hk => ?_, fun k hk => ?_, fun k hk => ?_⟩
  · rcases mem_putS hk with hk' | hk'
    · obtain ⟨e, he⟩ := h.rt k hk'
      exact Rt.moved_any ht he
    · cases hk'
      exact ⟨d + 1, .up (k := o.kd) (by rw [fnd_moved]; exact if_pos rfl) ht⟩
  · rcases mem_putS hk with hk' | hk'
    · exact h.nm k hk'
    · cases hk'; exact h3
  · rcases mem_putS hk with hk' | hk'
    · exact h.tt k hk'
    · cases hk'
      show 0 ≤ o.t ∧ o.t ≤ 4294967295
      omega
theorem Wf.nil : Wf [] := ⟨List.nodup_nil, by simp, by simp, by simp, by simp⟩
theorem Wf.app {L : List Kd} (h : Wf L) {o : O5} (hr : o.R = true) : Wf (Proofs.YtimfeocaghccdaaGreatDoor.app L o) := by
  unfold Proofs.YtimfeocaghccdaaGreatDoor.app
  split
  · exact h.moved hr (by assumption)
  · exact h
theorem Hst.wf {L : List Kd} {r : List (List Kd)} (h : Hst L r) : Wf L := by
  induction h with
  | nil => exact Wf.nil
  | app o _ hr ih => exact ih.app hr
theorem app_len (L : List Kd) (o : O5) : (app L o).length ≤ L.length + 1 := by
  unfold app
  split
  · exact putS_len _ _ _
  · omega
theorem Hst.len {L : List Kd} {r : List (List Kd)} (h : Hst L r) : L.length ≤ r.length := by
  induction h with
  | nil => exact Nat.le_refl _
  | @app L r o _ _ ih =>
    have := app_len L o
    simp
    omega
theorem Hst.back {L M : List Kd} {r : List (List Kd)} (h : Hst L (M :: r)) : Hst M r ∧ ∃ o : O5, o.R = true ∧ L = Proofs.YtimfeocaghccdaaGreatDoor.app M o := by
  cases h with
  | app o h hr => exact ⟨h, o, hr, rfl⟩
/-- What is put back where it was: the tree as it was, but for the list's order. -/
theorem back_perm {M : List Kd} (h : Wf M) (o : O5) : (putS (app M o) o.d (fnd M o.d)).Perm M := by
  have hs : ∀ k, fnd M o.d = some k → k.nd = o.d := fun k e => (fnd_some e).2
  unfold app
  split
  · refine perm_fnd (putS_one (putS_one h.one _ _ (kd_nd o)) _ _ hs) h.one fun n => ?_
    rw [fnd_putS _ _ _ hs, fnd_moved]
    by_cases e : n = o.d
    · rw [if_pos e, e]
    · rw [if_neg e, if_neg e]
  · refine perm_fnd (putS_one h.one _ _ hs) h.one fun n => ?_
    rw [fnd_putS _ _ _ hs]
    by_cases e : n = o.d
    · rw [if_pos e, e]
    · rw [if_neg e]
/-- What is remembered of each operation: its node, and where that was. -/
def Stp : List Kd → List (List Kd) → List (Int × Option Kd) → Prop
  | _, [], p => p = []
  | L, M :: r, p => ∃ n s q, p = (n, s) :: q ∧ (-9223372036854775808 ≤ n ∧ n ≤ 9223372036854775807) ∧ (∀ k, s = some k → k.nd = n) ∧ (putS L n s).Perm M ∧ Stp M r q
theorem Stp.len : ∀ {L : List Kd} {r : List (List Kd)} {p : List (Int × Option Kd)}, Stp L r p → p.length = r.length
  | _, [], p, h => by
    unfold Stp at h
    rw [h]
    rfl
  | L, M :: r, p, h => by
    unfold Stp at h
    obtain ⟨n, s, q, rfl, _, _, _, hq⟩ := h
    simp [hq.len]
theorem Stp.app {L : List Kd} (h : Wf L) {r : List (List Kd)} {p : List (Int × Option Kd)} (hs : Stp L r p) {o : O5} (hr : o.R = true) : Stp (Proofs.YtimfeocaghccdaaGreatDoor.app L o) (L :: r) ((o.d, fnd L o.d) :: p) := by
  have := (O5.R_t hr).1
  exact ⟨_, _, _, rfl, by omega, fun k e => (fnd_some e).2, back_perm h o, hs⟩
end Go.Proofs.YtimfeocaghccdaaGreatDoor
