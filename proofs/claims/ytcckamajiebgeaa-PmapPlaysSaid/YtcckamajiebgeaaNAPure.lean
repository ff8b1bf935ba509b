/-
  An arena of nodes, plain: its slots and the freed ones; the document's list of all that was ever put, with a clock; that both tell the same. No conditions.
-/
import Derived.Test.YtcckamajiebgeaaBase0
namespace Go.Proofs.Ytcckamajiebgeaa
set_option linter.unusedVariables false
set_option linter.unusedSimpArgs false

/-- A node: its key, its value, what is below, how high it is. -/
structure Nd where
  k : Int
  v : Int
  l : Int × Int
  r : Int × Int
  h : Int
deriving DecidableEq
def ndz : Nd := ⟨0, 0, (0, 0), (0, 0), 0⟩
/-- Something that was put: its slot, its generation, what it is, whether it lies there, when it was freed. -/
structure En where
  s : Nat
  g : Nat
  x : Nd
  lies : Bool
  fd : Nat
/-- All that was put into a slot. -/
def fl (L : List En) (s : Nat) : List En := L.filter fun e => e.s == s
def usN (L : List En) (s : Nat) : Nat := (fl L s).length
def usL (L : List En) (s : Nat) : Bool := ((fl L s).getLast?.map (·.lies)).getD false
def lfd (L : List En) (s : Nat) : Nat := ((fl L s).getLast?.map (·.fd)).getD 0
theorem fl_append (L M : List En) (s : Nat) : fl (L ++ M) s = fl L s ++ fl M s := List.filter_append ..
theorem fl_one (e : En) (s : Nat) : fl [e] s = if e.s = s then [e] else [] := by
  unfold fl
  by_cases h : e.s = s
  · rw [if_pos h, List.filter_cons_of_pos (by simpa using h)]
    rfl
  · rw [if_neg h, List.filter_cons_of_neg (by simpa using h)]
    rfl
theorem fl_cons (e : En) (L : List En) (s : Nat) : fl (e :: L) s = if e.s = s then e :: fl L s else fl L s := by
  have := fl_append [e] L s
  rw [fl_one] at this
  rw [show e :: L = [e] ++ L from rfl, this]
  split <;> rfl
theorem mem_fl {L : List En} {s : Nat} {e : En} : e ∈ fl L s ↔ e ∈ L ∧ e.s = s := by
  unfold fl
  rw [List.mem_filter]
  simp
/-! ### the document's loops, step by step -/
theorem usN_take (L : List En) (s k : Nat) (h : k < L.length) : usN (L.take (k + 1)) s = if L[k].s = s then usN (L.take k) s + 1 else usN (L.take k) s := by
  unfold usN
  rw [List.take_succ_eq_append_getElem h, fl_append, fl_one, List.length_append]
  split <;> simp
theorem usL_take (L : List En) (s k : Nat) (h : k < L.length) : usL (L.take (k + 1)) s = if L[k].s = s then L[k].lies else usL (L.take k) s := by
  unfold usL
  rw [List.take_succ_eq_append_getElem h, fl_append, fl_one]
  split
  · rw [List.getLast?_concat]
    rfl
  · rw [List.append_nil]
def liN (L : List En) : Nat := (L.filter (·.lies)).length
theorem liN_append (L M : List En) : liN (L ++ M) = liN L + liN M := by simp [liN, List.filter_append]
theorem liN_take (L : List En) (k : Nat) (h : k < L.length) : liN (L.take (k + 1)) = if L[k].lies then liN (L.take k) + 1 else liN (L.take k) := by
  rw [List.take_succ_eq_append_getElem h, liN_append]
  unfold liN
  cases hl : L[k].lies <;> simp [hl]
/-- The choice of the next slot, as far as it got: the slot, and when it was freed. -/
def bstS (q : En → Bool) (b : Nat × Nat) (e : En) : Nat × Nat := if q e = true ∧ e.fd > b.2 then (e.s, e.fd) else b
def bst (q : En → Bool) (L : List En) : Nat × Nat := L.foldl (bstS q) (0, 0)
theorem bst_snoc (q : En → Bool) (L : List En) (e : En) : bst q (L ++ [e]) = bstS q (bst q L) e := by simp [bst]
theorem bst_ok (q : En → Bool) : ∀ (L : List En) (b : Nat × Nat), b.2 ≤ (L.foldl (bstS q) b).2 ∧ (∀ e ∈ L, q e = true → e.fd ≤ (L.foldl (bstS q) b).2) ∧ (L.foldl (bstS q) b = b ∨ ∃ e ∈ L, q e = true ∧ L.foldl (bstS q) b = (e.s, e.fd))
  | [], b => ⟨Nat.le_refl _, by simp, .inl rfl⟩
  | e :: L, b => by
    rw [List.foldl_cons]
    obtain ⟨h1, h2, h3⟩ := bst_ok q L (bstS q b e)
    by_cases hc : q e = true ∧ e.fd > b.2
    · have eb : bstS q b e = (e.s, e.fd) := by unfold bstS; rw [if_pos hc]
      rw [eb] at h1 h2 h3 ⊢
      have h1' : e.fd ≤ (List.foldl (bstS q) (e.s, e.fd) L).2 := h1
      refine ⟨by omega, fun x hx hq => ?_, ?_⟩
      · rcases List.mem_cons.1 hx with rfl | hx
        · exact h1'
        · exact h2 x hx hq
      · rcases h3 with h3 | ⟨x, hx, hq, h3⟩
        · exact .inr ⟨e, List.mem_cons_self .., hc.1, h3⟩
        · exact .inr ⟨x, List.mem_cons_of_mem _ hx, hq, h3⟩
    · have eb : bstS q b e = b := by unfold bstS; rw [if_neg hc]
      rw [eb] at h1 h2 h3 ⊢
      refine ⟨h1, fun x hx hq => ?_, ?_⟩
      · rcases List.mem_cons.1 hx with rfl | hx
        · have : ¬ x.fd > b.2 := fun h => hc ⟨hq, h⟩
          omega
        · exact h2 x hx hq
      · rcases h3 with h3 | ⟨x, hx, hq, h3⟩
        · exact .inl h3
        · exact .inr ⟨x, List.mem_cons_of_mem _ hx, hq, h3⟩
/-! ### an arena -/
/-- A slot: how often it was used, and what lies there. -/
structure Sl where
  gen : Nat
  it : Option Nd
/-- All slots that were ever used, and the freed ones, the last one first. -/
structure Ar where
  sl : List Sl
  fr : List Nat
def Ar.live (A : Ar) : Nat := (A.sl.filter (·.it.isSome)).length
/-- The slot that is used next, and its generation then. -/
def Ar.nxt (A : Ar) : Nat × Nat := match A.fr with
  | s :: _ => (s, ((A.sl[s - 1]?).map (·.gen)).getD 0 + 1)
  | [] => (A.sl.length + 1, 1)
def Ar.put (A : Ar) (x : Nd) : Ar := match A.fr with
  | s :: r => ⟨A.sl.set (s - 1) ⟨((A.sl[s - 1]?).map (·.gen)).getD 0 + 1, some x⟩, r⟩
  | [] => ⟨A.sl ++ [⟨1, some x⟩], []⟩
/-- What a handle finds. -/
def Ar.get (A : Ar) (s g : Int) : Option Nd := if 1 ≤ s then match A.sl[s.toNat - 1]? with
  | some k => if (k.gen : Int) = g then k.it else none
  | none => none
  else none
def Ar.free (A : Ar) (s : Nat) : Ar := ⟨A.sl.set (s - 1) ⟨((A.sl[s - 1]?).map (·.gen)).getD 0, none⟩, s :: A.fr⟩
/-- What a slot's list says of it. -/
structure Says (F : List En) (k : Sl) : Prop where
  len : F.length = k.gen
  pos : 0 < F.length
  gens : ∀ j (h : j < F.length), F[j].g = j + 1
  old : ∀ j (h : j < F.length), j + 1 < F.length → F[j].lies = false
  last : ∃ e, F.getLast? = some e ∧ k.it = if e.lies then some e.x else none
/-- The document's list, and an arena. -/
structure Tied (A : Ar) (L : List En) (N : Nat) : Prop where
  rng : ∀ e ∈ L, 1 ≤ e.s ∧ e.s ≤ A.sl.length
  says : ∀ i (h : i < A.sl.length), Says (fl L (i + 1)) A.sl[i]
  clk : ∀ e ∈ L, if e.lies then e.fd = 0 else 1 ≤ e.fd ∧ e.fd ≤ N
  ris : ∀ s, (fl L s).Pairwise fun a b => b.lies = false → a.fd < b.fd
  fr : ∀ s, s ∈ A.fr ↔ 1 ≤ s ∧ s ≤ A.sl.length ∧ usL L s = false
  ord : A.fr.Pairwise fun s t => lfd L t < lfd L s
  liv : liN L = A.live
theorem Tied.start : Tied ⟨[], []⟩ [] 0 :=
  ⟨by simp, fun i h => by simp at h, by simp, fun s => by simp [fl], fun s => by simp; omega, List.Pairwise.nil, rfl⟩
theorem Tied.slot {A : Ar} {L : List En} {N : Nat} (h : Tied A L N) {s : Nat} (h1 : 1 ≤ s) (h2 : s ≤ A.sl.length) : ∃ k, A.sl[s - 1]? = some k ∧ Says (fl L s) k := by
  have hi : s - 1 < A.sl.length := by omega
  refine ⟨A.sl[s - 1], List.getElem?_eq_getElem hi, ?_⟩
  have := h.says (s - 1) hi
  rwa [show s - 1 + 1 = s by omega] at this
theorem Says.us {L : List En} {s : Nat} {k : Sl} (h : Says (fl L s) k) : usN L s = k.gen ∧ usL L s = k.it.isSome := by
  refine ⟨h.len, ?_⟩
  obtain ⟨e, h1, h2⟩ := h.last
  unfold usL
  rw [h1, h2]
  cases he : e.lies <;> simp [he]
theorem Tied.noneOf {A : Ar} {L : List En} {N : Nat} (h : Tied A L N) {s : Nat} (hs : s = 0 ∨ A.sl.length < s) : fl L s = [] := by
  unfold fl
  rw [List.filter_eq_nil_iff]
  intro e he
  have := h.rng e he
  simp
  omega
/-- The last one of a slot is as late as any of it. -/
theorem Tied.late {A : Ar} {L : List En} {N : Nat} (h : Tied A L N) {e : En} (he : e ∈ L) (hl : usL L e.s = false) : e.fd ≤ lfd L e.s := by
  have hm : e ∈ fl L e.s := mem_fl.2 ⟨he, rfl⟩
  unfold usL at hl
  unfold lfd
  have hr := h.ris e.s
  generalize fl L e.s = F at hm hl hr
  obtain ⟨P, z, rfl⟩ : ∃ P z, F = P ++ [z] := by
    rcases List.eq_nil_or_concat F with rfl | ⟨P, z, rfl⟩
    · simp at hm
    · exact ⟨P, z, by simp⟩
  rw [List.getLast?_concat] at hl ⊢
  simp at hl ⊢
  rcases List.mem_append.1 hm with hm | hm
  · exact Nat.le_of_lt ((List.pairwise_append.1 hr).2.2 e hm z (by simp) hl)
  · rw [List.mem_singleton.1 hm]
    exact Nat.le_refl _
/-- The last one of a slot. -/
theorem Tied.lastEn {A : Ar} {L : List En} {N : Nat} (h : Tied A L N) {s : Nat} (h1 : 1 ≤ s) (h2 : s ≤ A.sl.length) : ∃ e, e ∈ L ∧ e.s = s ∧ (fl L s).getLast? = some e ∧ e.fd = lfd L s ∧ e.lies = usL L s := by
  obtain ⟨k, _, hk⟩ := h.slot h1 h2
  obtain ⟨e, he, _⟩ := hk.last
  have hm := mem_fl.1 (List.mem_of_getLast? he)
  exact ⟨e, hm.1, hm.2, he, by unfold lfd; rw [he]; rfl, by unfold usL; rw [he]; rfl⟩
/-- Which slot the document takes next. -/
theorem Tied.next {A : Ar} {L : List En} {N : Nat} (h : Tied A L N) : (bst (fun e => !usL L e.s) L).1 = (match A.fr with | s :: _ => s | [] => 0) := by
  obtain ⟨h1, h2, h3⟩ := bst_ok (fun e => !usL L e.s) L (0, 0)
  change (∀ e ∈ L, _ → e.fd ≤ (bst (fun e => !usL L e.s) L).2) at h2
  change bst (fun e => !usL L e.s) L = (0, 0) ∨ _ at h3
  cases hf : A.fr with
  | nil =>
    rcases h3 with h3 | ⟨e, he, hq, h3⟩
    · rw [h3]
    · have hr := h.rng e he
      have : e.s ∈ A.fr := (h.fr e.s).2 ⟨hr.1, hr.2, by simpa using hq⟩
      rw [hf] at this
      simp at this
  | cons s r =>
    have hs := (h.fr s).1 (by rw [hf]; simp)
    obtain ⟨z, hz, zs, -, zf, zl⟩ := h.lastEn hs.1 hs.2.1
    have hzq : (!usL L z.s) = true := by rw [zs, hs.2.2]; rfl
    have hz1 := h2 z hz hzq
    have hzc := h.clk z hz
    rw [zl, hs.2.2] at hzc
    simp at hzc
    rcases h3 with h3 | ⟨e, he, hq, h3⟩
    · rw [h3] at hz1
      simp at hz1
      omega
    · have h3' : bst (fun e => !usL L e.s) L = (e.s, e.fd) := h3
      rw [h3'] at hz1 ⊢
      simp at hz1
      show e.s = s
      apply Classical.byContradiction
      intro hne
      have hr := h.rng e he
      have hel : usL L e.s = false := by simpa using hq
      have hm : e.s ∈ A.fr := (h.fr e.s).2 ⟨hr.1, hr.2, hel⟩
      rw [hf] at hm
      rcases List.mem_cons.1 hm with e1 | hm
      · exact hne e1
      · have ho := h.ord
        rw [hf] at ho
        have h5 := (List.pairwise_cons.1 ho).1 _ hm
        have h6 := h.late he hel
        omega
/-! ### what is put -/
theorem usL_snoc (L : List En) (e : En) (t : Nat) : usL (L ++ [e]) t = if e.s = t then e.lies else usL L t := by
  unfold usL
  rw [fl_append, fl_one]
  split
  · rw [List.getLast?_concat]
    rfl
  · rw [List.append_nil]
theorem lfd_snoc (L : List En) (e : En) (t : Nat) : lfd (L ++ [e]) t = if e.s = t then e.fd else lfd L t := by
  unfold lfd
  rw [fl_append, fl_one]
  split
  · rw [List.getLast?_concat]
    rfl
  · rw [List.append_nil]
theorem Says.more {F : List En} {k : Sl} (h : Says F k) (hn : k.it = none) {e : En} (hg : e.g = k.gen + 1) (hl : e.lies = true) : Says (F ++ [e]) ⟨k.gen + 1, some e.x⟩ := by
  obtain ⟨h1, h2, h3, h4, z, h5, h6⟩ := h
  refine ⟨by simp [h1], by simp, fun j hj => ?_, fun j hj hj2 => ?_, e, List.getLast?_concat, by rw [hl]; rfl⟩
  · by_cases hjF : j < F.length
    · rw [List.getElem_append_left hjF]
      exact h3 j hjF
    · have : j = F.length := by simp at hj; omega
      subst this
      rw [List.getElem_concat_length rfl]
      omega
  · simp at hj2
    rw [List.getElem_append_left hj2]
    by_cases hjF : j + 1 < F.length
    · exact h4 j hj2 hjF
    · have e1 : F.getLast? = some F[j] := by
        rw [List.getLast?_eq_getElem?, show F.length - 1 = j by omega]
        exact List.getElem?_eq_getElem hj2
      rw [e1] at h5
      obtain rfl := Option.some.inj h5
      rw [hn] at h6
      cases hz : F[j].lies
      · rfl
      · rw [hz] at h6
        simp at h6
theorem Says.one {e : En} (hg : e.g = 1) (hl : e.lies = true) : Says [e] ⟨1, some e.x⟩ :=
  ⟨rfl, by simp, fun j hj => by simp at hj; subst hj; simpa using hg, fun j hj hj2 => by simp at hj2, e, rfl, by rw [hl]; rfl⟩
theorem filt_set {α : Type} (p : α → Bool) : ∀ (l : List α) (i : Nat) (a : α) (h : i < l.length), ((l.set i a).filter p).length + (if p l[i] then 1 else 0) = (l.filter p).length + (if p a then 1 else 0)
  | x :: l, 0, a, h => by
    simp only [List.set_cons_zero, List.getElem_cons_zero, List.filter_cons]
    by_cases hx : p x = true <;> by_cases ha : p a = true <;> simp [hx, ha]
  | x :: l, i + 1, a, h => by
    have := filt_set p l i a (by simpa using h)
    simp only [List.set_cons_succ, List.getElem_cons_succ, List.filter_cons]
    by_cases hx : p x = true
    · simp [hx]
      omega
    · simp [hx]
      omega
theorem Tied.usz {A : Ar} {L : List En} {N : Nat} (h : Tied A L N) {s : Nat} (h1 : 1 ≤ s) : usN L s = 0 ↔ A.sl.length < s := by
  constructor
  · intro hz
    apply Classical.byContradiction
    intro hn
    obtain ⟨k, _, hk⟩ := h.slot h1 (by omega)
    have := hk.pos
    unfold usN at hz
    omega
  · intro hs
    unfold usN
    rw [h.noneOf (.inr hs)]
    rfl
theorem Tied.put {A : Ar} {L : List En} {N : Nat} (h : Tied A L N) (x : Nd) : Tied (A.put x) (L ++ [⟨A.nxt.1, A.nxt.2, x, true, 0⟩]) N ∧ A.nxt.2 = usN L A.nxt.1 + 1 := by
  cases hf : A.fr with
  | nil =>
    have e1 : A.nxt = (A.sl.length + 1, 1) := by unfold Ar.nxt; rw [hf]
    have e2 : A.put x = ⟨A.sl ++ [⟨1, some x⟩], []⟩ := by unfold Ar.put; rw [hf]
    have hz : fl L (A.sl.length + 1) = [] := h.noneOf (.inr (by omega))
    rw [e1, e2]
    refine ⟨⟨fun e he => ?_, fun i hi => ?_, fun e he => ?_, fun s => ?_, fun s => ?_, List.Pairwise.nil, ?_⟩, by unfold usN; rw [hz]; rfl⟩
    · rw [List.length_append]
      rcases List.mem_append.1 he with he | he
      · have := h.rng e he
        exact ⟨this.1, Nat.le_trans this.2 (Nat.le_add_right _ _)⟩
      · rw [List.mem_singleton.1 he]
        simp
    · rw [fl_append, fl_one]
      by_cases hlt : i < A.sl.length
      · rw [if_neg (by show A.sl.length + 1 ≠ i + 1; omega), List.append_nil]
        simp only [List.getElem_append_left hlt]
        exact h.says i hlt
      · have : i = A.sl.length := by simp at hi; omega
        subst this
        rw [if_pos rfl, hz]
        simp only [List.getElem_concat_length]
        exact Says.one rfl rfl
    · rcases List.mem_append.1 he with he | he
      · exact h.clk e he
      · rw [List.mem_singleton.1 he]
        rfl
    · rw [fl_append, fl_one]
      split
      · rw [List.pairwise_append]
        refine ⟨h.ris s, by simp, fun a ha b hb hbl => ?_⟩
        rw [List.mem_singleton.1 hb] at hbl
        cases hbl
      · rw [List.append_nil]
        exact h.ris s
    · simp only [List.not_mem_nil, false_iff, List.length_append, List.length_singleton]
      rintro ⟨h1, h2, h3⟩
      rw [usL_snoc] at h3
      split at h3
      · cases h3
      · rename_i hne
        have hne' : A.sl.length + 1 ≠ s := hne
        have := (h.fr s).2 ⟨h1, by omega, h3⟩
        rw [hf] at this
        simp at this
    · rw [liN_append, h.liv]
      simp [Ar.live, liN, List.filter_append]
  | cons s r =>
    have hs := (h.fr s).1 (by rw [hf]; simp)
    obtain ⟨k, hk, hS⟩ := h.slot hs.1 hs.2.1
    have e1 : A.nxt = (s, k.gen + 1) := by unfold Ar.nxt; rw [hf]; simp [hk]
    have e2 : A.put x = ⟨A.sl.set (s - 1) ⟨k.gen + 1, some x⟩, r⟩ := by unfold Ar.put; rw [hf]; simp [hk]
    have hus := hS.us
    have hkn : k.it = none := by
      have := hus.2
      rw [hs.2.2] at this
      cases hi : k.it
      · rfl
      · rw [hi] at this; cases this
    have ho := h.ord
    rw [hf] at ho
    have ho := List.pairwise_cons.1 ho
    have hne : ∀ t ∈ r, t ≠ s := fun t ht e => by
      have := ho.1 t ht
      rw [e] at this
      omega
    rw [e1, e2]
    refine ⟨⟨fun e he => ?_, fun i hi => ?_, fun e he => ?_, fun t => ?_, fun t => ?_, ?_, ?_⟩, by rw [hus.1]⟩
    · rw [List.length_set]
      rcases List.mem_append.1 he with he | he
      · exact h.rng e he
      · rw [List.mem_singleton.1 he]
        exact ⟨hs.1, hs.2.1⟩
    · rw [List.length_set] at hi
      rw [fl_append, fl_one]
      by_cases e : s - 1 = i
      · subst e
        rw [show s - 1 + 1 = s by omega, if_pos rfl, List.getElem_set_self]
        exact hS.more hkn rfl rfl
      · rw [if_neg (by show s ≠ i + 1; omega), List.append_nil, List.getElem_set_ne e]
        exact h.says i hi
    · rcases List.mem_append.1 he with he | he
      · exact h.clk e he
      · rw [List.mem_singleton.1 he]
        rfl
    · rw [fl_append, fl_one]
      split
      · rw [List.pairwise_append]
        refine ⟨h.ris t, by simp, fun a ha b hb hbl => ?_⟩
        rw [List.mem_singleton.1 hb] at hbl
        cases hbl
      · rw [List.append_nil]
        exact h.ris t
    · rw [List.length_set, usL_snoc]
      show t ∈ r ↔ 1 ≤ t ∧ t ≤ A.sl.length ∧ (if s = t then true else usL L t) = false
      have := h.fr t
      rw [hf, List.mem_cons] at this
      by_cases e : s = t
      · rw [if_pos e]
        simp
        intro ht
        exact hne t ht e.symm
      · rw [if_neg e, ← this]
        constructor
        · exact .inr
        · rintro (h1 | h1)
          · exact absurd h1.symm e
          · exact h1
    · refine List.Pairwise.imp_of_mem ?_ ho.2
      intro a b ha hb hab
      rw [lfd_snoc, lfd_snoc, if_neg (fun e => hne b hb e.symm), if_neg (fun e => hne a ha e.symm)]
      exact hab
    · have hi : s - 1 < A.sl.length := by omega
      have := filt_set (fun k : Sl => k.it.isSome) A.sl (s - 1) ⟨k.gen + 1, some x⟩ hi
      rw [List.getElem?_eq_getElem hi] at hk
      obtain rfl := Option.some.inj hk
      rw [hkn] at this
      rw [liN_append, h.liv]
      simp [Ar.live, liN] at this ⊢
      omega
/-! ### what is found, and freed -/
theorem Says.at_last {F : List En} {k : Sl} (h : Says F k) {e : En} (he : e ∈ F) (hl : e.lies = true) : e.g = k.gen ∧ k.it = some e.x := by
  obtain ⟨j, hj, rfl⟩ := List.getElem_of_mem he
  by_cases hlast : j + 1 < F.length
  · rw [h.old j hj hlast] at hl
    cases hl
  · have hg := h.gens j hj
    have hlen := h.len
    refine ⟨by omega, ?_⟩
    obtain ⟨z, h5, h6⟩ := h.last
    have e1 : F.getLast? = some F[j] := by
      rw [List.getLast?_eq_getElem?, show F.length - 1 = j by omega]
      exact List.getElem?_eq_getElem hj
    rw [e1] at h5
    obtain rfl := Option.some.inj h5
    rw [h6, hl]
    rfl
theorem Tied.hit {A : Ar} {L : List En} {N : Nat} (h : Tied A L N) {e : En} (he : e ∈ L) (hl : e.lies = true) : A.get e.s e.g = some e.x := by
  have hr := h.rng e he
  obtain ⟨k, hk, hS⟩ := h.slot hr.1 hr.2
  obtain ⟨h1, h2⟩ := hS.at_last (mem_fl.2 ⟨he, rfl⟩) hl
  unfold Ar.get
  rw [if_pos (by omega)]
  simp [hk, h1, h2]
theorem Tied.miss {A : Ar} {L : List En} {N : Nat} (h : Tied A L N) {s g : Int} {x : Nd} (hg : A.get s g = some x) : ∃ e ∈ L, (e.s : Int) = s ∧ (e.g : Int) = g ∧ e.lies = true ∧ e.x = x := by
  unfold Ar.get at hg
  split at hg
  · rename_i h1
    split at hg
    · rename_i k hk
      split at hg
      · rename_i hgen
        have hi : s.toNat - 1 < A.sl.length := (List.getElem?_eq_some_iff.1 hk).1
        obtain ⟨k', hk', hS⟩ := h.slot (s := s.toNat) (by omega) (by omega)
        rw [hk] at hk'
        obtain rfl := Option.some.inj hk'
        obtain ⟨e, h5, h6⟩ := hS.last
        have hm := mem_fl.1 (List.mem_of_getLast? h5)
        rw [hg] at h6
        have hel : e.lies = true := by
          cases hz : e.lies
          · rw [hz] at h6; simp at h6
          · rfl
        rw [hel] at h6
        have hx : x = e.x := by simpa using h6
        have h7 := (hS.at_last (List.mem_of_getLast? h5) hel).1
        exact ⟨e, hm.1, by omega, by omega, hel, hx.symm⟩
      · cases hg
    · cases hg
  · cases hg
/-- Who lies there is the last one of its slot. -/
theorem Tied.part {A : Ar} {L P Q : List En} {e : En} {N : Nat} (h : Tied A L N) (hL : L = P ++ e :: Q) (hl : e.lies = true) : fl Q e.s = [] ∧ fl L e.s = fl P e.s ++ [e] := by
  have hr := h.rng e (by rw [hL]; simp)
  obtain ⟨k, hk, hS⟩ := h.slot hr.1 hr.2
  have e1 : fl L e.s = fl P e.s ++ e :: fl Q e.s := by rw [hL, fl_append, fl_cons, if_pos rfl]
  have hq : fl Q e.s = [] := by
    apply Classical.byContradiction
    intro hne
    have hpos : 0 < (fl Q e.s).length := List.length_pos_iff.2 hne
    have hlen : (fl L e.s).length = (fl P e.s).length + 1 + (fl Q e.s).length := by rw [e1]; simp; omega
    have := hS.old (fl P e.s).length (by omega) (by omega)
    have e2 : (fl L e.s)[(fl P e.s).length]'(by omega) = e := by
      simp only [e1]
      rw [List.getElem_append_right (Nat.le_refl _)]
      simp
    rw [e2, hl] at this
    cases this
  exact ⟨hq, by rw [e1, hq]⟩
theorem Says.freed {F : List En} {k : Sl} {e e' : En} (h : Says (F ++ [e]) k) (hg : e'.g = e.g) (hl : e'.lies = false) : Says (F ++ [e']) ⟨k.gen, none⟩ := by
  obtain ⟨h1, h2, h3, h4, z, h5, h6⟩ := h
  refine ⟨by simp at h1 ⊢; exact h1, by simp, fun j hj => ?_, fun j hj hj2 => ?_, e', List.getLast?_concat, by rw [hl]; rfl⟩
  · have h7 := h3 j (by simp at hj ⊢; exact hj)
    by_cases hjF : j < F.length
    · rw [List.getElem_append_left hjF] at h7 ⊢
      exact h7
    · have : j = F.length := by simp at hj; omega
      subst this
      rw [List.getElem_concat_length rfl] at h7 ⊢
      omega
  · have h7 := h4 j (by simp at hj ⊢; exact hj) (by simp at hj2 ⊢; exact hj2)
    have hjF : j < F.length := by simp at hj2; exact hj2
    rw [List.getElem_append_left hjF] at h7 ⊢
    exact h7
theorem Tied.free {A : Ar} {L P Q : List En} {e e' : En} {N : Nat} (h : Tied A L N) (hL : L = P ++ e :: Q) (hl : e.lies = true) (hs : e'.s = e.s) (hg : e'.g = e.g) (hl' : e'.lies = false) (hf : e'.fd = N + 1) : Tied (A.free e.s) (P ++ e' :: Q) (N + 1) := by
  obtain ⟨hq, hp⟩ := h.part hL hl
  have hr := h.rng e (by rw [hL]; simp)
  obtain ⟨k, hk, hS⟩ := h.slot hr.1 hr.2
  have hi : e.s - 1 < A.sl.length := by omega
  have hkk : A.sl[e.s - 1] = k := by
    rw [List.getElem?_eq_getElem hi] at hk
    exact Option.some.inj hk
  have e0 : A.free e.s = ⟨A.sl.set (e.s - 1) ⟨k.gen, none⟩, e.s :: A.fr⟩ := by unfold Ar.free; simp [hk]
  have f1 : fl (P ++ e' :: Q) e.s = fl P e.s ++ [e'] := by rw [fl_append, fl_cons, if_pos hs, hq]
  have f2 : ∀ t, t ≠ e.s → fl (P ++ e' :: Q) t = fl L t := fun t ht => by
    rw [hL, fl_append, fl_append, fl_cons, fl_cons, if_neg (by rw [hs]; exact fun x => ht x.symm), if_neg (fun x => ht x.symm)]
  have u1 : usL (P ++ e' :: Q) e.s = false := by unfold usL; rw [f1, List.getLast?_concat]; exact hl'
  have u2 : ∀ t, t ≠ e.s → usL (P ++ e' :: Q) t = usL L t := fun t ht => by unfold usL; rw [f2 t ht]
  have d1 : lfd (P ++ e' :: Q) e.s = N + 1 := by unfold lfd; rw [f1, List.getLast?_concat]; exact hf
  have d2 : ∀ t, t ≠ e.s → lfd (P ++ e' :: Q) t = lfd L t := fun t ht => by unfold lfd; rw [f2 t ht]
  have uL : usL L e.s = true := by unfold usL; rw [hp, List.getLast?_concat]; exact hl
  have hnf : e.s ∉ A.fr := fun hm => by
    have := ((h.fr e.s).1 hm).2.2
    rw [uL] at this
    cases this
  rw [e0]
  refine ⟨fun x hx => ?_, fun i hi' => ?_, fun x hx => ?_, fun t => ?_, fun t => ?_, ?_, ?_⟩
  · rw [List.length_set]
    rcases List.mem_append.1 hx with hx | hx
    · exact h.rng x (by rw [hL]; exact List.mem_append_left _ hx)
    · rcases List.mem_cons.1 hx with rfl | hx
      · rw [hs]; exact hr
      · exact h.rng x (by rw [hL]; exact List.mem_append_right _ (List.mem_cons_of_mem _ hx))
  · rw [List.length_set] at hi'
    by_cases ei : e.s - 1 = i
    · subst ei
      rw [show e.s - 1 + 1 = e.s by omega, f1, List.getElem_set_self]
      rw [hp] at hS
      exact hS.freed hg hl'
    · rw [f2 _ (by omega), List.getElem_set_ne ei]
      exact h.says i hi'
  · have hold : ∀ y ∈ L, if y.lies then y.fd = 0 else 1 ≤ y.fd ∧ y.fd ≤ N + 1 := fun y hy => by
      have := h.clk y hy
      split at this
      · rename_i hy; rw [if_pos hy]; exact this
      · rename_i hy; rw [if_neg hy]; omega
    rcases List.mem_append.1 hx with hx | hx
    · exact hold x (by rw [hL]; exact List.mem_append_left _ hx)
    · rcases List.mem_cons.1 hx with rfl | hx
      · rw [hl', hf]
        simp
      · exact hold x (by rw [hL]; exact List.mem_append_right _ (List.mem_cons_of_mem _ hx))
  · by_cases et : t = e.s
    · subst et
      have hrs := h.ris e.s
      rw [hp] at hrs
      rw [f1]
      rw [List.pairwise_append] at hrs ⊢
      refine ⟨hrs.1, by simp, fun a ha b hb _ => ?_⟩
      rw [List.mem_singleton.1 hb, hf]
      have := h.clk a (by rw [hL]; exact List.mem_append_left _ (mem_fl.1 ha).1)
      split at this <;> omega
    · rw [f2 t et]
      exact h.ris t
  · rw [List.length_set, List.mem_cons]
    by_cases et : t = e.s
    · subst et
      simp [u1, hr.1, hr.2]
    · rw [u2 t et, ← h.fr t]
      simp [et]
  · refine List.pairwise_cons.2 ⟨fun t ht => ?_, ?_⟩
    · have hne : t ≠ e.s := fun x => hnf (x ▸ ht)
      have h1 := (h.fr t).1 ht
      obtain ⟨z, hz, _, _, zf, zl⟩ := h.lastEn h1.1 h1.2.1
      have := h.clk z hz
      rw [zl, h1.2.2] at this
      simp at this
      rw [d1, d2 t hne]
      omega
    · refine List.Pairwise.imp_of_mem ?_ h.ord
      intro a b ha hb hab
      rw [d2 a (fun x => hnf (x ▸ ha)), d2 b (fun x => hnf (x ▸ hb))]
      exact hab
  · have hki : k.it.isSome = true := by rw [← hS.us.2, uL]
    have h1 := filt_set (fun k : Sl => k.it.isSome) A.sl (e.s - 1) ⟨k.gen, none⟩ hi
    rw [hkk] at h1
    have h2 := h.liv
    rw [hL] at h2
    have h3 : liN (P ++ e :: Q) = liN P + 1 + liN Q := by
      rw [liN_append, show e :: Q = [e] ++ Q from rfl, liN_append]
      simp [liN, hl]
      omega
    have h4 : liN (P ++ e' :: Q) = liN P + liN Q := by
      rw [liN_append, show e' :: Q = [e'] ++ Q from rfl, liN_append]
      simp [liN, hl']
    rw [h4]
    rw [h3] at h2
    simp [Ar.live, hki] at h1 h2 ⊢
    omega
end Go.Proofs.Ytcckamajiebgeaa
