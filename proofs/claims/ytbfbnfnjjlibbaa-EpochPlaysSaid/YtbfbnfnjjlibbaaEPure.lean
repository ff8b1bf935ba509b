/-
  The document's limbo, plain: what may go; that what waits, by rising epochs, is cut once by a Free. No conditions.
-/
import Derived.Test.YtbfbnfnjjlibbaaERef1
namespace Go.Proofs.Ytbfbnfnjjlibbaa
set_option linter.unusedVariables false
set_option linter.unusedSimpArgs false

/-- What waits: a handle, by which epoch. -/
abbrev Wp := (Int × Int) × Nat
def may (least : Int) (now : Nat) (ep : Nat) : Bool := decide ((ep : Int) < least) && decide (ep + 2 ≤ now)
def mayR (least : Int) (now : Nat) (r : Rt) : Bool := !r.gone && may least now r.ep
def goR (least : Int) (now : Nat) (r : Rt) : Rt := if mayR least now r then ⟨r.h, r.ep, true⟩ else r
/-- All that was retired, behind a Free. -/
def frD (least : Int) (now : Nat) (D : List Rt) : List Rt := D.map (goR least now)
/-- What goes by it. -/
def otD (least : Int) (now : Nat) (D : List Rt) : List (Int × Int) := rtH (D.filter (mayR least now))
def reD (now : Nat) (hs : List (Int × Int)) : List Rt := hs.map fun h => ⟨h, now, false⟩
/-- What waits, with its epochs. -/
def wq (D : List Rt) : List Wp := (D.filter fun r => !r.gone).map fun r => (r.h, r.ep)
theorem frD_length (least : Int) (now : Nat) (D : List Rt) : (frD least now D).length = D.length := by simp [frD]
theorem reD_length (now : Nat) (hs : List (Int × Int)) : (reD now hs).length = hs.length := by simp [reD]
theorem wq_fst (D : List Rt) : (wq D).map Prod.fst = wt D := by simp [wq, wt, rtH, List.map_map, Function.comp_def]
theorem wq_append (D E : List Rt) : wq (D ++ E) = wq D ++ wq E := by simp [wq]
theorem wq_reD (now : Nat) (hs : List (Int × Int)) : wq (reD now hs) = hs.map fun h => (h, now) := by
  unfold wq reD
  rw [List.filter_eq_self.2 (by intro r hr; obtain ⟨h, _, rfl⟩ := List.mem_map.1 hr; rfl)]
  simp [List.map_map, Function.comp_def]
theorem wq_retire (D : List Rt) (now : Nat) (hs : List (Int × Int)) : wq (D ++ reD now hs) = wq D ++ hs.map fun h => (h, now) := by rw [wq_append, wq_reD]
theorem wq_frD (least : Int) (now : Nat) : ∀ D : List Rt, wq (frD least now D) = (wq D).filter fun q => !may least now q.2
  | [] => rfl
  | r :: D => by
    have ih := wq_frD least now D
    have e1 : wq (frD least now (r :: D)) = wq [goR least now r] ++ wq (frD least now D) := by rw [← wq_append]; rfl
    have e2 : wq (r :: D) = wq [r] ++ wq D := by rw [← wq_append]; rfl
    rw [e1, e2, List.filter_append, ih]
    congr 1
    unfold goR mayR wq
    cases hg : r.gone <;> cases hm : may least now r.ep <;> simp [hg, hm]
theorem otD_eq (least : Int) (now : Nat) : ∀ D : List Rt, otD least now D = ((wq D).filter fun q => may least now q.2).map Prod.fst
  | [] => rfl
  | r :: D => by
    have ih := otD_eq least now D
    have e1 : otD least now (r :: D) = otD least now [r] ++ otD least now D := by simp [otD, rtH, List.filter_cons]; split <;> simp
    have e2 : wq (r :: D) = wq [r] ++ wq D := by rw [← wq_append]; rfl
    rw [e1, e2, List.filter_append, List.map_append, ih]
    congr 1
    unfold otD mayR wq rtH
    cases hg : r.gone <;> cases hm : may least now r.ep <;> simp [hg, hm]
/-! ### step by step -/
theorem otD_take (least : Int) (now : Nat) (D : List Rt) (k : Nat) (h : k < D.length) : otD least now (D.take (k + 1)) = if mayR least now D[k] then otD least now (D.take k) ++ [D[k].h] else otD least now (D.take k) := by
  unfold otD rtH
  rw [List.take_succ_eq_append_getElem h, List.filter_append]
  cases hg : mayR least now D[k] <;> simp [hg]
theorem otD_le (least : Int) (now : Nat) (D : List Rt) : (otD least now D).length ≤ D.length := by
  unfold otD
  rw [rtH_length]
  exact List.length_filter_le _ _
/-- A Free, as far as it got. -/
def frK (least : Int) (now : Nat) (D : List Rt) (k : Nat) : List Rt := frD least now (D.take k) ++ D.drop k
theorem frK_zero (least : Int) (now : Nat) (D : List Rt) : frK least now D 0 = D := by simp [frK, frD]
theorem frK_all (least : Int) (now : Nat) (D : List Rt) : frK least now D D.length = frD least now D := by simp [frK]
theorem frK_length (least : Int) (now : Nat) (D : List Rt) (k : Nat) : (frK least now D k).length = D.length := by
  simp [frK, frD_length]
  omega
theorem frK_at (least : Int) (now : Nat) (D : List Rt) (k : Nat) (h : k < D.length) : (frK least now D k)[k]'(by rw [frK_length]; exact h) = D[k] := by
  unfold frK
  rw [List.getElem_append_right (by rw [frD_length, List.length_take]; omega)]
  simp [frD_length, List.length_take, show min k D.length = k by omega]
theorem frK_succ (least : Int) (now : Nat) (D : List Rt) (k : Nat) (h : k < D.length) : frK least now D (k + 1) = (frK least now D k).set k (goR least now D[k]) := by
  have hl : (frD least now (D.take k)).length = k := by rw [frD_length, List.length_take]; omega
  unfold frK
  rw [List.set_append_right _ _ (by omega), hl, Nat.sub_self, List.drop_eq_getElem_cons h, List.set_cons_zero, List.take_succ_eq_append_getElem h]
  simp only [frD, List.map_append, List.map_cons, List.map_nil, List.append_assoc, List.cons_append, List.nil_append]
theorem rtH_frD (least : Int) (now : Nat) (D : List Rt) : rtH (frD least now D) = rtH D := by
  unfold rtH frD
  rw [List.map_map]
  refine List.map_congr_left fun r _ => ?_
  simp only [Function.comp_apply, goR]
  split <;> rfl
theorem rtB_frD (least : Int) (now : Nat) (D : List Rt) : rtB (frD least now D) = rtB D := by
  unfold rtB frD
  rw [List.map_map]
  refine List.map_congr_left fun r _ => ?_
  simp only [Function.comp_apply, goR]
  split <;> rfl
theorem rtH_set (D : List Rt) (k : Nat) (h : k < D.length) (b : Bool) : rtH (D.set k ⟨D[k].h, D[k].ep, b⟩) = rtH D := by
  unfold rtH
  rw [List.map_set]
  refine List.ext_getElem (by simp) fun i h1 h2 => ?_
  rw [List.getElem_set]
  split
  · subst_vars; simp
  · simp
theorem rtB_set (D : List Rt) (k : Nat) (h : k < D.length) (b : Bool) : rtB (D.set k ⟨D[k].h, D[k].ep, b⟩) = rtB D := by
  unfold rtB
  rw [List.map_set]
  refine List.ext_getElem (by simp) fun i h1 h2 => ?_
  rw [List.getElem_set]
  split
  · subst_vars; simp
  · simp
theorem rtG_set (D : List Rt) (k : Nat) (h : k < D.length) (b : Bool) : rtG (D.set k ⟨D[k].h, D[k].ep, b⟩) = (rtG D).set k (.bool b) := by simp [rtG, List.map_set]
/-! ### by rising epochs -/
def Up (q : List Wp) : Prop := q.Pairwise fun a b => a.2 ≤ b.2
/-- All by epochs that were. -/
def Pst (q : List Wp) (now : Nat) : Prop := Up q ∧ ∀ a ∈ q, a.2 ≤ now
theorem Pst.nil (now : Nat) : Pst [] now := ⟨List.Pairwise.nil, by simp⟩
theorem Pst.later {q : List Wp} {n m : Nat} (h : Pst q n) (hm : n ≤ m) : Pst q m := ⟨h.1, fun a ha => Nat.le_trans (h.2 a ha) hm⟩
theorem Pst.retire {q : List Wp} {n : Nat} (h : Pst q n) (hs : List (Int × Int)) : Pst (q ++ hs.map fun x => (x, n)) n := by
  refine ⟨List.pairwise_append.2 ⟨h.1, ?_, fun a ha b hb => ?_⟩, fun a ha => ?_⟩
  · rw [List.pairwise_map]
    exact List.Pairwise.imp (fun _ => Nat.le_refl _) (List.pairwise_of_forall (R := fun _ _ => True) fun _ _ => trivial)
  · obtain ⟨x, _, rfl⟩ := List.mem_map.1 hb
    exact h.2 a ha
  · rcases List.mem_append.1 ha with ha | ha
    · exact h.2 a ha
    · obtain ⟨x, _, rfl⟩ := List.mem_map.1 ha
      exact Nat.le_refl _
theorem may_down {least : Int} {now a b : Nat} (h : a ≤ b) (hb : may least now b = true) : may least now a = true := by
  simp only [may, Bool.and_eq_true, decide_eq_true_eq] at hb ⊢
  omega
/-- A Free cuts once. -/
theorem Up.cut (least : Int) (now : Nat) : ∀ {q : List Wp}, Up q → ∃ k, k ≤ q.length ∧ q.filter (fun a => may least now a.2) = q.take k ∧ q.filter (fun a => !may least now a.2) = q.drop k
  | [], _ => ⟨0, Nat.le_refl _, rfl, rfl⟩
  | a :: q, h => by
    obtain ⟨h1, h2⟩ := List.pairwise_cons.1 h
    cases hm : may least now a.2 with
    | true =>
      obtain ⟨k, hk, e1, e2⟩ := Up.cut least now h2
      exact ⟨k + 1, by simpa using hk, by simp [List.filter_cons, hm, e1], by simp [List.filter_cons, hm, e2]⟩
    | false =>
      have hn : ∀ b ∈ q, may least now b.2 = false := fun b hb => by
        cases hb' : may least now b.2 with
        | false => rfl
        | true => rw [may_down (h1 b hb) hb'] at hm; cases hm
      refine ⟨0, Nat.zero_le _, ?_, ?_⟩
      · rw [List.filter_cons_of_neg (by simp [hm]), List.filter_eq_nil_iff.2 (fun b hb => by simp [hn b hb])]
        rfl
      · rw [List.filter_cons_of_pos (by simp [hm]), List.filter_eq_self.2 (fun b hb => by simp [hn b hb])]
        rfl
theorem Pst.free {q : List Wp} {n : Nat} (h : Pst q n) (least : Int) (now : Nat) : Pst (q.filter fun a => !may least now a.2) n :=
  ⟨h.1.sublist List.filter_sublist, fun a ha => h.2 a (List.mem_filter.1 ha).1⟩
/-- Behind three advances all may go. -/
theorem Pst.three {q : List Wp} {n : Nat} (h : Pst q n) {least : Int} (hl : (n : Int) < least) : q.filter (fun a => may least (n + 3) a.2) = q ∧ q.filter (fun a => !may least (n + 3) a.2) = [] := by
  have hm : ∀ a ∈ q, may least (n + 3) a.2 = true := fun a ha => by
    have := h.2 a ha
    simp only [may, Bool.and_eq_true, decide_eq_true_eq]
    omega
  exact ⟨List.filter_eq_self.2 hm, List.filter_eq_nil_iff.2 fun a ha => by simp [hm a ha]⟩
/-- What is retired by a pinned epoch, or by a later one, waits. -/
theorem may_pinned {least : Int} {now ep : Nat} (h : least ≤ (ep : Int)) : may least now ep = false := by
  simp only [may, Bool.and_eq_false_iff, decide_eq_false_iff_not]
  omega
/-! ### numbered handles -/
/-- The handles number lo + 1 to lo + n. -/
def nums (lo n : Nat) : List (Int × Int) := (List.range n).map fun (k : Nat) => ((lo + k + 1 : Nat), 1)
theorem nums_length (lo n : Nat) : (nums lo n).length = n := by simp [nums]
theorem nums_at (lo n k : Nat) (h : k < n) : (nums lo n)[k]'(by rw [nums_length]; exact h) = (((lo + k + 1 : Nat) : Int), 1) := by simp [nums]
theorem nums_append (lo n m : Nat) : nums lo n ++ nums (lo + n) m = nums lo (n + m) := by
  unfold nums
  rw [List.range_add, List.map_append, List.map_map]
  congr 1
  refine List.map_congr_left fun k _ => ?_
  simp only [Function.comp_apply]
  congr 2
  omega
theorem nums_take (lo n k : Nat) (h : k ≤ n) : (nums lo n).take k = nums lo k := by
  obtain ⟨m, rfl⟩ := Nat.exists_eq_add_of_le h
  rw [← nums_append, List.take_append_of_le_length (by rw [nums_length]; exact Nat.le_refl _), List.take_of_length_le (by rw [nums_length]; exact Nat.le_refl _)]
theorem nums_drop (lo n k : Nat) (h : k ≤ n) : (nums lo n).drop k = nums (lo + k) (n - k) := by
  obtain ⟨m, rfl⟩ := Nat.exists_eq_add_of_le h
  rw [← nums_append, List.drop_append_of_le_length (by rw [nums_length]; exact Nat.le_refl _), List.drop_of_length_le (by rw [nums_length]; exact Nat.le_refl _), Nat.add_sub_cancel_left]
  rfl
theorem nums_snoc (lo n : Nat) : nums lo (n + 1) = nums lo n ++ [(((lo + n + 1 : Nat) : Int), 1)] := by
  rw [← nums_append]
  rfl
/-- What waits is numbered on; a Free takes its beginning. -/
theorem nums_free {q : List Wp} {gone n : Nat} (h : q.map Prod.fst = nums gone (n - gone)) (hu : Up q) (least : Int) (now : Nat) : ∃ k, k ≤ n - gone ∧ (q.filter fun a => may least now a.2).map Prod.fst = nums gone k ∧ (q.filter fun a => !may least now a.2).map Prod.fst = nums (gone + k) (n - (gone + k)) := by
  obtain ⟨k, hk, e1, e2⟩ := hu.cut least now
  have hl : q.length = n - gone := by rw [← nums_length gone (n - gone), ← h, List.length_map]
  refine ⟨k, by omega, ?_, ?_⟩
  · rw [e1, List.map_take, h, nums_take _ _ _ (by omega)]
  · rw [e2, List.map_drop, h, nums_drop _ _ _ (by omega), Nat.sub_sub]
end Go.Proofs.Ytbfbnfnjjlibbaa
