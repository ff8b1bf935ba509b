/-
  Slices of kids: how they lie in cells; their order, and what is sorted by it. No conditions beyond those that each statement bears.
-/
import Derived.Test.YtimfeocaghccdaaGreatDoorTPure
import Derived.Laws.AppendOwn
import Derived.OwnWalk
import Derived.Maps.AppendAt
import Derived.Shelf.SlSortCmp.NoneTotal
namespace Go.Proofs.YtimfeocaghccdaaGreatDoor
set_option maxRecDepth 100000
open Go.RowKit Go.Sort
set_option linter.unusedVariables false
set_option linter.unusedSimpArgs false
set_option maxRecDepth 100000

def kc (k : Kd) : List Value := [.int .i64 k.to, .string (bs k.nm), .int .i64 k.nd]
def kv (k : Kd) : Value := .agg #[.int .i64 k.to, .string (bs k.nm), .int .i64 k.nd]
def kcs (ks : List Kd) : List Value := (ks.map kc).flatten
theorem kcs_length : ∀ (ks : List Kd), (kcs ks).length = ks.length * 3
  | [] => rfl
  | k :: ks => by
    have := kcs_length ks
    simp only [kcs, List.map_cons, List.flatten_cons, List.length_append, List.length_cons] at this ⊢
    rw [this]
    simp [kc]
    omega
theorem kcs_append (a b : List Kd) : kcs (a ++ b) = kcs a ++ kcs b := by simp [kcs]
theorem kcs_one (ks : List Kd) : ∀ u ∈ kcs ks, u.oneCell' = true := by
  intro u hu
  simp only [kcs, List.mem_flatten, List.mem_map] at hu
  obtain ⟨x, ⟨o, _, rfl⟩, hu⟩ := hu
  simp only [kc, List.mem_cons, List.not_mem_nil, or_false] at hu
  rcases hu with rfl | rfl | rfl <;> rfl
theorem kcs_at : ∀ (ks : List Kd) (j i : Nat) (h : j < ks.length), i < 3 → (kcs ks)[j * 3 + i]? = (kc ks[j])[i]?
  | [], j, i, h, _ => by simp at h
  | o :: os, 0, i, h, hi => by
    simp only [kcs, List.map_cons, List.flatten_cons, Nat.zero_mul, Nat.zero_add, List.getElem_cons_zero]
    rw [List.getElem?_append_left (by simpa [kc] using hi)]
  | o :: os, j + 1, i, h, hi => by
    have := kcs_at os j i (by simpa using h) hi
    simp only [kcs, List.map_cons, List.flatten_cons, List.getElem_cons_succ] at this ⊢
    rw [← this, List.getElem?_append_right (by simp [kc]; omega)]
    congr 1
    simp [kc]
    omega
/-- Kids that can be read, from a place on. -/
def KidsAt (w : World) (b o : Nat) (ks : List Kd) : Prop := ∀ j u, (kcs ks)[j]? = some u → w.cell? ⟨b, o + j, none⟩ = some u
theorem KidsAt.three {w : World} {b o : Nat} {ks : List Kd} (h : KidsAt w b o ks) (j : Nat) (hj : j < ks.length) :
    w.cell? ⟨b, o + j * 3, none⟩ = some (.int .i64 ks[j].to) ∧ w.cell? ⟨b, o + j * 3 + 1, none⟩ = some (.string (bs ks[j].nm)) ∧ w.cell? ⟨b, o + j * 3 + 2, none⟩ = some (.int .i64 ks[j].nd) := by
  refine ⟨?_, ?_, ?_⟩
  · exact h (j * 3 + 0) _ (by rw [kcs_at ks j 0 hj (by omega)]; rfl)
  · exact h (j * 3 + 1) _ (by rw [kcs_at ks j 1 hj (by omega)]; rfl)
  · exact h (j * 3 + 2) _ (by rw [kcs_at ks j 2 hj (by omega)]; rfl)
/-- A row of kids of the program's own. -/
def OwnKids (w : World) (base : Nat) (v : Value) (ks : List Kd) : Prop := w.ownsRow base 79 3 v ks.length (kcs ks)
theorem OwnKids.nil (w : World) (base : Nat) : OwnKids w base (.slice none 0 0) [] := World.ownsRow_nil w base _ _
theorem OwnKids.kept {w w' : World} {base : Nat} {v : Value} {ks : List Kd} (h : OwnKids w base v ks) (hk : ∀ b, v.ownBlock = some b → w'.heap[b]? = w.heap[b]?) : OwnKids w' base v ks := by
  refine ⟨h.1, ?_⟩
  rcases h.2 with h0 | ⟨g, cap, cur, rfl, h2, h3, h4⟩
  · exact .inl h0
  · exact .inr ⟨g, cap, cur, rfl, h2, (hk g rfl).trans h3, h4⟩
theorem OwnKids.lt {w : World} {base : Nat} {v : Value} {ks : List Kd} (h : OwnKids w base v ks) {b : Nat} (hb : v.ownBlock = some b) : base ≤ b ∧ b < w.heap.size := by
  rcases h.2 with ⟨rfl, _⟩ | ⟨g, cap, cur, rfl, h2, h3, h4⟩
  · simp [Value.ownBlock] at hb
  · simp [Value.ownBlock] at hb
    subst hb
    exact ⟨h2, (Array.getElem?_eq_some_iff.1 h3).1⟩
theorem OwnKids.below {w w' : World} {base : Nat} {v : Value} {ks : List Kd} (h : OwnKids w base v ks) (hb : Below w.heap.size w w') : OwnKids w' base v ks :=
  h.kept fun b hb' => hb.block b (h.lt hb').2
theorem OwnKids.base {w : World} {base base' : Nat} {v : Value} {ks : List Kd} (h : OwnKids w base v ks) (hb : base' ≤ base) : OwnKids w base' v ks := by
  refine ⟨h.1, ?_⟩
  rcases h.2 with h0 | ⟨g, cap, cur, h1, h2, h3⟩
  · exact .inl h0
  · exact .inr ⟨g, cap, cur, h1, by omega, h3⟩
/-- The form of a row: its address, what can be read. -/
theorem OwnKids.form {w : World} {base : Nat} {v : Value} {ks : List Kd} (h : OwnKids w base v ks) : ∃ A c, v = .slice A ks.length c ∧ ks.length ≤ c ∧ c ≤ maxLen ∧ (0 < ks.length → ∃ b, A = some ⟨b, 0, none⟩ ∧ KidsAt w b 0 ks) := by
  rcases h.2 with ⟨rfl, h0⟩ | ⟨g, cap, cur, rfl, hb, hg, hn, hm, hs, ht⟩
  · exact ⟨none, 0, by rw [h0], by omega, by simp [maxLen], fun h => by omega⟩
  · refine ⟨_, cap, rfl, hn, hm, fun hp => ⟨g, rfl, fun j u hu => ?_⟩⟩
    have := World.ownsRow.cells (g := g) h rfl j u hu
    rwa [Addr.add_lit] at this
theorem kidinfo : (Tryz.prog.info? 79).map (fun i => (i.zero, i.size, i.bytes)) = some (some (.agg #[.int .i64 0, .string ⟨#[]⟩, .int .i64 0]), 3, 32) := by kernel_rfl
theorem kid_new (w : World) (k : Kd) : ∀ j u, (kcs [k])[j]? = some u → (w.alloc (.cells #[.int .i64 k.to, .string (bs k.nm), .int .i64 k.nd] 79)).cell? ((⟨w.heap.size, 0, none⟩ : Addr).add j) = some u := by
  intro j u hu
  rw [Addr.add_lit, Nat.zero_add, cell_of_row _ w.heap.size j _ _ (0, 0) (heap_alloc_new w _)]
  have e : kcs [k] = (#[.int .i64 k.to, .string (bs k.nm), .int .i64 k.nd] : Array Value).toList := by simp [kcs, kc]
  rw [e] at hu
  simpa using hu
/-- A kid that is appended to a row of the program's own. -/
theorem wpList_append_kid (w : World) {ops : Array Oper} {rest : List Oper} {o : Oper} {a : Act} {Q : Exit → Act → World → Prop} (hgd : o.guard = none) (s x : Operand)
    (ho : o.op = .call { callee := .builtin .append, args := #[s, x], argTypes := #[42, 42] })
    (base : Nat) (v : Value) (ks : List Kd) (hs : a.eval s = v) (hown : OwnKids w base v ks)
    (ad : Addr) (c : Nat) (y : Kd) (hx : a.eval x = .slice (some ad) 1 c) (hh : ∀ j u, (kcs [y])[j]? = some u → w.cell? (ad.add j) = some u)
    (h63 : ks.length ≤ 1000000) (hbase : base ≤ w.heap.size)
    (h : ∀ v' w', OwnKids w' base v' (ks ++ [y]) → w.grownBy w' v.ownBlock → (v'.ownBlock = v.ownBlock ∨ v'.ownBlock = some w.heap.size) → wpList Tryz.prog ops Q rest (a.put o.dst v') w') : wpList Tryz.prog ops Q (o :: rest) a w := by
  obtain ⟨i0, hi0, hz0, hz1, hz2⟩ := info_parts kidinfo
  refine wpList_append_own_at w hgd s x 42 ho base 79 i0 _ 3 32 Tryz.underlying42 hi0 hz0 hz1 hz2 rfl (by decide) v ks.length (kcs ks) hs hown ad 1 c (kcs [y]) hx (by rw [kcs_length]; rfl) hh (kcs_one _) (by unfold maxLen; omega) (by omega) hbase ?_
  intro v' w' h1 h2 _ h4
  refine h v' w' ?_ h2 h4
  unfold OwnKids
  rw [kcs_append, List.length_append]
  exact h1
/-! ### the order -/
def kF (a b : Kd) : Int := both cm (both cN cm) (a.to, a.nm, a.nd) (b.to, b.nm, b.nd)
theorem kF_order : OneOrder kF := by
  have h := cm_order.both (cN_order.both cm_order)
  refine ⟨fun a b => h.small _ _, fun a b => h.turn _ _, fun a b e => ?_, fun a => h.same _, fun a b c => h.on _ _ _⟩
  have := h.like _ _ e
  cases a; cases b
  simp at this
  simp [this]
theorem kF_eq (a b : Kd) : kF a b = if cm a.to b.to ≠ 0 then cm a.to b.to else if cN a.nm b.nm ≠ 0 then cN a.nm b.nm else cm a.nd b.nd := by
  unfold kF both
  split <;> simp [both]
theorem kLt (a b : Kd) : ltOf kF a b = decide (kF a b < 0) := rfl
theorem kF_neg {a b : Kd} : kF a b < 0 ↔ 0 < kF b a := by
  have := kF_order.turn a b
  omega
theorem kF_swo : SWO (ltOf kF) where
  irrefl x := by rw [kLt, kF_order.same]; simp
  trans x y z h1 h2 := by
    rw [kLt, decide_eq_true_eq] at *
    have h3 := kF_order.on x y z (by omega) (by omega)
    rcases Int.lt_or_eq_of_le h3 with h | h
    · exact h
    · have e := kF_order.like x z h
      subst e
      have := kF_order.turn x y
      omega
  ntrans x y z h1 h2 := by
    rw [kLt, decide_eq_false_iff_not] at *
    have := kF_order.up x y z (by omega) (by omega)
    omega
theorem kF_total (x y : Kd) (h1 : ltOf kF x y = false) (h2 : ltOf kF y x = false) : x = y := by
  rw [kLt, decide_eq_false_iff_not] at h1 h2
  have := kF_order.turn x y
  exact kF_order.like x y (by omega)
/-- Kids in their order. -/
def sortK (l : List Kd) : List Kd := l.mergeSort fun x y => !ltOf kF y x
theorem sortK_perm (l : List Kd) : (sortK l).Perm l := List.mergeSort_perm _ _
theorem le_trans' (a b c : Kd) (h1 : (!ltOf kF b a) = true) (h2 : (!ltOf kF c b) = true) : (!ltOf kF c a) = true := by
  simp only [Bool.not_eq_true', kLt, decide_eq_false_iff_not] at *
  have := kF_order.up c b a (by omega) (by omega)
  omega
theorem le_total' (a b : Kd) : ((!ltOf kF b a) || (!ltOf kF a b)) = true := by
  simp only [Bool.or_eq_true, Bool.not_eq_true', kLt, decide_eq_false_iff_not]
  have := kF_order.turn a b
  omega
theorem sortK_sorted (l : List Kd) : (sortK l).Pairwise fun x y => (!ltOf kF y x) = true := List.pairwise_mergeSort le_trans' le_total' l
theorem sorted_eq : ∀ {a b : List Kd}, a.Perm b → a.Pairwise (fun x y => (!ltOf kF y x) = true) → b.Pairwise (fun x y => (!ltOf kF y x) = true) → a = b
  | [], b, hp, _, _ => hp.nil_eq
  | x :: a, [], hp, _, _ => absurd hp.symm.nil_eq (by simp)
  | x :: a, y :: b, hp, ha, hb => by
    obtain ⟨ha1, ha2⟩ := List.pairwise_cons.1 ha
    obtain ⟨hb1, hb2⟩ := List.pairwise_cons.1 hb
    have e : x = y := by
      rcases List.mem_cons.1 (hp.mem_iff.1 (List.mem_cons_self)) with h | h
      · exact h
      · rcases List.mem_cons.1 (hp.mem_iff.2 (List.mem_cons_self)) with h' | h'
        · exact h'.symm
        · exact kF_total x y (by simpa using hb1 x h) (by simpa using ha1 y h')
    subst e
    rw [sorted_eq ((List.perm_cons _).1 hp) ha2 hb2]
theorem sortK_of_perm {a b : List Kd} (h : a.Perm b) : sortK a = sortK b :=
  sorted_eq ((sortK_perm a).trans (h.trans (sortK_perm b).symm)) (sortK_sorted a) (sortK_sorted b)
theorem sortK_length (l : List Kd) : (sortK l).length = l.length := (sortK_perm l).length_eq
end Go.Proofs.YtimfeocaghccdaaGreatDoor
