/-
  Rows of handles, without an arena: read, appended to, cut at either end; any row of one's own. Conditions: they are together not more than a million.
-/
import Derived.Test.YtcckamajiebgeaaBase
import Derived.Test.YtcckamajiebgeaaMod
import Derived.Laws.OwnMore
import Derived.Lib.SmallJoins
import Derived.Deep.AppendLies
import Derived.OwnWalk
import Derived.Maps.AppendAt
import Derived.ArgAppend
import Derived.LoopTactic
import Derived.Laws.ResultCell
import Derived.Laws.StructEq
import Derived.Deep.QuietTactic
import Derived.BigQuiet
import Derived.Deep.CutRange
import Derived.Deep.RegionLaw
import Derived.Deep.RegionHeld3
import Derived.Deep.DeepCutAuto
namespace Go.Proofs.Ytcckamajiebgeaa
open Go.RowKit Go.Maps
set_option linter.unusedVariables false
set_option linter.unusedSimpArgs false
set_option maxRecDepth 100000

def i64B (n : Int) : Prop := -9223372036854775808 ≤ n ∧ n < 9223372036854775808
theorem row_kept {w w' : World} {base size n : Nat} {e : TypeId} {v : Value} {xs : List Value} (h : w.ownsRow base e size v n xs) (hk : ∀ b, v.ownBlock = some b → w'.heap[b]? = w.heap[b]?) : w'.ownsRow base e size v n xs := by
  refine ⟨h.1, ?_⟩
  rcases h.2 with h0 | ⟨g, cap, cur, rfl, h2, h3, h4⟩
  · exact .inl h0
  · exact .inr ⟨g, cap, cur, rfl, h2, (hk g rfl).trans h3, h4⟩
theorem row_block {w : World} {base size n : Nat} {e : TypeId} {v : Value} {xs : List Value} (h : w.ownsRow base e size v n xs) {b : Nat} (hb : v.ownBlock = some b) : ∃ cur, w.heap[b]? = some (.cells cur e (0, 0)) := by
  rcases h.2 with ⟨rfl, _⟩ | ⟨g, cap, cur, rfl, h2, h3, h4⟩
  · simp [Value.ownBlock] at hb
  · simp [Value.ownBlock] at hb
    subst hb
    exact ⟨cur, h3⟩
theorem row_lt {w : World} {base size n : Nat} {e : TypeId} {v : Value} {xs : List Value} (h : w.ownsRow base e size v n xs) {b : Nat} (hb : v.ownBlock = some b) : b < w.heap.size := by
  obtain ⟨cur, hc⟩ := row_block h hb
  exact (Array.getElem?_eq_some_iff.1 hc).1
theorem row_ne {w : World} {base size n : Nat} {e : TypeId} {v : Value} {xs : List Value} (h : w.ownsRow base e size v n xs) {g : Nat} {cs : Array Value} {t : TypeId} {z : Nat × Nat} (hg : w.heap[g]? = some (.cells cs t z)) (ht : t ≠ e) : v.ownBlock ≠ some g := by
  intro hb
  obtain ⟨cur, hc⟩ := row_block h hb
  rw [hg] at hc
  simp at hc
  exact ht hc.2.1
theorem row_form {w : World} {base size n : Nat} {e : TypeId} {v : Value} {xs : List Value} (h : w.ownsRow base e size v n xs) : ∃ a c, v = .slice a n c := by
  rcases h.2 with ⟨rfl, rfl⟩ | ⟨g, cap, cur, rfl, h2, h3, h4⟩
  · exact ⟨_, _, rfl⟩
  · exact ⟨_, _, rfl⟩
theorem row_le {w : World} {base size n : Nat} {e : TypeId} {a : Option Addr} {m c : Nat} {xs : List Value} (h : w.ownsRow base e size (.slice a m c) n xs) : m ≤ c ∧ c ≤ maxLen := by
  rcases h.2 with ⟨h1, rfl⟩ | ⟨g, cap, cur, h1, h2, h3, h4, h5, h6⟩
  · simp at h1
    obtain ⟨rfl, rfl, rfl⟩ := h1
    simp [maxLen]
  · simp at h1
    obtain ⟨rfl, rfl, rfl⟩ := h1
    exact ⟨h4, h5⟩
/-- A handle in a block. -/
def Hb (w : World) (k : Nat) (s t : Int) : Prop := w.heap[k]? = some (.cells #[.int .i64 s, .int .i64 t] 28 (0, 0))
theorem Hb.new (w : World) (s t : Int) : Hb (w.alloc (.cells #[.int .i64 s, .int .i64 t] 28)) w.heap.size s t := heap_alloc_new w _
theorem Hb.below {w w' : World} {k : Nat} {s t : Int} (h : Hb w k s t) (hk : Below w.heap.size w w') : Hb w' k s t := (hk.block k (Array.getElem?_eq_some_iff.1 h).1).trans h
theorem Hb.two {w : World} {k : Nat} {s t : Int} (h : Hb w k s t) : w.cell? ⟨k, 0, none⟩ = some (.int .i64 s) ∧ w.cell? ⟨k, 1, none⟩ = some (.int .i64 t) := ⟨cell_of_row _ _ 0 _ _ (0, 0) h, cell_of_row _ _ 1 _ _ (0, 0) h⟩
/-- Handles as cells. -/
def hcv (h : Int × Int) : List Value := [.int .i64 h.1, .int .i64 h.2]
def hcs (l : List (Int × Int)) : List Value := (l.map hcv).flatten
theorem hcs_length : ∀ (l : List (Int × Int)), (hcs l).length = l.length * 2
  | [] => rfl
  | o :: l => by
    have := hcs_length l
    simp only [hcs, List.map_cons, List.flatten_cons, List.length_append, List.length_cons] at this ⊢
    rw [this]
    simp [hcv]
    omega
theorem hcs_append (a b : List (Int × Int)) : hcs (a ++ b) = hcs a ++ hcs b := by simp [hcs]
theorem hcs_one (l : List (Int × Int)) : ∀ u ∈ hcs l, u.oneCell' = true := by
  intro u hu
  simp only [hcs, List.mem_flatten, List.mem_map] at hu
  obtain ⟨x, ⟨o, _, rfl⟩, hu⟩ := hu
  simp only [hcv, List.mem_cons, List.not_mem_nil, or_false] at hu
  rcases hu with rfl | rfl <;> rfl
theorem hcs_at : ∀ (l : List (Int × Int)) (j i : Nat) (h : j < l.length), i < 2 → (hcs l)[j * 2 + i]? = (hcv l[j])[i]?
  | [], j, i, h, _ => by simp at h
  | o :: l, 0, i, h, hi => by
    simp only [hcs, List.map_cons, List.flatten_cons, Nat.zero_mul, Nat.zero_add, List.getElem_cons_zero]
    rw [List.getElem?_append_left (by simpa [hcv] using hi)]
  | o :: l, j + 1, i, h, hi => by
    have := hcs_at l j i (by simpa using h) hi
    simp only [hcs, List.map_cons, List.flatten_cons, List.getElem_cons_succ] at this ⊢
    rw [← this, List.getElem?_append_right (by simp [hcv]; omega)]
    congr 1
    simp [hcv]
    omega
/-- Handles that can be read, from a place on. -/
def HsAt (w : World) (b o : Nat) (l : List (Int × Int)) : Prop := ∀ j u, (hcs l)[j]? = some u → w.cell? ⟨b, o + j, none⟩ = some u
/-- A slice of handles that can be read. -/
structure Hs (w : World) (A : Option Addr) (c : Nat) (l : List (Int × Int)) : Prop where
  nil : A = none → l = [] ∧ c = 0
  le : l.length ≤ c
  most : c ≤ maxLen
  lit : 0 < l.length → ∃ b o, A = some ⟨b, o, none⟩ ∧ HsAt w b o l
theorem HsAt.two {w : World} {b o : Nat} {l : List (Int × Int)} (h : HsAt w b o l) (j : Nat) (hj : j < l.length) : w.cell? ⟨b, o + j * 2, none⟩ = some (.int .i64 l[j].1) ∧ w.cell? ⟨b, o + j * 2 + 1, none⟩ = some (.int .i64 l[j].2) :=
  ⟨h (j * 2 + 0) _ (by rw [hcs_at l j 0 hj (by omega)]; rfl), h (j * 2 + 1) _ (by rw [hcs_at l j 1 hj (by omega)]; rfl)⟩
theorem HsAt.below {w w' : World} {b o : Nat} {l : List (Int × Int)} (h : HsAt w b o l) (hb : Below w.heap.size w w') : HsAt w' b o l := fun j u hu => cell_b hb (h j u hu)
theorem Hs.below {w w' : World} {A : Option Addr} {c : Nat} {l : List (Int × Int)} (h : Hs w A c l) (hb : Below w.heap.size w w') : Hs w' A c l :=
  ⟨h.nil, h.le, h.most, fun hp => by obtain ⟨b, o, e, h⟩ := h.lit hp; exact ⟨b, o, e, h.below hb⟩⟩
/-- A row of handles of the program's own. -/
def OwnH (w : World) (base : Nat) (v : Value) (l : List (Int × Int)) : Prop := w.ownsRow base 28 2 v l.length (hcs l)
theorem OwnH.nil (w : World) (base : Nat) : OwnH w base (.slice none 0 0) [] := World.ownsRow_nil w base _ _
theorem OwnH.hs {w : World} {base : Nat} {v : Value} {l : List (Int × Int)} (h : OwnH w base v l) : ∃ A c, v = .slice A l.length c ∧ Hs w A c l := by
  rcases h.2 with ⟨rfl, h0⟩ | ⟨g, cap, cur, rfl, hb, hg, hn, hm, hs, ht⟩
  · have : l = [] := List.length_eq_zero_iff.1 h0
    subst this
    exact ⟨none, 0, rfl, fun _ => ⟨rfl, rfl⟩, Nat.le_refl _, Nat.zero_le _, fun h => by simp at h⟩
  · refine ⟨_, cap, rfl, (by intro h; cases h), hn, hm, fun hp => ⟨g, 0, rfl, fun j u hu => ?_⟩⟩
    have := h.cells (g := g) rfl j u hu
    rwa [Addr.add_lit] at this
theorem OwnH.below {w w' : World} {base : Nat} {v : Value} {l : List (Int × Int)} (h : OwnH w base v l) (hb : Below w.heap.size w w') : OwnH w' base v l := row_kept h fun b hb' => hb.block b (row_lt h hb')
theorem hinfo : (Try.prog.info? 28).map (fun i => (i.zero, i.size, i.bytes)) = some (some (.agg #[.int .i64 0, .int .i64 0]), 2, 16) := by kernel_rfl
theorem run_append_h (w : World) (ty : TypeId) (base : Nat) (v : Value) (os : List (Int × Int)) (hown : OwnH w base v os) (A : Option Addr) (c : Nat) (l : List (Int × Int)) (hO : Hs w A c l) (h63 : os.length + l.length ≤ 1000000) (hbase : base ≤ w.heap.size) :
    ∃ A' c' w', (Builtin.append_ #[29, 29] ty #[v, .slice A l.length c]).run Try.prog w = .ok (.slice A' (os ++ l).length c') w' ∧ OwnH w' base (.slice A' (os ++ l).length c') (os ++ l) ∧ w.grownBy w' v.ownBlock ∧ ((Value.slice A' (os ++ l).length c').ownBlock = v.ownBlock ∨ (Value.slice A' (os ++ l).length c').ownBlock = some w.heap.size) := by
  obtain ⟨i0, hi0, hz0, hz1, hz2⟩ := info_parts hinfo
  rcases A with _ | ad
  · obtain ⟨e, rfl⟩ := hO.nil rfl
    subst e
    obtain ⟨A', c', e, hO'⟩ := hown.hs
    subst e
    refine ⟨A', c', w, ?_, by rw [List.append_nil]; exact hown, World.grownBy.refl _ _, .inl (by rw [List.append_nil])⟩
    rw [List.append_nil]
    exact run_append_owned_none (P := Try.prog) w base 29 ty 28 i0 2 Try.underlying29 hi0 _ os.length (hcs os) hown
  · have hnews : ∀ j u, (hcs l)[j]? = some u → w.cell? (ad.add j) = some u := fun j u hu => by
      have hl := hcs_length l
      have hj : j < (hcs l).length := (List.getElem?_eq_some_iff.1 hu).1
      obtain ⟨b, o, e, hat⟩ := hO.lit (by omega)
      cases e
      have := hat j u hu
      rw [Addr.add_lit]
      exact this
    obtain ⟨v', w', hr, h2, h3, _, h5⟩ := run_append_own_at (P := Try.prog) w base 29 ty 28 i0 (.agg #[.int .i64 0, .int .i64 0]) 2 16 Try.underlying29 hi0 hz0 hz1 hz2 rfl (by decide) v os.length (hcs os) hown ad l.length c (hcs l) (hcs_length l) hnews (hcs_one _) (by unfold maxLen; omega) (by omega) hbase
    have hw : OwnH w' base v' (os ++ l) := by
      unfold OwnH
      rw [hcs_append, List.length_append]
      exact h2
    obtain ⟨A', c', e, _⟩ := hw.hs
    subst e
    exact ⟨A', c', w', hr, hw, h3, h5⟩
theorem wpList_append_h (w : World) {ops : Array Oper} {rest : List Oper} {o : Oper} {a : Act} {Q : Exit → Act → World → Prop} (hgd : o.guard = none) (s x : Operand)
    (ho : o.op = .call { callee := .builtin .append, args := #[s, x], argTypes := #[29, 29] })
    (base : Nat) (v : Value) (os : List (Int × Int)) (hs : a.eval s = v) (hown : OwnH w base v os) (A : Option Addr) (c : Nat) (l : List (Int × Int)) (hx : a.eval x = .slice A l.length c) (hO : Hs w A c l) (h63 : os.length + l.length ≤ 1000000) (hbase : base ≤ w.heap.size)
    (h : ∀ A' c' w', OwnH w' base (.slice A' (os ++ l).length c') (os ++ l) → w.grownBy w' v.ownBlock → ((Value.slice A' (os ++ l).length c').ownBlock = v.ownBlock ∨ (Value.slice A' (os ++ l).length c').ownBlock = some w.heap.size) → wpList Try.prog ops Q rest (a.put o.dst (.slice A' (os ++ l).length c')) w') : wpList Try.prog ops Q (o :: rest) a w := by
  obtain ⟨A', c', w', hr, h2, h3, h4⟩ := run_append_h w o.type base v os hown A c l hO h63 hbase
  refine wpList_plain hgd fun _ hK => ?_
  unfold Oper.wp execOp
  simp only [ho, resolve, invoke, builtin, Sem.run_bind, Sem.run_pure, Result.andThen_ok, List.map_toArray, List.map_cons, List.map_nil, hs, hx, hr]
  exact hK _ _ (h A' c' w' h2 h3 h4)
theorem step_append_h (w : World) {ops : Array Oper} {o : Oper} {a : Act} {K : Act → World → Prop} {Q : Exit → Act → World → Prop} {E : Prop} (hgd : o.guard = none) (s x : Operand)
    (ho : o.op = .call { callee := .builtin .append, args := #[s, x], argTypes := #[29, 29] })
    (base : Nat) (v : Value) (os : List (Int × Int)) (hs : a.eval s = v) (hown : OwnH w base v os) (A : Option Addr) (c : Nat) (l : List (Int × Int)) (hx : a.eval x = .slice A l.length c) (hO : Hs w A c l) (h63 : os.length + l.length ≤ 1000000) (hbase : base ≤ w.heap.size)
    (h : ∀ A' c' w', OwnH w' base (.slice A' (os ++ l).length c') (os ++ l) → w.grownBy w' v.ownBlock → ((Value.slice A' (os ++ l).length c').ownBlock = v.ownBlock ∨ (Value.slice A' (os ++ l).length c').ownBlock = some w.heap.size) → K (a.put o.dst (.slice A' (os ++ l).length c')) w') :
    if Region.wanted o (yielded ops a.tmps) = true then Oper.wp Try.prog o a w K Q else E := by
  have hw : Region.wanted o (yielded ops a.tmps) = true := by simp [Region.wanted, hgd]
  rw [if_pos hw]
  obtain ⟨A', c', w', hr, h2, h3, h4⟩ := run_append_h w o.type base v os hown A c l hO h63 hbase
  unfold Oper.wp execOp
  simp only [ho, resolve, invoke, builtin, Sem.run_bind, Sem.run_pure, Result.andThen_ok, List.map_toArray, List.map_cons, List.map_nil, hs, hx, hr]
  exact h A' c' w' h2 h3 h4
/-- One handle in a block of its own, as a slice. -/
theorem Hb.hs {w : World} {k : Nat} {s t : Int} (h : Hb w k s t) : Hs w (some ⟨k, 0, none⟩) 1 [(s, t)] := by
  refine ⟨(by intro h; cases h), Nat.le_refl _, by simp [maxLen], fun _ => ⟨k, 0, rfl, fun j u hu => ?_⟩⟩
  rw [Nat.zero_add]
  rcases j with _ | _ | j
  · simp [hcs, hcv] at hu
    subst hu
    exact h.two.1
  · simp [hcs, hcv] at hu
    subst hu
    exact h.two.2
  · simp [hcs, hcv] at hu
theorem hsize (w : World) : (Go.sizeOf 28).run Try.prog w = .ok 2 w := by kernel_rfl
theorem hunder : Try.prog.underlying 29 = some (.slice (Try.prog.elem 29)) := by simp [Program.elem, Try.underlying29]
theorem helem : Try.prog.elem 29 = 28 := by simp [Program.elem, Try.underlying29]
theorem run_hs_head (A : Option Addr) (n c q : Nat) (hq : q ≤ c) (w : World) :
    (Instr.slice 29 (.slice A n c) none (some (.int .i64 (q : Int))) none).run Try.prog w = .ok (.slice A q c) w := by
  rw [run_slice_h w _ _ _ _ hunder .i64 _ (by omega) (by omega), helem, hsize]
  rcases A with _ | ad
  · simp [Result.andThen, sliced]
  · simp [Result.andThen, sliced, Addr.add]
theorem Hs.head {w : World} {A : Option Addr} {c : Nat} {os : List (Int × Int)} (h : Hs w A c os) (q : Nat) : Hs w A c (os.take q) := by
  have hl : (os.take q).length ≤ os.length := by rw [List.length_take]; omega
  refine ⟨fun e => by rw [(h.nil e).1]; exact ⟨by simp, (h.nil e).2⟩, Nat.le_trans hl h.le, h.most, fun hp => ?_⟩
  obtain ⟨b, o, e, hat⟩ := h.lit (by omega)
  refine ⟨b, o, e, fun j u hu => hat j u ?_⟩
  have ht : hcs os = hcs (os.take q) ++ hcs (os.drop q) := by rw [← hcs_append, List.take_append_drop]
  rw [ht, List.getElem?_append_left (List.getElem?_eq_some_iff.1 hu).1]
  exact hu
theorem hcs_drop (os : List (Int × Int)) (q : Nat) (hq : q ≤ os.length) (j : Nat) : (hcs (os.drop q))[j]? = (hcs os)[q * 2 + j]? := by
  have ht : hcs os = hcs (os.take q) ++ hcs (os.drop q) := by rw [← hcs_append, List.take_append_drop]
  have hl : (hcs (os.take q)).length = q * 2 := by rw [hcs_length, List.length_take, Nat.min_eq_left hq]
  rw [ht, List.getElem?_append_right (by omega), hl]
  congr 1
  omega
/-- The end of a row of handles. -/
theorem hs_tail {w : World} {A : Option Addr} {c : Nat} {os : List (Int × Int)} (h : Hs w A c os) (q : Nat) (hq : q ≤ os.length) :
    ∃ A', (∀ W, (Instr.slice 29 (.slice A os.length c) (some (.int .i64 (q : Int))) none none).run Try.prog W = .ok (.slice A' (os.drop q).length (c - q)) W) ∧ Hs w A' (c - q) (os.drop q) := by
  have hle := h.le
  have hmo := h.most
  have hrun : ∀ W, (Instr.slice 29 (.slice A os.length c) (some (.int .i64 (q : Int))) none none).run Try.prog W = .ok (.slice (if c = q then A else A.map (·.add (q * 2))) (os.length - q) (c - q)) W := fun W => by
    rw [run_slice_l W _ _ _ _ hunder .i64 _ (by omega) (by omega), helem, hsize]
    simp [Result.andThen, sliced]
  refine ⟨_, fun W => by rw [hrun W, List.length_drop], ⟨?_, by rw [List.length_drop]; omega, by omega, fun hp => ?_⟩⟩
  · intro e
    split at e
    · rename_i hc
      exact ⟨List.drop_eq_nil_of_le (by omega), by omega⟩
    · rw [Option.map_eq_none_iff] at e
      rw [(h.nil e).1, (h.nil e).2]
      simp
  · rw [List.length_drop] at hp
    obtain ⟨b, o, rfl, hat⟩ := h.lit (by omega)
    refine ⟨b, o + q * 2, ?_, fun j u hu => ?_⟩
    · rw [if_neg (by omega)]
      by_cases h0 : q = 0
      · subst h0
        simp [Addr.add]
      · have : q * 2 ≠ 0 := by omega
        simp [Addr.add, this, h0]
    · rw [hcs_drop os q hq] at hu
      have := hat _ _ hu
      rwa [← Nat.add_assoc] at this
end Go.Proofs.Ytcckamajiebgeaa
