/-
  Rows of pairs: read, appended to. Conditions: they are together not more than a million.
-/
import Derived.Test.YtcckamajiebgeaaHRow
namespace Go.Proofs.Ytcckamajiebgeaa
open Go.RowKit Go.Maps
set_option linter.unusedVariables false
set_option linter.unusedSimpArgs false
set_option maxRecDepth 100000

/-- A row of pairs of the program's own. -/
def OwnP (w : World) (base : Nat) (v : Value) (l : List (Int × Int)) : Prop := w.ownsRow base 65 2 v l.length (hcs l)
theorem OwnP.nil (w : World) (base : Nat) : OwnP w base (.slice none 0 0) [] := World.ownsRow_nil w base _ _
theorem OwnP.hs {w : World} {base : Nat} {v : Value} {l : List (Int × Int)} (h : OwnP w base v l) : ∃ A c, v = .slice A l.length c ∧ Hs w A c l := by
  rcases h.2 with ⟨rfl, h0⟩ | ⟨g, cap, cur, rfl, hb, hg, hn, hm, hs, ht⟩
  · have : l = [] := List.length_eq_zero_iff.1 h0
    subst this
    exact ⟨none, 0, rfl, fun _ => ⟨rfl, rfl⟩, Nat.le_refl _, Nat.zero_le _, fun h => by simp at h⟩
  · refine ⟨_, cap, rfl, (by intro h; cases h), hn, hm, fun hp => ⟨g, 0, rfl, fun j u hu => ?_⟩⟩
    have := h.cells (g := g) rfl j u hu
    rwa [Addr.add_lit] at this
theorem OwnP.below {w w' : World} {base : Nat} {v : Value} {l : List (Int × Int)} (h : OwnP w base v l) (hb : Below w.heap.size w w') : OwnP w' base v l := row_kept h fun b hb' => hb.block b (row_lt h hb')
theorem pinfo : (Try.prog.info? 65).map (fun i => (i.zero, i.size, i.bytes)) = some (some (.agg #[.int .i64 0, .int .i64 0]), 2, 16) := by kernel_rfl
theorem run_append_p (w : World) (ty : TypeId) (base : Nat) (v : Value) (os : List (Int × Int)) (hown : OwnP w base v os) (A : Option Addr) (c : Nat) (l : List (Int × Int)) (hO : Hs w A c l) (h63 : os.length + l.length ≤ 1000000) (hbase : base ≤ w.heap.size) :
    ∃ A' c' w', (Builtin.append_ #[35, 35] ty #[v, .slice A l.length c]).run Try.prog w = .ok (.slice A' (os ++ l).length c') w' ∧ OwnP w' base (.slice A' (os ++ l).length c') (os ++ l) ∧ w.grownBy w' v.ownBlock ∧ ((Value.slice A' (os ++ l).length c').ownBlock = v.ownBlock ∨ (Value.slice A' (os ++ l).length c').ownBlock = some w.heap.size) := by
  obtain ⟨i0, hi0, hz0, hz1, hz2⟩ := info_parts pinfo
  rcases A with _ | ad
  · obtain ⟨e, rfl⟩ := hO.nil rfl
    subst e
    obtain ⟨A', c', e, hO'⟩ := hown.hs
    subst e
    refine ⟨A', c', w, ?_, by rw [List.append_nil]; exact hown, World.grownBy.refl _ _, .inl (by rw [List.append_nil])⟩
    rw [List.append_nil]
    exact run_append_owned_none (P := Try.prog) w base 35 ty 65 i0 2 Try.underlying35 hi0 _ os.length (hcs os) hown
  · have hnews : ∀ j u, (hcs l)[j]? = some u → w.cell? (ad.add j) = some u := fun j u hu => by
      have hl := hcs_length l
      have hj : j < (hcs l).length := (List.getElem?_eq_some_iff.1 hu).1
      obtain ⟨b, o, e, hat⟩ := hO.lit (by omega)
      cases e
      have := hat j u hu
      rw [Addr.add_lit]
      exact this
    obtain ⟨v', w', hr, h2, h3, _, h5⟩ := run_append_own_at (P := Try.prog) w base 35 ty 65 i0 (.agg #[.int .i64 0, .int .i64 0]) 2 16 Try.underlying35 hi0 hz0 hz1 hz2 rfl (by decide) v os.length (hcs os) hown ad l.length c (hcs l) (hcs_length l) hnews (hcs_one _) (by unfold maxLen; omega) (by omega) hbase
    have hw : OwnP w' base v' (os ++ l) := by
      unfold OwnP
      rw [hcs_append, List.length_append]
      exact h2
    obtain ⟨A', c', e, _⟩ := hw.hs
    subst e
    exact ⟨A', c', w', hr, hw, h3, h5⟩
theorem wpList_append_p (w : World) {ops : Array Oper} {rest : List Oper} {o : Oper} {a : Act} {Q : Exit → Act → World → Prop} (hgd : o.guard = none) (s x : Operand)
    (ho : o.op = .call { callee := .builtin .append, args := #[s, x], argTypes := #[35, 35] })
    (base : Nat) (v : Value) (os : List (Int × Int)) (hs : a.eval s = v) (hown : OwnP w base v os) (A : Option Addr) (c : Nat) (l : List (Int × Int)) (hx : a.eval x = .slice A l.length c) (hO : Hs w A c l) (h63 : os.length + l.length ≤ 1000000) (hbase : base ≤ w.heap.size)
    (h : ∀ A' c' w', OwnP w' base (.slice A' (os ++ l).length c') (os ++ l) → w.grownBy w' v.ownBlock → ((Value.slice A' (os ++ l).length c').ownBlock = v.ownBlock ∨ (Value.slice A' (os ++ l).length c').ownBlock = some w.heap.size) → wpList Try.prog ops Q rest (a.put o.dst (.slice A' (os ++ l).length c')) w') : wpList Try.prog ops Q (o :: rest) a w := by
  obtain ⟨A', c', w', hr, h2, h3, h4⟩ := run_append_p w o.type base v os hown A c l hO h63 hbase
  refine wpList_plain hgd fun _ hK => ?_
  unfold Oper.wp execOp
  simp only [ho, resolve, invoke, builtin, Sem.run_bind, Sem.run_pure, Result.andThen_ok, List.map_toArray, List.map_cons, List.map_nil, hs, hx, hr]
  exact hK _ _ (h A' c' w' h2 h3 h4)
theorem step_append_p (w : World) {ops : Array Oper} {o : Oper} {a : Act} {K : Act → World → Prop} {Q : Exit → Act → World → Prop} {E : Prop} (hgd : o.guard = none) (s x : Operand)
    (ho : o.op = .call { callee := .builtin .append, args := #[s, x], argTypes := #[35, 35] })
    (base : Nat) (v : Value) (os : List (Int × Int)) (hs : a.eval s = v) (hown : OwnP w base v os) (A : Option Addr) (c : Nat) (l : List (Int × Int)) (hx : a.eval x = .slice A l.length c) (hO : Hs w A c l) (h63 : os.length + l.length ≤ 1000000) (hbase : base ≤ w.heap.size)
    (h : ∀ A' c' w', OwnP w' base (.slice A' (os ++ l).length c') (os ++ l) → w.grownBy w' v.ownBlock → ((Value.slice A' (os ++ l).length c').ownBlock = v.ownBlock ∨ (Value.slice A' (os ++ l).length c').ownBlock = some w.heap.size) → K (a.put o.dst (.slice A' (os ++ l).length c')) w') :
    if Region.wanted o (yielded ops a.tmps) = true then Oper.wp Try.prog o a w K Q else E := by
  have hw : Region.wanted o (yielded ops a.tmps) = true := by simp [Region.wanted, hgd]
  rw [if_pos hw]
  obtain ⟨A', c', w', hr, h2, h3, h4⟩ := run_append_p w o.type base v os hown A c l hO h63 hbase
  unfold Oper.wp execOp
  simp only [ho, resolve, invoke, builtin, Sem.run_bind, Sem.run_pure, Result.andThen_ok, List.map_toArray, List.map_cons, List.map_nil, hs, hx, hr]
  exact h A' c' w' h2 h3 h4
/-- A pair in a block. -/
def Pb (w : World) (k : Nat) (s t : Int) : Prop := w.heap[k]? = some (.cells #[.int .i64 s, .int .i64 t] 65 (0, 0))
theorem Pb.new (w : World) (s t : Int) : Pb (w.alloc (.cells #[.int .i64 s, .int .i64 t] 65)) w.heap.size s t := heap_alloc_new w _
theorem Pb.two {w : World} {k : Nat} {s t : Int} (h : Pb w k s t) : w.cell? ⟨k, 0, none⟩ = some (.int .i64 s) ∧ w.cell? ⟨k, 1, none⟩ = some (.int .i64 t) := ⟨cell_of_row _ _ 0 _ _ (0, 0) h, cell_of_row _ _ 1 _ _ (0, 0) h⟩
theorem Pb.hs {w : World} {k : Nat} {s t : Int} (h : Pb w k s t) : Hs w (some ⟨k, 0, none⟩) 1 [(s, t)] := by
  refine ⟨(by intro h; cases h), Nat.le_refl _, by simp [maxLen], fun _ => ⟨k, 0, rfl, fun j u hu => ?_⟩⟩
  rw [Nat.zero_add]
  rcases j with _ | _ | j
  · simp [hcs, hcv] at hu
    subst hu
    exact h.two.1
  · simp [hcs, hcv] at hu
    subst hu
    exact h.two.2
  · simp [hcs, hcv] at hu
/-- A call answers a new row of pairs. -/
def PsRet (l : List (Int × Int)) (w : World) (e : Ending) (w' : World) : Prop := ∃ v, e = .returned v ∧ OwnP w' w.heap.size v l ∧ Below w.heap.size w w'
/-- A call answers a new row of handles. -/
def HsRet (l : List (Int × Int)) (w : World) (e : Ending) (w' : World) : Prop := ∃ v, e = .returned v ∧ OwnH w' w.heap.size v l ∧ Below w.heap.size w w'
end Go.Proofs.Ytcckamajiebgeaa
