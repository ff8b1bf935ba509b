/-
  An operation that is appended to a row of operations of the program's own. No conditions but that there are not more than a million.
-/
import Derived.Test.YtimfeocaghccdaaGreatDoorWOps
import Derived.Laws.AppendOwn
import Derived.OwnWalk
namespace Go.Proofs.YtimfeocaghccdaaGreatDoor
set_option maxRecDepth 100000
open Go.RowKit
set_option linter.unusedVariables false
set_option maxRecDepth 100000

theorem opinfo : (Tryz.prog.info? 50).map (fun i => (i.zero, i.size, i.bytes)) = some (some (opv 0 0 0 0 []), 5, 48) := by kernel_rfl
theorem cells_new5 (w : World) (x : O5) : ∀ j u, (ocs [x])[j]? = some u → (w.alloc (.cells #[.int .i64 x.n, .int .i64 x.r, .int .i64 x.d, .int .i64 x.t, .string (bs x.l)] 50)).cell? ((⟨w.heap.size, 0, none⟩ : Addr).add j) = some u := by
  intro j u hu
  rw [Addr.add_lit, Nat.zero_add, cell_of_row _ w.heap.size j _ _ (0, 0) (heap_alloc_new w _)]
  have e : ocs [x] = (#[.int .i64 x.n, .int .i64 x.r, .int .i64 x.d, .int .i64 x.t, .string (bs x.l)] : Array Value).toList := by simp [ocs, oc]
  rw [e] at hu
  simpa using hu
/-- An operation that is appended to a row of the program's own. -/
theorem wpList_append_op (w : World) {ops : Array Oper} {rest : List Oper} {o : Oper} {a : Act} {Q : Exit → Act → World → Prop} (hgd : o.guard = none) (s x : Operand)
    (ho : o.op = .call { callee := .builtin .append, args := #[s, x], argTypes := #[27, 27] })
    (base : Nat) (v : Value) (os : List O5) (hs : a.eval s = v) (hown : OwnOps w base v os)
    (ad : Addr) (c : Nat) (y : O5) (hx : a.eval x = .slice (some ad) 1 c) (hh : ∀ j u, (ocs [y])[j]? = some u → w.cell? (ad.add j) = some u)
    (h63 : os.length ≤ 1000000) (hbase : base ≤ w.heap.size)
    (h : ∀ v' w', OwnOps w' base v' (os ++ [y]) → w.grownBy w' v.ownBlock → wpList Tryz.prog ops Q rest (a.put o.dst v') w') : wpList Tryz.prog ops Q (o :: rest) a w := by
  obtain ⟨i0, hi0, hz0, hz1, hz2⟩ := info_parts opinfo
  refine wpList_append_own w hgd s x 27 ho base 50 i0 (opv 0 0 0 0 []) 5 48 Tryz.underlying27 hi0 hz0 hz1 hz2 rfl (by decide) v os.length (ocs os) hs hown ad 1 c (ocs [y]) hx (by rw [ocs_length]; rfl) hh (ocs_one _) (by unfold maxLen; omega) (by omega) hbase ?_
  intro v' w' h1 h2 _
  refine h v' w' ?_ h2
  unfold OwnOps
  rw [ocs_append, List.length_append]
  exact h1
theorem OwnOps.grown {w w' : World} {base : Nat} {v : Value} {os : List O5} {g : Nat} (h : OwnOps w base v os) (hg : w.grownBy w' (some g)) (hb : g < base) : OwnOps w' base v os := by
  refine ⟨h.1, ?_⟩
  rcases h.2 with h0 | ⟨g', cap, cur, h1, h2, h3, h4⟩
  · exact .inl h0
  · exact .inr ⟨g', cap, cur, h1, h2, (hg.block g' (Array.getElem?_eq_some_iff.1 h3).1 (by intro e; injection e with e; omega)).trans h3, h4⟩
theorem OwnOps.row {w : World} {base : Nat} {v : Value} {os : List O5} (h : OwnOps w base v os) : ∀ k, v.ownBlock = some k → base ≤ k := by
  intro k hk
  rcases h.2 with ⟨h0, _⟩ | ⟨g, cap, cur, h0, hb, _⟩
  · rw [h0] at hk; simp [Value.ownBlock] at hk
  · rw [h0] at hk; simp [Value.ownBlock] at hk; omega
end Go.Proofs.YtimfeocaghccdaaGreatDoor
