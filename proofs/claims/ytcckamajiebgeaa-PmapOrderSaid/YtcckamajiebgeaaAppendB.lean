/-
  Bytes that were handed in are appended to a row of the program's own: nil, or not. Conditions: both can be read, and are together no longer than a million.
-/
import Derived.Test.YtcckamajiebgeaaBase
import Derived.Laws.AppendOwn
import Derived.Laws.OwnMore
import Derived.OwnWalk
namespace Go.Proofs.Ytcckamajiebgeaa
open Go.RowKit
set_option linter.unusedVariables false

theorem wpList_append_b (w : World) {ops : Array Oper} {rest : List Oper} {o : Oper} {a : Act} {Q : Exit → Act → World → Prop} (hgd : o.guard = none) (s x : Operand)
    (ho : o.op = .call { callee := .builtin .append, args := #[s, x], argTypes := #[48, 48] })
    (base : Nat) (v : Value) (n : Nat) (L : List UInt8) (hs : a.eval s = v) (hown : w.ownsRow base 5 1 v n (bc L))
    (A : Option Addr) (m c : Nat) (l : List UInt8) (hx : a.eval x = .slice A m c) (hl : l.length = m) (hA : A = none → c = 0) (hh : Hnd w (.slice A m c) l)
    (h63 : n + m ≤ 1000000) (hbase : base ≤ w.heap.size)
    (h : ∀ v' w', w'.ownsRow base 5 1 v' (n + m) (bc (L ++ l)) → w.grownBy w' v.ownBlock → (v' = .slice none 0 0 → v = .slice none 0 0) → wpList Try.prog ops Q rest (a.put o.dst v') w') : wpList Try.prog ops Q (o :: rest) a w := by
  obtain ⟨i0, hi0, hz0, hz1, hz2⟩ := info_parts u8info
  have hm : maxLen = 9223372036854775807 := rfl
  subst hl
  rcases A with _ | ad
  · obtain ⟨A', c', he, hA', _⟩ := hh
    have e := hA rfl
    injection he with e1 e2 e3
    have el := hA' e1.symm
    subst e el
    refine wpList_plain hgd fun _ hK => ?_
    unfold Oper.wp execOp
    simp only [ho, resolve, invoke, builtin, Sem.run_bind, Sem.run_pure, Result.andThen_ok, List.map_toArray, List.map_cons, List.map_nil, hs, hx, List.length_nil,
      run_append_owned_none (P := Try.prog) w base 48 o.type 5 i0 1 Try.underlying48 hi0 v n (bc L) hown]
    exact hK _ _ (h v w (by rw [List.append_nil]; exact hown) (World.grownBy.refl _ _) id)
  · obtain ⟨A', c', he, _, hc⟩ := hh
    injection he with e1 e2 e3
    refine wpList_append_own w hgd s x 48 ho base 5 i0 (.int .u8 0) 1 1 Try.underlying48 hi0 hz0 hz1 hz2 rfl (by decide) v n (bc L) hs hown ad l.length c (bc l) hx (by simp [bc_length]) (hc ad e1.symm) (bc_one _) (by omega) (by omega) hbase ?_
    intro v' w' h1 h2 h3
    exact h v' w' (by rw [bc_append]; exact h1) h2 (fun e => (h3.1 e).1)
theorem ByteArg.nilcap {k : IntKind} {w : World} {a : Option Addr} {len cap : Nat} {zs : List Int} (h : IsRow k w a len cap zs) : a = none → cap = 0 := by
  intro ha
  rcases h with ⟨_, _, h, _⟩ | ⟨x, h, _⟩
  · exact h
  · rw [ha] at h; cases h
/-- A row that holds nothing yet. -/
theorem own_new0 (w : World) (B : Nat) (hB : B ≤ w.heap.size) : (w.alloc (.cells #[] 5)).ownsRow B 5 1 (.slice (some ⟨w.heap.size, 0, none⟩) 0 0) 0 (bc []) :=
  ⟨rfl, .inr ⟨w.heap.size, 0, _, rfl, hB, heap_alloc_new w _, Nat.le_refl _, by decide, rfl, rfl⟩⟩
/-- A row that is not nil has a block. -/
theorem own_form {w : World} {base : Nat} {v : Value} {n : Nat} {xs : List Value} (h : w.ownsRow base 5 1 v n xs) (hv : v ≠ .slice none 0 0) :
    ∃ g cap, v = .slice (some ⟨g, 0, none⟩) n cap ∧ base ≤ g ∧ g < w.heap.size := by
  rcases h.2 with ⟨h0, _⟩ | ⟨g, cap, cur, h1, hb, hg, _⟩
  · exact absurd h0 hv
  · exact ⟨g, cap, h1, hb, (Array.getElem?_eq_some_iff.1 hg).1⟩
/-- A slice's head, nil or not. -/
theorem run_head_any (A : Option Addr) (n c q : Nat) (hq : q ≤ c) (w : World) :
    (Instr.slice 48 (.slice A n c) none (some (.int .i64 (q : Int))) none).run Try.prog w = .ok (.slice A q c) w := by
  have hz : (Go.sizeOf 5).run Try.prog w = .ok 1 w := by
    obtain ⟨i0, hi0, _, hz1, _⟩ := info_parts u8info
    simp [Go.sizeOf, typeInfo, hi0, hz1]
  have ht' : Try.prog.underlying 48 = some (.slice (Try.prog.elem 48)) := by simp [Program.elem, Try.underlying48]
  have he : Try.prog.elem 48 = 5 := by simp [Program.elem, Try.underlying48]
  rw [run_slice_h w _ _ _ _ ht' .i64 _ (by omega) (by omega), he, hz]
  rcases A with _ | ad
  · simp [Result.andThen, sliced]
  · simp [Result.andThen, sliced, Addr.add]
theorem Hnd.head {w : World} {A : Option Addr} {n c : Nat} {l : List UInt8} (h : Hnd w (.slice A n c) l) (q : Nat) (hq : q ≤ n) : Hnd w (.slice A q c) (l.take q) := by
  obtain ⟨A', c', he, h1, h2⟩ := h
  injection he with e1 e2 e3
  subst e1 e2 e3
  refine ⟨A, c, by rw [List.length_take, Nat.min_eq_left hq], fun h => by rw [h1 h]; simp, fun ad had j u hu => ?_⟩
  refine h2 ad had j u ?_
  unfold bc at hu ⊢
  rw [List.map_take, List.getElem?_take] at hu
  split at hu
  · exact hu
  · cases hu
/-- A byte is stored in a row of the program's own. -/
theorem own_stored {w : World} {base g n cap : Nat} {l : List UInt8} (h : w.ownsRow base 5 1 (.slice (some ⟨g, 0, none⟩) n cap) n (bc l)) (j : Nat) (b : UInt8) (x : Int) (hx : x = (b.toNat : Int)) :
    (w.setCell ⟨g, j, none⟩ (.int .u8 x)).ownsRow base 5 1 (.slice (some ⟨g, 0, none⟩) n cap) n (bc (l.set j b)) ∧ w.grownBy (w.setCell ⟨g, j, none⟩ (.int .u8 x)) (some g) := by
  have := h.stored j (.int .u8 x)
  rw [show (bc l).set j (.int .u8 x) = bc (l.set j b) by unfold bc; rw [List.map_set, hx]] at this
  exact this
end Go.Proofs.Ytcckamajiebgeaa
