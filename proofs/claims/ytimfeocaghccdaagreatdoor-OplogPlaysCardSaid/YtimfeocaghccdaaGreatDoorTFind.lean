/-
  Contracts of the tree's least and Find; '==' of spots and of kids. Conditions: the tree is one, in memory; the library's tables are as the program's text lays them.
-/
import Derived.Test.YtimfeocaghccdaaGreatDoorTList
import Derived.Test.YtimfeocaghccdaaGreatDoorStrC
import Derived.Laws.StructEq
namespace Go.Proofs.YtimfeocaghccdaaGreatDoor
set_option maxRecDepth 100000
open Go.RowKit Go.Maps
set_option linter.unusedVariables false
set_option linter.unusedSimpArgs false
set_option maxRecDepth 100000

theorem spot_eql (x y : Bool) (a b : Int) (l m : List UInt8) (w : World) : (binOp .eql 74 (.agg #[.bool x, .int .i64 a, .string (bs l)]) (.agg #[.bool y, .int .i64 b, .string (bs m)])).run Tryz.prog w = .ok (.bool (decide (x = y ∧ a = b ∧ l = m))) w := by
  have u3 := Tryz.underlying3
  have a3 := Tryz.isAgg3
  have z3 := Tryz.sizeOf3
  have u9 := Tryz.underlying9
  have a9 := Tryz.isAgg9
  have z9 := Tryz.sizeOf9
  have u4 := Tryz.underlying4
  have a4 := Tryz.isAgg4
  have z4 := Tryz.sizeOf4
  rw [run_eql_struct, show (10000 : Nat) = 9997 + 1 + 1 + 1 from rfl, run_equalIn_agg w (9997 + 1 + 1) 74 _ _ (by kernel_rfl) (by kernel_rfl)]
  simp only [Program.fieldsOf, Tryz.underlying74]
  go_simp
  rw [bs_list, bs_list]
  cases x <;> cases y <;> by_cases h2 : a = b <;> by_cases h3 : l = m <;> simp [h2, h3]
theorem spot_neq (x y : Bool) (a b : Int) (l m : List UInt8) (w : World) : (binOp .neq 74 (.agg #[.bool x, .int .i64 a, .string (bs l)]) (.agg #[.bool y, .int .i64 b, .string (bs m)])).run Tryz.prog w = .ok (.bool (!decide (x = y ∧ a = b ∧ l = m))) w := by
  have u3 := Tryz.underlying3
  have a3 := Tryz.isAgg3
  have z3 := Tryz.sizeOf3
  have u9 := Tryz.underlying9
  have a9 := Tryz.isAgg9
  have z9 := Tryz.sizeOf9
  have u4 := Tryz.underlying4
  have a4 := Tryz.isAgg4
  have z4 := Tryz.sizeOf4
  rw [run_neq_struct, show (10000 : Nat) = 9997 + 1 + 1 + 1 from rfl, run_equalIn_agg w (9997 + 1 + 1) 74 _ _ (by kernel_rfl) (by kernel_rfl)]
  simp only [Program.fieldsOf, Tryz.underlying74]
  go_simp
  rw [bs_list, bs_list]
  cases x <;> cases y <;> by_cases h2 : a = b <;> by_cases h3 : l = m <;> simp [h2, h3]
theorem kid_eql (a b : Kd) (w : World) : (binOp .eql 79 (.agg #[.int .i64 a.to, .string (bs a.nm), .int .i64 a.nd]) (.agg #[.int .i64 b.to, .string (bs b.nm), .int .i64 b.nd])).run Tryz.prog w = .ok (.bool (decide (a = b))) w := by
  have u3 := Tryz.underlying3
  have a3 := Tryz.isAgg3
  have z3 := Tryz.sizeOf3
  have u9 := Tryz.underlying9
  have a9 := Tryz.isAgg9
  have z9 := Tryz.sizeOf9
  have e : decide (a = b) = decide (a.to = b.to ∧ a.nm = b.nm ∧ a.nd = b.nd) := by
    cases a; cases b
    simp
  rw [e, run_eql_struct, show (10000 : Nat) = 9997 + 1 + 1 + 1 from rfl, run_equalIn_agg w (9997 + 1 + 1) 79 _ _ (by kernel_rfl) (by kernel_rfl)]
  simp only [Program.fieldsOf, Tryz.underlying79]
  go_simp
  rw [bs_list, bs_list]
  by_cases h1 : a.to = b.to <;> by_cases h2 : a.nm = b.nm <;> by_cases h3 : a.nd = b.nd <;> simp [h1, h2, h3]
theorem kid_neq (a b : Kd) (w : World) : (binOp .neq 79 (.agg #[.int .i64 a.to, .string (bs a.nm), .int .i64 a.nd]) (.agg #[.int .i64 b.to, .string (bs b.nm), .int .i64 b.nd])).run Tryz.prog w = .ok (.bool (!decide (a = b))) w := by
  have u3 := Tryz.underlying3
  have a3 := Tryz.isAgg3
  have z3 := Tryz.sizeOf3
  have u9 := Tryz.underlying9
  have a9 := Tryz.isAgg9
  have z9 := Tryz.sizeOf9
  have e : decide (a = b) = decide (a.to = b.to ∧ a.nm = b.nm ∧ a.nd = b.nd) := by
    cases a; cases b
    simp
  rw [e, run_neq_struct, show (10000 : Nat) = 9997 + 1 + 1 + 1 from rfl, run_equalIn_agg w (9997 + 1 + 1) 79 _ _ (by kernel_rfl) (by kernel_rfl)]
  simp only [Program.fieldsOf, Tryz.underlying79]
  go_simp
  rw [bs_list, bs_list]
  by_cases h1 : a.to = b.to <;> by_cases h2 : a.nm = b.nm <;> by_cases h3 : a.nd = b.nd <;> simp [h1, h2, h3]
/-! ### the least of a name -/
def LeastOf (L : List Kd) (a : Int) (s : List UInt8) : Option Int → Prop
  | none => ∀ k ∈ L, ¬ (k.to = a ∧ k.nm = s)
  | some n => (∃ k ∈ L, k.to = a ∧ k.nm = s ∧ k.nd = n) ∧ ∀ k ∈ L, k.to = a → k.nm = s → n ≤ k.nd
theorem LeastOf.one {L : List Kd} {a : Int} {s : List UInt8} : ∀ {r r' : Option Int}, LeastOf L a s r → LeastOf L a s r' → r = r'
  | none, none, _, _ => rfl
  | none, some n, h, h' => by
    obtain ⟨⟨k, hk, h1, h2, _⟩, _⟩ := h'
    exact absurd ⟨h1, h2⟩ (h k hk)
  | some n, none, h', h => by
    obtain ⟨⟨k, hk, h1, h2, _⟩, _⟩ := h'
    exact absurd ⟨h1, h2⟩ (h k hk)
  | some n, some m, ⟨⟨k, hk, h1, h2, h3⟩, h4⟩, ⟨⟨k', hk', h1', h2', h3'⟩, h4'⟩ => by
    have := h4 k' hk' h1' h2'
    have := h4' k hk h1 h2
    congr 1
    omega
theorem LeastOf.perm {L M : List Kd} {a : Int} {s : List UInt8} (p : L.Perm M) : ∀ {r : Option Int}, LeastOf L a s r → LeastOf M a s r
  | none, h => fun k hk => h k (p.mem_iff.2 hk)
  | some n, ⟨⟨k, hk, h⟩, h'⟩ => ⟨⟨k, p.mem_iff.1 hk, h⟩, fun k hk => h' k (p.mem_iff.2 hk)⟩
theorem LeastOf.skip {L : List Kd} {a : Int} {s : List UInt8} {k : Kd} (hk : ¬ (k.to = a ∧ k.nm = s)) : ∀ {r : Option Int}, LeastOf L a s r → LeastOf (L ++ [k]) a s r
  | none, h => fun x hx => by
    rcases List.mem_append.1 hx with hx | hx
    · exact h x hx
    · rw [List.mem_singleton.1 hx]; exact hk
  | some n, ⟨⟨x, hx, h⟩, h'⟩ => ⟨⟨x, List.mem_append_left _ hx, h⟩, fun y hy h1 h2 => by
    rcases List.mem_append.1 hy with hy | hy
    · exact h' y hy h1 h2
    · rw [List.mem_singleton.1 hy] at h1 h2; exact absurd ⟨h1, h2⟩ hk⟩
theorem LeastOf.first {L : List Kd} {k : Kd} (h : LeastOf L k.to k.nm none) : LeastOf (L ++ [k]) k.to k.nm (some k.nd) :=
  ⟨⟨k, by simp, rfl, rfl, rfl⟩, fun y hy h1 h2 => by
    rcases List.mem_append.1 hy with hy | hy
    · exact absurd ⟨h1, h2⟩ (h y hy)
    · rw [List.mem_singleton.1 hy]; exact Int.le_refl _⟩
theorem LeastOf.less {L : List Kd} {k : Kd} {n : Int} (h : LeastOf L k.to k.nm (some n)) (hn : k.nd < n) : LeastOf (L ++ [k]) k.to k.nm (some k.nd) :=
  ⟨⟨k, by simp, rfl, rfl, rfl⟩, fun y hy h1 h2 => by
    rcases List.mem_append.1 hy with hy | hy
    · have := h.2 y hy h1 h2; omega
    · rw [List.mem_singleton.1 hy]; exact Int.le_refl _⟩
theorem LeastOf.more {L : List Kd} {k : Kd} {n : Int} (h : LeastOf L k.to k.nm (some n)) (hn : n ≤ k.nd) : LeastOf (L ++ [k]) k.to k.nm (some n) := by
  obtain ⟨⟨x, hx, h1⟩, h'⟩ := h
  exact ⟨⟨x, List.mem_append_left _ hx, h1⟩, fun y hy h1 h2 => by
    rcases List.mem_append.1 hy with hy | hy
    · exact h' y hy h1 h2
    · rw [List.mem_singleton.1 hy]; exact hn⟩
/-- The node of the least number below one, by a name. -/
def leastK (L : List Kd) (a : Int) (s : List UInt8) : Option Int := ((sortK (L.filter fun k => k.to == a)).find? fun k => k.nm == s).map (·.nd)
theorem find_first : ∀ {l : List Kd} {s : List UInt8} {k : Kd}, l.Pairwise (fun x y => (!ltOf kF y x) = true) → (l.find? fun k => k.nm == s) = some k → ∀ y ∈ l, y.nm = s → (!ltOf kF y k) = true
  | [], s, k, _, h, _, _, _ => by simp at h
  | x :: l, s, k, hp, h, y, hy, hs => by
    obtain ⟨h1, h2⟩ := List.pairwise_cons.1 hp
    rw [List.find?_cons] at h
    split at h
    · cases h
      rcases List.mem_cons.1 hy with rfl | hy
      · simp [kLt, kF_order.same]
      · exact h1 y hy
    · rcases List.mem_cons.1 hy with rfl | hy
      · rename_i hx
        simp [hs] at hx
      · exact find_first h2 h y hy hs
theorem leastK_of (L : List Kd) (a : Int) (s : List UInt8) : LeastOf L a s (leastK L a s) := by
  unfold leastK
  have hm : ∀ k, k ∈ sortK (L.filter fun k => k.to == a) ↔ k ∈ L ∧ k.to = a := fun k => by
    rw [(sortK_perm _).mem_iff, List.mem_filter]
    simp
  cases h : (sortK (L.filter fun k => k.to == a)).find? fun k => k.nm == s with
  | none =>
    intro k hk ⟨h1, h2⟩
    have := List.find?_eq_none.1 h k ((hm k).2 ⟨hk, h1⟩)
    simp [h2] at this
  | some k =>
    have hk := (hm k).1 (List.mem_of_find?_eq_some h)
    have hs : k.nm = s := by simpa using List.find?_some h
    refine ⟨⟨k, hk.1, hk.2, hs, rfl⟩, fun y hy h1 h2 => ?_⟩
    have := find_first (sortK_sorted _) h y ((hm y).2 ⟨hy, h1⟩) h2
    simp only [Bool.not_eq_true', kLt, decide_eq_false_iff_not] at this
    rw [kF_eq, h1, hk.2, h2, hs, cm_self, cN_self] at this
    simp at this
    show k.nd ≤ y.nd
    unfold cm at this
    split at this
    · omega
    · omega
theorem leastK_eq {L : List Kd} {a : Int} {s : List UInt8} {r : Option Int} (h : LeastOf L a s r) : leastK L a s = r := (leastK_of L a s).one h
/-- Down a path, from a node. -/
def down (L : List Kd) : Int → List (List UInt8) → Option Int
  | a, [] => some a
  | a, s :: l => match leastK L a s with
    | none => none
    | some n => down L n l
/-- Where a path leads, and what is wrong. -/
def findN (L : List Kd) (p : List UInt8) : Int := match splitP p with
  | none => 0
  | some l => (down L 0 l).getD 0
def findE (L : List Kd) (p : List UInt8) : Int := match splitP p with
  | none => 4
  | some l => if (down L 0 l).isSome then 0 else 9
/-- Where least stands. -/
def LeastRel (w : World) (bm : Nat) (L : List Kd) (a : Int) (s : List UInt8) (f o : Value) (wr : World) : Prop :=
  ∃ left cnt done r, Rng wr bm (w.heap.size + 1) L left cnt ∧ Coll L left done ∧ LeastOf done a s r ∧ f = .int .i64 (r.getD 0) ∧ o = .bool r.isSome ∧ Below w.heap.size w wr ∧ wr.heap[w.heap.size]? = some (.cells #[.bool true, .int .i64 a, .string (bs s)] 74 (0, 0)) ∧ w.heap.size + 1 < wr.heap.size
def LeastRet (w : World) (r : Option Int) (e : Ending) (w' : World) : Prop := e = .returned (.tuple #[.int .i64 (r.getD 0), .bool r.isSome]) ∧ Below w.heap.size w w'
def FindRet (w : World) (n e : Int) (x : Ending) (w' : World) : Prop := x = .returned (.tuple #[.int .i64 n, .int .i64 e]) ∧ Below w.heap.size w w'
/-- Where Find stands: so many names are gone. -/
def FindRel (L : List Kd) (w : World) (ls : List (List UInt8)) (a i : Value) (wr : World) : Prop :=
  ∃ (n : Int) (k : Nat), k ≤ ls.length ∧ a = .int .i64 n ∧ i = .int .i64 (k : Int) ∧ down L 0 ls = down L n (ls.drop k) ∧ Below w.heap.size w wr
theorem down_step (L : List Kd) (n : Int) (ls : List (List UInt8)) (k : Nat) (h : k < ls.length) : down L n (ls.drop k) = match leastK L n ls[k] with
    | none => none
    | some m => down L m (ls.drop (k + 1)) := by
  rw [List.drop_eq_getElem_cons h]
  rfl
end Go.Proofs.YtimfeocaghccdaaGreatDoor
