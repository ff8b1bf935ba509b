/-
  Contracts of the tree's least and Find; '==' of spots and of kids. Conditions: the tree is one, in memory; the library's tables are as the program's text lays them.
-/
import Derived.Test.YtlcmkikjgelfaaaDoorTList
import Derived.Test.YtlcmkikjgelfaaaDoorNSplit
import Derived.Laws.StructEq
namespace Go.Proofs.YtlcmkikjgelfaaaDoor
open Go.RowKit Go.Maps
set_option linter.unusedVariables false
set_option linter.unusedSimpArgs false
set_option maxRecDepth 100000

theorem spot_eql (x y : Bool) (a b : Int) (l m : List UInt8) (w : World) : (binOp .eql 39 (.agg #[.bool x, .int .i64 a, .string (bs l)]) (.agg #[.bool y, .int .i64 b, .string (bs m)])).run Tryd.prog w = .ok (.bool (decide (x = y ∧ a = b ∧ l = m))) w := by
  have u3 := Tryd.underlying3
  have a3 := Tryd.isAgg3
  have z3 := Tryd.sizeOf3
  have u9 := Tryd.underlying9
  have a9 := Tryd.isAgg9
  have z9 := Tryd.sizeOf9
  have u4 := Tryd.underlying4
  have a4 := Tryd.isAgg4
  have z4 := Tryd.sizeOf4
  rw [run_eql_struct, show (10000 : Nat) = 9997 + 1 + 1 + 1 from rfl, run_equalIn_agg w (9997 + 1 + 1) 39 _ _ (by kernel_rfl) (by kernel_rfl)]
  simp only [Program.fieldsOf, Tryd.underlying39]
  go_simp
  rw [bs_list, bs_list]
  cases x <;> cases y <;> by_cases h2 : a = b <;> by_cases h3 : l = m <;> simp [h2, h3]
theorem spot_neq (x y : Bool) (a b : Int) (l m : List UInt8) (w : World) : (binOp .neq 39 (.agg #[.bool x, .int .i64 a, .string (bs l)]) (.agg #[.bool y, .int .i64 b, .string (bs m)])).run Tryd.prog w = .ok (.bool (!decide (x = y ∧ a = b ∧ l = m))) w := by
  have u3 := Tryd.underlying3
  have a3 := Tryd.isAgg3
  have z3 := Tryd.sizeOf3
  have u9 := Tryd.underlying9
  have a9 := Tryd.isAgg9
  have z9 := Tryd.sizeOf9
  have u4 := Tryd.underlying4
  have a4 := Tryd.isAgg4
  have z4 := Tryd.sizeOf4
  rw [run_neq_struct, show (10000 : Nat) = 9997 + 1 + 1 + 1 from rfl, run_equalIn_agg w (9997 + 1 + 1) 39 _ _ (by kernel_rfl) (by kernel_rfl)]
  simp only [Program.fieldsOf, Tryd.underlying39]
  go_simp
  rw [bs_list, bs_list]
  cases x <;> cases y <;> by_cases h2 : a = b <;> by_cases h3 : l = m <;> simp [h2, h3]
theorem kid_eql (a b : Kd) (w : World) : (binOp .eql 56 (.agg #[.int .i64 a.to, .string (bs a.nm), .int .i64 a.nd]) (.agg #[.int .i64 b.to, .string (bs b.nm), .int .i64 b.nd])).run Tryd.prog w = .ok (.bool (decide (a = b))) w := by
  have u3 := Tryd.underlying3
  have a3 := Tryd.isAgg3
  have z3 := Tryd.sizeOf3
  have u9 := Tryd.underlying9
  have a9 := Tryd.isAgg9
  have z9 := Tryd.sizeOf9
  have e : decide (a = b) = decide (a.to = b.to ∧ a.nm = b.nm ∧ a.nd = b.nd) := by
    cases a; cases b
    simp
  rw [e, run_eql_struct, show (10000 : Nat) = 9997 + 1 + 1 + 1 from rfl, run_equalIn_agg w (9997 + 1 + 1) 56 _ _ (by kernel_rfl) (by kernel_rfl)]
  simp only [Program.fieldsOf, Tryd.underlying56]
  go_simp
  rw [bs_list, bs_list]
  by_cases h1 : a.to = b.to <;> by_cases h2 : a.nm = b.nm <;> by_cases h3 : a.nd = b.nd <;> simp [h1, h2, h3]
theorem kid_neq (a b : Kd) (w : World) : (binOp .neq 56 (.agg #[.int .i64 a.to, .string (bs a.nm), .int .i64 a.nd]) (.agg #[.int .i64 b.to, .string (bs b.nm), .int .i64 b.nd])).run Tryd.prog w = .ok (.bool (!decide (a = b))) w := by
  have u3 := Tryd.underlying3
  have a3 := Tryd.isAgg3
  have z3 := Tryd.sizeOf3
  have u9 := Tryd.underlying9
  have a9 := Tryd.isAgg9
  have z9 := Tryd.sizeOf9
  have e : decide (a = b) = decide (a.to = b.to ∧ a.nm = b.nm ∧ a.nd = b.nd) := by
    cases a; cases b
    simp
  rw [e, run_neq_struct, show (10000 : Nat) = 9997 + 1 + 1 + 1 from rfl, run_equalIn_agg w (9997 + 1 + 1) 56 _ _ (by kernel_rfl) (by kernel_rfl)]
  simp only [Program.fieldsOf, Tryd.underlying56]
  go_simp
  rw [bs_list, bs_list]
  by_cases h1 : a.to = b.to <;> by_cases h2 : a.nm = b.nm <;> by_cases h3 : a.nd = b.nd <;> simp [h1, h2, h3]
/-! ### the least of a name -/
def LeastOf (L : List Kd) (a : Int) (s : List UInt8) : Option Int → Prop
  | none => ∀ k ∈ L, ¬ (k.to = a ∧ k.nm = s)
  | some n => (∃ k ∈ L, k.to = a ∧ k.nm = s ∧ k.nd = n) ∧ ∀ k ∈ L, k.to = a → k.nm = s → n ≤ k.nd
theorem LeastOf.one {L : List Kd} {a : Int} {s : List UInt8} : ∀ {r r' : Option Int}, LeastOf L a s r → LeastOf L a s r' → r = r'
  | none, none, _, _ => rfl
  | none, some n, h, h' => by
    obtain ⟨⟨k, hk, h1, h2, _⟩, _⟩ := h'
    exact absurd ⟨h1, h2⟩ (h k hk)
  | some n, none, h', h => by
    obtain ⟨⟨k, hk, h1, h2, _⟩, _⟩ := h'
    exact absurd ⟨h1, h2⟩ (h k hk)
  | some n, some m, ⟨⟨k, hk, h1, h2, h3⟩, h4⟩, ⟨⟨k', hk', h1', h2', h3'⟩, h4'⟩ => by
    have := h4 k' hk' h1' h2'
    have := h4' k hk h1 h2
    congr 1
    omega
theorem LeastOf.perm {L M : List Kd} {a : Int} {s : List UInt8} (p : L.Perm M) : ∀ {r : Option Int}, LeastOf L a s r → LeastOf M a s r
  | none, h => fun k hk => h k (p.mem_iff.2 hk)
  | some n, ⟨⟨k, hk, h⟩, h'⟩ => ⟨⟨k, p.mem_iff.1 hk, h⟩, fun k hk => h' k (p.mem_iff.2 hk)⟩
theorem LeastOf.skip {L : List Kd} {a : Int} {s : List UInt8} {k : Kd} (hk : ¬ (k.to = a ∧ k.nm = s)) : ∀ {r : Option Int}, LeastOf L a s r → LeastOf (L ++ [k]) a s r
  | none, h => fun x hx => by
    rcases List.mem_append.1 hx with hx | hx
    · exact h x hx
    · rw [List.mem_singleton.1 hx]; exact hk
  | some n, ⟨⟨x, hx, h⟩, h'⟩ => ⟨⟨x, List.mem_append_left _ hx, h⟩, fun y hy h1 h2 => by
    rcases List.mem_append.1 hy with hy | hy
    · exact h' y hy h1 h2
    · rw [List.mem_singleton.1 hy] at h1 h2; exact absurd ⟨h1, h2⟩ hk⟩
theorem LeastOf.first {L : List Kd} {k : Kd} (h : LeastOf L k.to k.nm none) : LeastOf (L ++ [k]) k.to k.nm (some k.nd) :=
  ⟨⟨k, by simp, rfl, rfl, rfl⟩, fun y hy h1 h2 => by
    rcases List.mem_append.1 hy with hy | hy
    · exact absurd ⟨h1, h2⟩ (h y hy)
    · rw [List.mem_singleton.1 hy]; exact Int.le_refl _⟩
theorem LeastOf.less {L : List Kd} {k : Kd} {n : Int} (h : LeastOf L k.to k.nm (some n)) (hn : k.nd < n) : LeastOf (L ++ [k]) k.to k.nm (some k.nd) :=
  ⟨⟨k, by simp, rfl, rfl, rfl⟩, fun y hy h1 h2 => by
    rcases List.mem_append.1 hy with hy | hy
    · have := h.2 y hy h1 h2; omega
    · rw [List.mem_singleton.1 hy]; exact Int.le_refl _⟩
theorem LeastOf.more {L : List Kd} {k : Kd} {n : Int} (h : LeastOf L k.to k.nm (some n)) (hn : n ≤ k.nd) : LeastOf (L ++ [k]) k.to k.nm (some n) := by
  obtain ⟨⟨x, hx, h1⟩, h'⟩ := h
  exact ⟨⟨x, List.mem_append_left _ hx, h1⟩, fun y hy h1 h2 => by
    rcases List.mem_append.1 hy with hy | hy
    · exact h' y hy h1 h2
    · rw [List.mem_singleton.1 hy]; exact hn⟩
/-- The node of the least number below one, by a name. -/
def leastK (L : List Kd) (a : Int) (s : List UInt8) : Option Int := ((sortK (L.filter fun k => k.to == a)).find? fun k => k.nm == s).map (·.nd)
theorem find_first : ∀ {l : List Kd} {s : List UInt8} {k : Kd}, l.Pairwise (fun x y => (!ltOf kF y x) = true) → (l.find? fun k => k.nm == s) = some k → ∀ y ∈ l, y.nm = s → (!ltOf kF y k) = true
  | [], s, k, _, h, _, _, _ => by simp at h
  | x :: l, s, k, hp, h, y, hy, hs => by
    obtain ⟨h1, h2⟩ := List.pairwise_cons.1 hp
    rw [List.find?_cons] at h
    split at h
    · cases h
      rcases List.mem_cons.1 hy with rfl | hy
      · simp [kLt, kF_order.same]
      · exact h1 y hy
    · rcases List.mem_cons.1 hy with rfl | hy
      · rename_i hx
        simp [hs] at hx
      · exact find_first h2 h y hy hs
theorem leastK_of (L : List Kd) (a : Int) (s : List UInt8) : LeastOf L a s (leastK L a s) := by
  unfold leastK
  have hm : ∀ k, k ∈ sortK (L.filter fun k => k.to == a) ↔ k ∈ L ∧ k.to = a := fun k => by
    rw [(sortK_perm _).mem_iff, List.mem_filter]
    simp
  cases h : (sortK (L.filter fun k => k.to == a)).find? fun k => k.nm == s with
  | none =>
    intro k hk ⟨h1, h2⟩
    have := List.find?_eq_none.1 h k ((hm k).2 ⟨hk, h1⟩)
    simp [h2] at this
  | some k =>
    have hk := (hm k).1 (List.mem_of_find?_eq_some h)
    have hs : k.nm = s := by simpa using List.find?_some h
    refine ⟨⟨k, hk.1, hk.2, hs, rfl⟩, fun y hy h1 h2 => ?_⟩
    have := find_first (sortK_sorted _) h y ((hm y).2 ⟨hy, h1⟩) h2
    simp only [Bool.not_eq_true', kLt, decide_eq_false_iff_not] at this
    rw [kF_eq, h1, hk.2, h2, hs, cm_self, cN_self] at this
    simp at this
    show k.nd ≤ y.nd
    unfold cm at this
    split at this
    · omega
    · omega
theorem leastK_eq {L : List Kd} {a : Int} {s : List UInt8} {r : Option Int} (h : LeastOf L a s r) : leastK L a s = r := (leastK_of L a s).one h
/-- Down a path, from a node. -/
def down (L : List Kd) : Int → List (List UInt8) → Option Int
  | a, [] => some a
  | a, s :: l => match leastK L a s with
    | none => none
    | some n => down L n l
/-- Where a path leads, and what is wrong. -/
def findN (L : List Kd) (p : List UInt8) : Int := match splitP p with
  | none => 0
  | some l => (down L 0 l).getD 0
def findE (L : List Kd) (p : List UInt8) : Int := match splitP p with
  | none => 4
  | some l => if (down L 0 l).isSome then 0 else 9
/-- Where least stands. -/
def LeastRel (w : World) (bm : Nat) (L : List Kd) (a : Int) (s : List UInt8) (f o : Value) (wr : World) : Prop :=
  ∃ left cnt done r, Rng wr bm (w.heap.size + 1) L left cnt ∧ Coll L left done ∧ LeastOf done a s r ∧ f = .int .i64 (r.getD 0) ∧ o = .bool r.isSome ∧ Below w.heap.size w wr ∧ wr.heap[w.heap.size]? = some (.cells #[.bool true, .int .i64 a, .string (bs s)] 39 (0, 0)) ∧ w.heap.size + 1 < wr.heap.size
def LeastRet (w : World) (r : Option Int) (e : Ending) (w' : World) : Prop := e = .returned (.tuple #[.int .i64 (r.getD 0), .bool r.isSome]) ∧ Below w.heap.size w w'
set_option maxHeartbeats 4000000 in
theorem tleast_any (g : Nat) (L : List Kd) (r : List (List Kd)) (fs : List Nat) (a : Int) (s : List UInt8) (w : World) (h : Tr w g L r fs) :
    Calls Tryd.prog 47 #[.pointer (some ⟨g, 0, none⟩), .agg #[.bool true, .int .i64 a, .string (bs s)]] w (LeastRet w (leastK L a s)) := by
  have hL := h.ok
  obtain ⟨_, bm, vp, p, T0, _, rfl⟩ := h
  have T := T0.alloc (.cells #[.bool true, .int .i64 a, .string (bs s)] 39)
  have c0 := T.cell0
  have hown := T.map
  unfold Mp at hown
  have HO := hide hown
  have HL := hide hL
  have lb := T0.map.lt
  have HS := hide (Coll.start L)
  have bx := heap_alloc_new w (.cells #[.bool true, .int .i64 a, .string (bs s)] 39)
  have HX := hide bx
  have e1 : (w.alloc (.cells #[.bool true, .int .i64 a, .string (bs s)] 39)).heap.size = w.heap.size + 1 := by simp
  have HB := hide ((Below.refl w.heap.size w).alloc (Nat.le_refl _) (.cells #[.bool true, .int .i64 a, .string (bs s)] 39))
  clear T T0 hown hL bx
  go_enter Tryd.func47, Tryd.ntmps47
  go_wp2_with (at_range; refine wpList_range_own _ rfl _ 64 rfl 3 39 law Tryd.underlying64 spotElem bm L.length (dOf L) rfl HO.out ?_; intro w0 hrg0 hg0 hs0)
  go_frame
  rw [e1] at hrg0 hs0 ⊢
  have R0 := hide (show LeastRel w bm L a s (.int .i64 0) (.bool false) w0 from ⟨_, _, [], none, hrg0, HS.out, (by intro k hk; simp at hk), rfl, rfl, HB.out.grown hg0 (by simp) (by intro k hk; cases hk), (hg0.block _ (by simp) (by simp)).trans HX.out, by omega⟩)
  clear hrg0 hg0 hs0 HS HO c0 HX HB e1
  go_loopw [4, 5] (fun f o wr => LeastRel w bm L a s f o wr) (fun _ _ wr => wr.rangeLeft bm (w.heap.size + 1))
  case atStart => exact R0.out
  case round =>
    obtain ⟨left, cnt, done, m, hrg, hC, hm, rfl, rfl, hB, hx, hz⟩ := hrel
    have HR := hide hrg
    have HC := hide hC
    have HM := hide hm
    have HB := hide hB
    have HX := hide hx
    clear hrg hC hm hB hx R0
    go_wp2_with (at_next; refine wpList_next_ranges _ rfl _ rfl 3 law spotElem (Value.int .i64) mkS invK invV bm (w.heap.size + 1) L.length _ _ _ rfl HR.out ?_ ?_)
    · intro hc0 hl0
      have HE := hide (leastK_eq (HM.out.perm (HC.out.done HL.out hl0)))
      clear hc0 hl0
      go_wp2
      go_ret2
      rw [HE.out]
      exact ⟨rfl, HB.out⟩
    · intro x ct cl kl y1 y2 w1 cnt1 hkey hlk hv hat hrg1 hlt hg1 hs1 hen
      obtain ⟨k, hk, rfl, rfl, rfl, rfl⟩ := rng_step HL.out hkey hv hat
      have HC1 := hide (HC.out.step HL.out hk hlk)
      have HLT := hide hlt
      have HD := hide (HR.out)
      have sz1 : wr.heap.size ≤ w1.heap.size := hg1.size
      have B1 := HB.out.grown hg1 (by omega) (fun j hj => by cases hj; exact Nat.le_succ _)
      have X1 := (hg1.block w.heap.size (by omega) (by simp)).trans HX.out
      have R1 : Rng w1 bm (w.heap.size + 1) L _ cnt1 := hrg1
      have Bz := (Below.refl w1.heap.size w1).alloc (Nat.le_refl _) (.cells #[.bool true, .int .i64 k.to, .string (bs k.nm)] 39)
      have HR2 := hide (R1.below Bz)
      have HB2 := hide (B1.trans (Bz.mono (by omega)))
      have X2 := (Bz.block _ (Array.getElem?_eq_some_iff.1 X1).1).trans X1
      have HX2 := hide X2
      have y0 := cell_of_row _ _ 0 _ _ (0, 0) X2
      have y1' := cell_of_row _ _ 1 _ _ (0, 0) X2
      have y2' := cell_of_row _ _ 2 _ _ (0, 0) X2
      have sz2 := Bz.size
      simp at y0 y1' y2'
      have hq := spot_eql true true k.to a k.nm s (w1.alloc (.cells #[.bool true, .int .i64 k.to, .string (bs k.nm)] 39))
      unfold mkS at hen
      clear hkey hlk hv hat hrg1 hlt hg1 hs1 HC HB HR HX B1 X1 R1 Bz X2
      by_cases hka : k.to = a ∧ k.nm = s
      · obtain ⟨rfl, rfl⟩ := hka
        have hd : decide (true = true ∧ k.to = k.to ∧ k.nm = k.nm) = true := by simp
        rw [hd] at hq
        clear hd
        cases m with
        | none =>
          have HN := hide (HM.out.first)
          simp only [Option.getD_none, Option.isSome_none]
          clear HM
          go_wp2_with fail
          go_roundw
          case rel => exact ⟨_, cnt1, done ++ [k], some k.nd, HR2.out, HC1.out, HN.out, rfl, rfl, HB2.out, HX2.out, by omega⟩
          case measure => rw [World.ranges.left_eq HR2.out, World.ranges.left_eq HD.out]; exact HLT.out
        | some n =>
          simp only [Option.getD_some, Option.isSome_some]
          by_cases hlt : k.nd < n
          · have HN := hide (HM.out.less hlt)
            clear HM
            go_wp2_with fail
            go_roundw
            case rel => exact ⟨_, cnt1, done ++ [k], some k.nd, HR2.out, HC1.out, HN.out, rfl, rfl, HB2.out, HX2.out, by omega⟩
            case measure => rw [World.ranges.left_eq HR2.out, World.ranges.left_eq HD.out]; exact HLT.out
          · have HN := hide (HM.out.more (by omega))
            have hd2 : decide (k.nd < n) = false := by simpa using hlt
            clear HM
            go_wp2_with fail
            go_roundw
            case rel => exact ⟨_, cnt1, done ++ [k], some n, HR2.out, HC1.out, HN.out, rfl, rfl, HB2.out, HX2.out, by omega⟩
            case measure => rw [World.ranges.left_eq HR2.out, World.ranges.left_eq HD.out]; exact HLT.out
      · have HN := hide (HM.out.skip hka)
        clear HM hq
        by_cases h1 : k.to = a
        · subst h1
          have h2 : ¬ k.nm = s := fun e => hka ⟨rfl, e⟩
          have h3 : ¬ bs k.nm = bs s := fun e => h2 (bs_inj e)
          have h5 : ¬ (bs k.nm).toList = (bs s).toList := by rw [bs_list, bs_list]; exact h2
          have h6 : ((bs k.nm).toList == (bs s).toList) = false := by simpa using h5
          clear hka
          go_wp2_with fail
          go_roundw
          case rel => exact ⟨_, cnt1, done ++ [k], m, HR2.out, HC1.out, HN.out, rfl, rfl, HB2.out, HX2.out, by omega⟩
          case measure => rw [World.ranges.left_eq HR2.out, World.ranges.left_eq HD.out]; exact HLT.out
        · have h2 : (k.to == a) = false := by simpa using h1
          clear hka
          go_wp2_with fail
          go_roundw
          case rel => exact ⟨_, cnt1, done ++ [k], m, HR2.out, HC1.out, HN.out, rfl, rfl, HB2.out, HX2.out, by omega⟩
          case measure => rw [World.ranges.left_eq HR2.out, World.ranges.left_eq HD.out]; exact HLT.out
def FindRet (w : World) (n e : Int) (x : Ending) (w' : World) : Prop := x = .returned (.tuple #[.int .i64 n, .int .i64 e]) ∧ Below w.heap.size w w'
/-- Where Find stands: so many names are gone. -/
def FindRel (L : List Kd) (w : World) (ls : List (List UInt8)) (a i : Value) (wr : World) : Prop :=
  ∃ (n : Int) (k : Nat), k ≤ ls.length ∧ a = .int .i64 n ∧ i = .int .i64 (k : Int) ∧ down L 0 ls = down L n (ls.drop k) ∧ Below w.heap.size w wr
theorem down_step (L : List Kd) (n : Int) (ls : List (List UInt8)) (k : Nat) (h : k < ls.length) : down L n (ls.drop k) = match leastK L n ls[k] with
    | none => none
    | some m => down L m (ls.drop (k + 1)) := by
  rw [List.drop_eq_getElem_cons h]
  rfl
set_option maxHeartbeats 4000000 in
theorem tfind_any (g : Nat) (L : List Kd) (r : List (List Kd)) (fs : List Nat) (l : List UInt8) (hl : l.length ≤ 1000000) (w : World) (hE : Env w) (h : Tr w g L r fs) :
    Calls Tryd.prog 30 #[.pointer (some ⟨g, 0, none⟩), .string (bs l)] w (FindRet w (findN L l) (findE L l)) := by
  have K := hide (split_any l w (by omega) hE)
  have HT := hide h
  clear h hE
  cases hs : splitP l with
  | none =>
    have E1 := hide (show findN L l = 0 by unfold findN; rw [hs])
    have E2 := hide (show findE L l = 4 by unfold findE; rw [hs])
    rw [hs] at K
    clear hs
    rw [E1.out, E2.out]
    go_enter Tryd.func30, Tryd.ntmps30
    go_wp2_with fail
    refine K.out.mono ?_
    rintro e w1 ⟨v, rfl, hv, hb⟩
    have B := hide hb
    clear hb hv
    rw [errN_none]
    go_wp2
    go_ret2
    exact ⟨rfl, B.out⟩
  | some ls =>
    have E1 := hide (show findN L l = (down L 0 ls).getD 0 by unfold findN; rw [hs])
    have E2 := hide (show findE L l = if (down L 0 ls).isSome then 0 else 9 by unfold findE; rw [hs])
    rw [hs] at K
    have hlen : ls.length ≤ 400 := by
      have h1 := splitP_some l ls hs
      by_cases h0 : ls = []
      · subst h0; simp
      · have h2 := h1.2.2.2 h0
        have := splitS_len l.tail
        rw [h2.1]
        have h3 := h1.2.2.1
        have : l.tail.length + 1 ≤ 400 := by
          rw [h2.2] at h3
          simpa using h3
        omega
    clear hs
    go_enter Tryd.func30, Tryd.ntmps30
    go_wp2_with fail
    refine K.out.mono ?_
    rintro e w1 ⟨v, rfl, hv, hb⟩
    have B1 := hide hb
    have HT1 := hide (HT.out.below hb)
    have sz1 := hb.size
    clear hb K HT
    rw [errN_some]
    simp only [Option.getD_some] at hv
    obtain ⟨A, c, rfl, h1, h2, h3⟩ := hv
    have H3 := hide h3
    clear h3
    unfold maxLen at h2
    go_wp2_with fail
    go_loopw [8, 23] (fun a i wr => FindRel L w1 ls a i wr) (fun _ i _ => ls.length - (intOf i).toNat)
    case atStart => exact ⟨0, 0, Nat.zero_le _, rfl, rfl, rfl, Below.refl _ _⟩
    case round =>
      obtain ⟨n, k, hk, rfl, rfl, hd, hb⟩ := hrel
      have HD := hide hd
      have B := hide hb
      have HT2 := hide (HT1.out.below hb)
      have sz2 := hb.size
      clear hd hb
      by_cases hlt : k < ls.length
      · have hc : ∃ b o, A = some ⟨b, o, none⟩ ∧ wr.cell? ⟨b, o + k, none⟩ = some (.string (bs ls[k])) := by
          rcases H3.out with h0 | ⟨b, o, e, h4⟩
          · exfalso
            simp [h0] at hlt
          · have h5 := h4 k hlt
            exact ⟨b, o, e, (B.out.cell (World.block_lt_of_cell? w1 _ h5)).trans h5⟩
        obtain ⟨b, o, rfl, hc⟩ := hc
        have HS := hide (down_step L n ls k hlt)
        generalize hx : ls[k] = x at hc HS
        clear hx
        have KL := hide (tleast_any g L r fs n x wr HT2.out)
        go_wp2_with fail
        refine KL.out.mono ?_
        rintro e w2 ⟨rfl, hb2⟩
        have B2 := hide (B.out.trans (hb2.mono sz2))
        clear hb2 KL hc
        cases hm : leastK L n x with
        | none =>
          have E := hide (show down L 0 ls = none by rw [HD.out, HS.out, hm])
          clear hm
          simp only [Option.getD_none, Option.isSome_none]
          go_wp2
          go_ret2
          rw [E1.out, E2.out, E.out]
          exact ⟨rfl, B1.out.trans (B2.out.mono sz1)⟩
        | some m =>
          have E := hide (show down L 0 ls = down L m (ls.drop (k + 1)) by rw [HD.out, HS.out, hm])
          clear hm
          simp only [Option.getD_some, Option.isSome_some]
          go_wp2_with fail
          go_roundw
          case rel => exact ⟨m, k + 1, by omega, rfl, by go_num, E.out, B2.out⟩
          case measure => simp [intOf]; omega
      · obtain rfl : k = ls.length := by omega
        have E := hide (show down L 0 ls = some n by rw [HD.out, List.drop_length]; rfl)
        go_wp2
        go_ret2
        rw [E1.out, E2.out, E.out]
        exact ⟨rfl, B1.out.trans (B.out.mono sz1)⟩
end Go.Proofs.YtlcmkikjgelfaaaDoor
