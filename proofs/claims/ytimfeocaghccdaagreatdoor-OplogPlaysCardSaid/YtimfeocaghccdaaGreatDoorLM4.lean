/-
  The document's tree, what only reads: where a node is in the list, Spot, Known, Above. Conditions: the tree is one, in memory.
  The document's tree, its order: what stands ahead of what, and the sorting by choice of the least. Conditions: a list that can be read, of at most a thousand.
  The document's tree: Kids, All, Find. Conditions: the tree is one, in memory, of at most a thousand nodes.
  The document's tree in memory, whole: its list, and a row of all that it was; Apply. Conditions: the tree is one, in memory, of at most a thousand nodes and steps; names of at most a thousand bytes.
  The document's Apply. Conditions: the tree is one, in memory, of at most a thousand nodes and steps; names of at most a thousand bytes.
  The document's tree to which operations are applied, in order. Conditions: at most five hundred operations, names of at most a thousand bytes.
  For the document's log: how one is put in, step by step; the least node behind another; the greatest counter. No conditions.
  For OplogChanges: changes that can be read; a batch whose changes are kept; what the changes say of a node. Conditions: as Put's.
  A spot in a block of its own. No conditions.
  The document's log: Has and With. Conditions: the list can be read, and is not more than a hundred thousand.
  The document's log: in memory; its Top; Same of one and the same changes. Conditions: the lists can be read.
  The document's log: Changes: of all nodes that operations name, rising, those whose spots differ. Conditions: both trees and the operations can be read; the nodes' numbers are not negative.
  The document's log: Put. Conditions: the log is one, in memory, in order, of right operations; what is put can be read, names of at most a thousand bytes; together at most four hundred.
  Two logs side by side, in memory: what is put into one leaves the other. No conditions.
  The document's Short over a slice of operations. No conditions but that they can be read.
  An argument that is a slice of slices of operations: opened. No conditions.
-/
import Derived.Test.YtimfeocaghccdaaGreatDoorTLaw
import Derived.StillTailTactics
import Derived.OwnWalk
import Derived.Laws.OwnMore
import Derived.Deep.RegionHeld3
import Derived.Test.YtimfeocaghccdaaGreatDoorORef
import Derived.Maps.AppendAt
import Derived.Deep.RegionLaw
import Derived.Deep.DeepCutAuto
import Derived.Deep.AppendLies
import Derived.Test.YtimfeocaghccdaaGreatDoorLM3
import Derived.Deep.CutRange
import Derived.Test.YtimfeocaghccdaaGreatDoorWOps
import Derived.LoopTactic
import Derived.Test.YtimfeocaghccdaaGreatDoorWArg
namespace Go.Proofs.YtimfeocaghccdaaGreatDoor
set_option maxRecDepth 100000
open Go.RowKit Go.Maps
set_option linter.unusedVariables false
set_option linter.unusedSimpArgs false
set_option maxRecDepth 100000

/-- The document's tree in a block: its list, and a row of what it was. -/
structure Rl (w : World) (g : Nat) (vL vW : Value) (L : List Kd) : Prop where
  blk : w.heap[g]? = some (.cells #[vL, vW] 84 (0, 0))
  lst : OwnKids w 0 vL L
theorem Rl.lt {w : World} {g : Nat} {vL vW : Value} {L : List Kd} (h : Rl w g vL vW L) : g < w.heap.size := (Array.getElem?_eq_some_iff.1 h.blk).1
theorem Rl.below {w w' : World} {g : Nat} {vL vW : Value} {L : List Kd} (h : Rl w g vL vW L) (hb : Below w.heap.size w w') : Rl w' g vL vW L := ⟨(hb.block _ h.lt).trans h.blk, h.lst.below hb⟩
theorem Rl.cell0 {w : World} {g : Nat} {vL vW : Value} {L : List Kd} (h : Rl w g vL vW L) : w.cell? ⟨g, 0, none⟩ = some vL := cell_of_row w g 0 _ _ (0, 0) h.blk
theorem Rl.cell1 {w : World} {g : Nat} {vL vW : Value} {L : List Kd} (h : Rl w g vL vW L) : w.cell? ⟨g, 1, none⟩ = some vW := cell_of_row w g 1 _ _ (0, 0) h.blk
def AtRet (w : World) (L : List Kd) (n : Int) (e : Ending) (w' : World) : Prop :=
  w' = w ∧ ((e = .returned (.int .i64 (-1)) ∧ fnd L n = none) ∨ ∃ (k : Nat) (h : k < L.length), e = .returned (.int .i64 (k : Int)) ∧ fnd L n = some L[k])
def AtRel (L : List Kd) (n : Int) (i : Value) : Prop := ∃ k : Nat, k ≤ L.length ∧ i = .int .i64 (k : Int) ∧ fnd L n = fnd (L.drop k) n
theorem fnd_step (L : List Kd) (n : Int) (k : Nat) (h : k < L.length) : fnd (L.drop k) n = if L[k].nd = n then some L[k] else fnd (L.drop (k + 1)) n := by
  rw [List.drop_eq_getElem_cons h]
  unfold fnd
  rw [List.find?_cons]
  by_cases e : L[k].nd = n
  · simp [e]
  · rw [if_neg e, show (L[k].nd == n) = false from by simpa using e]
set_option maxHeartbeats 2000000 in
theorem rat_any (v : Value) (L : List Kd) (n : Int) (w : World) (hn : L.length ≤ 1000000) (h : Kids w v L) : Calls Tryz.prog 89 #[v, .int .i64 n] w (AtRet w L n) := by
  obtain ⟨A, c, rfl, h1, h2, h3⟩ := h
  unfold maxLen at h2
  have H3 := hide h3
  clear h3
  go_enter Tryz.func89, Tryz.ntmps89
  go_wp2_with fail
  go_loop [5] (AtRel L n) (fun i => L.length - (intOf i).toNat)
  case atStart => exact ⟨0, Nat.zero_le _, rfl, rfl⟩
  case round =>
    obtain ⟨k, hk, rfl, he⟩ := hrel
    have E := hide he
    clear he
    by_cases hlt : k < L.length
    · obtain ⟨b, o, rfl, hat⟩ := H3.out (by omega)
      obtain ⟨r0, r1, r2⟩ := hat.three k hlt
      have FS := hide (fnd_step L n k hlt)
      have i1 : (k : Int) < (L.length : Int) := by omega
      have i0 : (0 : Int) ≤ (k : Int) := by omega
      by_cases hx : L[k].nd = n
      · have hx1 : (L[k].nd == n) = true := by simp [hx]
        have R := hide (show fnd L n = some L[k] by rw [E.out, FS.out, if_pos hx])
        clear hx FS E
        go_wp2
        go_ret
        exact ⟨rfl, .inr ⟨k, hlt, rfl, R.out⟩⟩
      · have hx1 : (L[k].nd == n) = false := by simp [hx]
        have R := hide (show fnd L n = fnd (L.drop (k + 1)) n by rw [E.out, FS.out, if_neg hx])
        clear hx FS E
        go_wp2_with fail
        go_round
        case rel => exact ⟨k + 1, by omega, by go_num, R.out⟩
        case measure => simp [intOf]; omega
    · obtain rfl : k = L.length := by omega
      have R := hide (show fnd L n = none by rw [E.out, List.drop_length]; rfl)
      go_wp2
      go_ret
      exact ⟨rfl, .inl ⟨rfl, R.out⟩⟩
set_option maxHeartbeats 2000000 in
theorem rknown_any (g : Nat) (vL vW : Value) (L : List Kd) (n : Int) (hn : L.length ≤ 1000000) (w : World) (T : Rl w g vL vW L) : Calls Tryz.prog 70 #[.pointer (some ⟨g, 0, none⟩), .int .i64 n] w (fun e w' => e = .returned (.bool (isKn L n)) ∧ w' = w) := by
  have c0 := T.cell0
  have K := hide (rat_any vL L n w hn T.lst.kids)
  have E := hide (show isKn L n = (n == 0 || n == 1 || (fnd L n).isSome) from rfl)
  clear T
  by_cases h0 : n = 0
  · subst h0
    go_enter Tryz.func70, Tryz.ntmps70
    go_wp2
    go_ret
    exact ⟨rfl, rfl⟩
  · by_cases h1 : n = 1
    · subst h1
      go_enter Tryz.func70, Tryz.ntmps70
      go_wp2
      go_ret
      exact ⟨rfl, rfl⟩
    · have z0 : (n == 0) = false := by simp [h0]
      have z1 : (n == 1) = false := by simp [h1]
      rw [E.out, z0, z1]
      clear h0 h1 E
      go_enter Tryz.func70, Tryz.ntmps70
      go_wp2_with fail
      refine K.out.mono ?_
      rintro e w1 ⟨rfl, hr⟩
      rcases hr with ⟨rfl, hf⟩ | ⟨k, hk, rfl, hf⟩
      · have F := hide hf
        clear hf
        go_wp2
        go_ret
        exact ⟨by rw [F.out]; rfl, rfl⟩
      · have F := hide hf
        have hk0 : decide ((k : Int) ≥ 0) = true := by simp
        clear hf
        go_wp2
        go_ret
        exact ⟨by rw [F.out]; rfl, rfl⟩
/-- Where Above stands. -/
def RaRel (L : List Kd) (a b : Int) (v i : Value) : Prop :=
  ∃ (x : Int) (k : Nat), k ≤ L.length + 1 ∧ v = .int .i64 x ∧ i = .int .i64 (k : Int) ∧ upF L (L.length + 1) a b = upF L (L.length + 1 - k) a x
theorem upF_step (L : List Kd) (m : Nat) (a x : Int) (h : 0 < m) : upF L m a x = if a = x then true else match fnd L x with
    | none => false
    | some k => upF L (m - 1) a k.to := by
  obtain ⟨f, rfl⟩ : ∃ f, m = f + 1 := ⟨m - 1, by omega⟩
  rfl
set_option maxHeartbeats 4000000 in
theorem rabove_any (g : Nat) (vL vW : Value) (L : List Kd) (a b : Int) (hn : L.length ≤ 1000000) (w : World) (T : Rl w g vL vW L) : Calls Tryz.prog 71 #[.pointer (some ⟨g, 0, none⟩), .int .i64 a, .int .i64 b] w (fun e w' => e = .returned (.bool (abv L a b)) ∧ w' = w) := by
  have c0 := T.cell0
  have KK := hide (rknown_any g vL vW L b hn w T)
  have HK := hide T.lst.kids
  have KA := hide (fun n => rat_any vL L n w hn T.lst.kids)
  obtain ⟨A, c, rfl, h1, h2, h3⟩ := T.lst.kids
  have H3 := hide h3
  unfold maxLen at h2
  clear T h3
  cases hkn : isKn L b with
  | false =>
    have E := hide (show abv L a b = false by unfold abv; rw [hkn]; rfl)
    rw [hkn] at KK
    rw [E.out]
    clear hkn
    go_enter Tryz.func71, Tryz.ntmps71
    go_wp2_with fail
    refine KK.out.mono ?_
    rintro e w1 ⟨rfl, hw⟩
    subst hw
    go_wp2
    go_ret
    exact ⟨rfl, rfl⟩
  | true =>
    have E := hide (show abv L a b = upF L (L.length + 1) a b by unfold abv; rw [hkn]; rfl)
    rw [hkn] at KK
    rw [E.out]
    clear hkn E
    go_enter Tryz.func71, Tryz.ntmps71
    go_wp2_with fail
    refine KK.out.mono ?_
    rintro e w1 ⟨rfl, hw⟩
    subst hw
    clear KK
    go_wp2_with fail
    go_loop [2, 8] (RaRel L a b) (fun _ i => L.length + 1 - (intOf i).toNat)
    case atStart => exact ⟨b, 0, Nat.zero_le _, rfl, rfl, rfl⟩
    case round =>
      obtain ⟨x, k, hk, rfl, rfl, he⟩ := hrel
      have E := hide he
      clear he
      by_cases hlt : k ≤ L.length
      · have hl1 : (k : Int) ≤ (L.length : Int) := by omega
        have hl2 : decide ((k : Int) ≤ (L.length : Int)) = true := by simp; omega
        have US := hide (upF_step L (L.length + 1 - k) a x (by omega))
        by_cases hax : a = x
        · have ha1 : (a == x) = true := by simp [hax]
          have R := hide (show upF L (L.length + 1) a b = true by rw [E.out, US.out, if_pos hax])
          clear hax US E
          go_wp2
          go_ret
          exact ⟨by rw [R.out]; rfl, rfl⟩
        · have ha1 : (a == x) = false := by simp [hax]
          have R := hide (show upF L (L.length + 1) a b = match fnd L x with
            | none => false
            | some q => upF L (L.length + 1 - k - 1) a q.to by rw [E.out, US.out, if_neg hax])
          clear hax US E
          go_wp2_with fail
          refine (KA.out x).mono ?_
          rintro e w2 ⟨rfl, hr⟩
          rcases hr with ⟨rfl, hf⟩ | ⟨j, hj, rfl, hf⟩
          · have R2 := hide (show upF L (L.length + 1) a b = false by rw [R.out, hf])
            clear hf R
            go_wp2
            go_ret
            exact ⟨by rw [R2.out]; rfl, rfl⟩
          · have R2 := hide (show upF L (L.length + 1) a b = upF L (L.length + 1 - (k + 1)) a L[j].to by rw [R.out, hf]; rfl)
            obtain ⟨b', o, rfl, hat⟩ := H3.out (by omega)
            obtain ⟨r0, r1, r2⟩ := hat.three j hj
            have i1 : (j : Int) < (L.length : Int) := by omega
            have i0 : (0 : Int) ≤ (j : Int) := by omega
            have j0 : decide ((j : Int) < 0) = false := by simp
            generalize L[j] = y at r0 r1 r2 R2
            clear hf R hat
            go_wp2_with fail
            go_round
            case rel => exact ⟨y.to, k + 1, by omega, rfl, by go_num, R2.out⟩
            case measure => simp [intOf]; omega
      · obtain rfl : k = L.length + 1 := by omega
        have R := hide (show upF L (L.length + 1) a b = false by rw [E.out, Nat.sub_self]; rfl)
        have hl2 : decide ((L.length : Int) + 1 ≤ (L.length : Int)) = false := by simp; omega
        clear E
        go_wp2
        go_ret
        exact ⟨by rw [R.out]; rfl, rfl⟩
theorem set_at {w wk : World} {cs : Array Value} {t : TypeId} (hb : Below w.heap.size w wk) (h : wk.heap[w.heap.size]? = some (.cells cs t (0, 0))) (j : Nat) (v : Value) :
    Below w.heap.size w (wk.setCell ⟨w.heap.size, j, none⟩ v) ∧ (wk.setCell ⟨w.heap.size, j, none⟩ v).heap[w.heap.size]? = some (.cells (cs.setIfInBounds j v) t (0, 0)) :=
  ⟨hb.setCell (p := ⟨w.heap.size, j, none⟩) (Nat.le_refl _) v, Joins.block_setCell h v⟩
theorem spot_end {w wk : World} {t : TypeId} {c0 c1 c2 : Value} (hb : Below w.heap.size w wk) (h : wk.heap[w.heap.size]? = some (.cells #[c0, c1, c2] t (0, 0))) (v0 v1 v2 : Value) (W : World)
    (hW : W = ((wk.setCell ⟨w.heap.size, 0, none⟩ v0).setCell ⟨w.heap.size, 1, none⟩ v1).setCell ⟨w.heap.size, 2, none⟩ v2) :
    Below w.heap.size w W ∧ W.cell? ⟨w.heap.size, 0, none⟩ = some v0 ∧ W.cell? ⟨w.heap.size, 1, none⟩ = some v1 ∧ W.cell? ⟨w.heap.size, 2, none⟩ = some v2 := by
  have p0 := set_at hb h 0 v0
  have p1 := set_at p0.1 p0.2 1 v1
  have p2 := set_at p1.1 p1.2 2 v2
  rw [← hW] at p2
  exact ⟨p2.1, cell_of_row W _ 0 _ _ (0, 0) p2.2, cell_of_row W _ 1 _ _ (0, 0) p2.2, cell_of_row W _ 2 _ _ (0, 0) p2.2⟩
set_option maxHeartbeats 2000000 in
theorem rspot_any (g : Nat) (vL vW : Value) (L : List Kd) (n : Int) (hn : L.length ≤ 1000000) (w : World) (T : Rl w g vL vW L) : Calls Tryz.prog 65 #[.pointer (some ⟨g, 0, none⟩), .int .i64 n] w (SpotRet (fnd L n) w) := by
  have T1 := T.below ((Below.refl _ _).alloc (Nat.le_refl _) (.cells #[.bool false, .int .i64 0, .string ⟨#[]⟩] 74))
  have HBX := hide (heap_alloc_new w (.cells #[.bool false, .int .i64 0, .string ⟨#[]⟩] 74))
  have HB := hide ((Below.refl w.heap.size w).alloc (Nat.le_refl _) (.cells #[.bool false, .int .i64 0, .string ⟨#[]⟩] 74))
  have hg := T.lt
  have c0 := T1.cell0
  have K := hide (rat_any vL L n _ hn T1.lst.kids)
  have HT := hide T1
  obtain ⟨A, c, rfl, h1, h2, h3⟩ := T1.lst.kids
  have H3 := hide h3
  unfold maxLen at h2
  clear T T1 h3
  go_enter Tryz.func65, Tryz.ntmps65
  go_upto_region 1 with (fail)
  generalize w.alloc (.cells #[.bool false, .int .i64 0, .string ⟨#[]⟩] 74) = w1 at HBX HB c0 K HT H3 ⊢
  have f0 := Joins.unfrozen_of_block HBX.out 0
  have f1 := Joins.unfrozen_of_block HBX.out 1
  have f2 := Joins.unfrozen_of_block HBX.out 2
  have b0 := cell_of_row _ _ 0 _ _ (0, 0) HBX.out
  have b1 := cell_of_row _ _ 1 _ _ (0, 0) HBX.out
  have b2 := cell_of_row _ _ 2 _ _ (0, 0) HBX.out
  simp at b0 b1 b2
  go_wp2_with fail
  refine K.out.mono ?_
  rintro e w2 ⟨rfl, hr⟩
  rcases hr with ⟨rfl, hf⟩ | ⟨k, hk, rfl, hf⟩
  · have FF := hide hf
    clear hf K
    go_wp2_with fail
    obtain ⟨b9, e0, e1, e2⟩ := spot_end HB.out HBX.out (.bool false) (.int .i64 0) (.string ⟨#[]⟩) _ rfl
    have B9 := hide b9
    clear b9 b0 b1 b2 f0 f1 f2
    revert e0 e1 e2 B9
    generalize ((w2.setCell ⟨w.heap.size, 0, none⟩ (.bool false)).setCell ⟨w.heap.size, 1, none⟩ (.int .i64 0)).setCell ⟨w.heap.size, 2, none⟩ (.string ⟨#[]⟩) = w3
    intro e0 e1 e2 B9
    (try simp only [Exit.inBlock, Exit.then])
    refine bodyPost_ret (v := spv none) ?_ rfl ⟨by rw [FF.out], B9.out⟩
    rw [results_one rfl]
    unfold spv
    go_simp
    exact ⟨rfl, rfl, rfl⟩
  · have FF := hide hf
    obtain ⟨b, o, rfl, hat⟩ := H3.out (by omega)
    obtain ⟨r0, r1, r2⟩ := hat.three k hk
    have i1 : (k : Int) < (L.length : Int) := by omega
    have i0 : (0 : Int) ≤ (k : Int) := by omega
    have j0 : decide ((k : Int) < 0) = false := by simp
    generalize L[k] = y at r0 r1 r2 FF
    clear hf K hat
    go_wp2_with fail
    go_region
    obtain ⟨b9, e0, e1, e2⟩ := spot_end HB.out HBX.out (.bool true) (.int .i64 y.to) (.string (bs y.nm)) _ rfl
    have B9 := hide b9
    clear b9 b0 b1 b2 f0 f1 f2
    revert e0 e1 e2 B9
    generalize ((w2.setCell ⟨w.heap.size, 0, none⟩ (.bool true)).setCell ⟨w.heap.size, 1, none⟩ (.int .i64 y.to)).setCell ⟨w.heap.size, 2, none⟩ (.string (bs y.nm)) = w3
    intro e0 e1 e2 B9
    go_wp2
    (try simp only [Exit.inBlock, Exit.then])
    refine bodyPost_ret (v := spv (some y)) ?_ rfl ⟨by rw [FF.out], B9.out.drew⟩
    rw [results_one rfl]
    have es : spv (some y) = .agg #[.bool true, .int .i64 y.to, .string (bs y.nm)] := rfl
    rw [es]
    go_simp
end Go.Proofs.YtimfeocaghccdaaGreatDoor
namespace Go.Proofs.YtimfeocaghccdaaGreatDoor
set_option maxRecDepth 100000
open Go.RowKit Go.Maps
set_option linter.unusedVariables false
set_option linter.unusedSimpArgs false
set_option maxRecDepth 100000

set_option maxHeartbeats 2000000 in
theorem rless_any (a b : Kd) (w : World) : Calls Tryz.prog 72 #[.agg #[.int .i64 a.to, .string (bs a.nm), .int .i64 a.nd], .agg #[.int .i64 b.to, .string (bs b.nm), .int .i64 b.nd]] w (BoolRet (ltOf kF a b) w) := by
  have B := hide (below_two w (.cells #[.int .i64 a.to, .string (bs a.nm), .int .i64 a.nd] 79) (.cells #[.int .i64 b.to, .string (bs b.nm), .int .i64 b.nd] 79))
  have E := hide (kLt a b)
  rw [E.out]
  have EK := hide (kF_eq a b)
  clear E
  by_cases h1 : a.to = b.to
  · have t1 : (a.to != b.to) = false := by simp [h1]
    have e1 : cm a.to b.to = 0 := by rw [h1]; exact cm_self _
    by_cases h2 : a.nm = b.nm
    · have t2 : ((bs a.nm).toList == (bs b.nm).toList) = true := by rw [h2]; simp
      have R := hide (show decide (kF a b < 0) = decide (a.nd < b.nd) by
        rw [EK.out, e1, h2, cN_self]
        simp only [ne_eq, not_true_eq_false, if_false]
        unfold cm
        by_cases h : a.nd < b.nd
        · simp [h]
        · rw [if_neg h]
          split <;> simp [h])
      rw [R.out]
      clear h1 h2 e1 EK R
      go_enter Tryz.func72, Tryz.ntmps72
      go_wp2
      go_ret
      exact ⟨rfl, B.out⟩
    · have t2 : ((bs a.nm).toList == (bs b.nm).toList) = false := by rw [bs_list, bs_list]; simp [h2]
      have R := hide (show decide (kF a b < 0) = Op.bytesLess (bs a.nm).toList (bs b.nm).toList by
        rw [bs_list, bs_list, EK.out, e1]
        have hne : cN a.nm b.nm ≠ 0 := fun h => h2 (cN_eq _ _ h)
        simp only [ne_eq, not_true_eq_false, if_false, hne, not_false_eq_true, if_true]
        cases hb : Op.bytesLess a.nm b.nm with
        | true => rw [cN_less _ _ hb]; rfl
        | false => rw [cN_more _ _ hb h2]; rfl)
      rw [R.out]
      clear h1 h2 e1 EK R
      go_enter Tryz.func72, Tryz.ntmps72
      go_wp2
      go_ret
      exact ⟨rfl, B.out⟩
  · have t1 : (a.to != b.to) = true := by simp [h1]
    have R := hide (show decide (kF a b < 0) = decide (a.to < b.to) by
      rw [EK.out]
      unfold cm
      by_cases h : a.to < b.to
      · simp [h]
      · have h' : b.to < a.to := by omega
        simp [h, h'])
    rw [R.out]
    clear h1 EK R
    go_enter Tryz.func72, Tryz.ntmps72
    go_wp2
    go_ret
    exact ⟨rfl, B.out⟩

/-! ### choosing the least -/
/-- What isn't used yet. -/
def lft : List Kd → (Nat → Bool) → List Kd
  | [], _ => []
  | x :: l, U => (if U 0 = true then [] else [x]) ++ lft l (fun i => U (i + 1))
def usd (U : Nat → Bool) (b : Nat) : Nat → Bool := fun i => if i = b then true else U i
theorem lft_none : ∀ l : List Kd, lft l (fun _ => false) = l
  | [] => rfl
  | x :: l => by simp [lft, lft_none l]
theorem lft_take : ∀ (l : List Kd) (U : Nat → Bool) (b : Nat) (h : b < l.length), U b = false → (lft l U).Perm (l[b] :: lft l (usd U b))
  | [], U, b, h, _ => by simp at h
  | x :: l, U, 0, h, hu => by
    have e : (fun i => usd U 0 (i + 1)) = fun i => U (i + 1) := by funext i; simp [usd]
    unfold lft
    rw [e, hu, show usd U 0 0 = true from rfl]
    simp
  | x :: l, U, b + 1, h, hu => by
    have e : (fun i => usd U (b + 1) (i + 1)) = usd (fun i => U (i + 1)) b := by funext i; simp [usd]
    unfold lft
    rw [e, show usd U (b + 1) 0 = U 0 from by simp [usd], List.getElem_cons_succ]
    exact ((lft_take l (fun i => U (i + 1)) b (by simpa using h) hu).append_left _).trans List.perm_middle
theorem lft_mem : ∀ (l : List Kd) (U : Nat → Bool) (y : Kd), y ∈ lft l U → ∃ (i : Nat) (h : i < l.length), U i = false ∧ l[i] = y
  | [], U, y, h => by simp [lft] at h
  | x :: l, U, y, h => by
    unfold lft at h
    rcases List.mem_append.1 h with h | h
    · split at h
      · simp at h
      · rename_i hu
        exact ⟨0, by simp, by simpa using hu, by simpa using (List.mem_singleton.1 h).symm⟩
    · obtain ⟨i, hi, hu, e⟩ := lft_mem l _ y h
      exact ⟨i + 1, by simpa using hi, hu, by simpa using e⟩
structure Sel (l : List Kd) (U : Nat → Bool) (out : List Kd) : Prop where
  perm : (out ++ lft l U).Perm l
  srt : out.Pairwise fun x y => (!ltOf kF y x) = true
  low : ∀ x ∈ out, ∀ y ∈ lft l U, (!ltOf kF y x) = true
theorem Sel.start (l : List Kd) : Sel l (fun _ => false) [] := ⟨by rw [lft_none]; exact List.Perm.refl _, List.Pairwise.nil, by simp⟩
theorem Sel.step {l : List Kd} {U : Nat → Bool} {out : List Kd} (h : Sel l U out) {b : Nat} (hb : b < l.length) (hu : U b = false) (hl : ∀ (j : Nat) (hj : j < l.length), U j = false → (!ltOf kF l[j] l[b]) = true) : Sel l (usd U b) (out ++ [l[b]]) := by
  have hp := lft_take l U b hb hu
  have hsub : ∀ y ∈ lft l (usd U b), y ∈ lft l U := fun y hy => hp.mem_iff.2 (by simp [hy])
  have hbm : l[b] ∈ lft l U := hp.mem_iff.2 (by simp)
  refine ⟨?_, ?_, ?_⟩
  · rw [List.append_assoc]
    exact ((hp.append_left out).symm).trans h.perm
  · rw [List.pairwise_append]
    exact ⟨h.srt, by simp, fun x hx y hy => by rw [List.mem_singleton.1 hy]; exact h.low x hx _ hbm⟩
  · intro x hx y hy
    rcases List.mem_append.1 hx with hx | hx
    · exact h.low x hx y (hsub y hy)
    · rw [List.mem_singleton.1 hx]
      obtain ⟨i, hi, hui, e⟩ := lft_mem l U y (hsub y hy)
      rw [← e]
      exact hl i hi hui
theorem Sel.done {l : List Kd} {U : Nat → Bool} {out : List Kd} (h : Sel l U out) (hn : out.length = l.length) : out = sortK l := by
  have e := h.perm.length_eq
  rw [List.length_append] at e
  have e2 : lft l U = [] := List.eq_nil_of_length_eq_zero (by omega)
  have hp := h.perm
  rw [e2, List.append_nil] at hp
  exact sorted_eq (hp.trans (sortK_perm l).symm) h.srt (sortK_sorted l)
theorem Sel.more {l : List Kd} {U : Nat → Bool} {out : List Kd} (h : Sel l U out) (hn : out.length < l.length) : ∃ (i : Nat), i < l.length ∧ U i = false := by
  have e := h.perm.length_eq
  rw [List.length_append] at e
  obtain ⟨y, hy⟩ : ∃ y, y ∈ lft l U := by
    cases hl : lft l U with
    | nil => rw [hl] at e; simp at e; omega
    | cons y t => exact ⟨y, by simp⟩
  obtain ⟨i, hi, hu, _⟩ := lft_mem l U y hy
  exact ⟨i, hi, hu⟩
/-! ### a row of marks -/
def Us (w : World) (b n : Nat) (U : Nat → Bool) : Prop := ∃ cur : Array Value, w.heap[b]? = some (.cells cur 4 (0, 0)) ∧ cur.size = n ∧ ∀ j, j < n → cur[j]? = some (.bool (U j))
theorem Us.kept {w w' : World} {b n : Nat} {U : Nat → Bool} (h : Us w b n U) (e : w'.heap[b]? = w.heap[b]?) : Us w' b n U := by
  obtain ⟨cur, h1, h2⟩ := h
  exact ⟨cur, e.trans h1, h2⟩
theorem Us.lt {w : World} {b n : Nat} {U : Nat → Bool} (h : Us w b n U) : b < w.heap.size := by
  obtain ⟨cur, h1, h2⟩ := h
  exact (Array.getElem?_eq_some_iff.1 h1).1
theorem Us.below {w w' : World} {b n : Nat} {U : Nat → Bool} (h : Us w b n U) (hb : Below w.heap.size w w') : Us w' b n U := h.kept (hb.block _ h.lt)
theorem Us.cell {w : World} {b n : Nat} {U : Nat → Bool} (h : Us w b n U) {j : Nat} (hj : j < n) : w.cell? ⟨b, j, none⟩ = some (.bool (U j)) := by
  obtain ⟨cur, h1, h2, h3⟩ := h
  rw [cell_of_row w b j _ _ (0, 0) h1]
  exact h3 j hj
theorem Us.free {w : World} {b n : Nat} {U : Nat → Bool} (h : Us w b n U) (j : Nat) : w.frozen? ⟨b, j, none⟩ = false := by
  obtain ⟨cur, h1, h2, h3⟩ := h
  exact Joins.unfrozen_of_block h1 j
theorem Us.set {w : World} {b n : Nat} {U : Nat → Bool} (h : Us w b n U) (k : Nat) : Us (w.setCell ⟨b, k, none⟩ (.bool true)) b n (usd U k) := by
  obtain ⟨cur, h1, h2, h3⟩ := h
  refine ⟨_, heap_setCell_same w b k cur _ _ h1, by simpa using h2, fun j hj => ?_⟩
  rw [Array.getElem?_setIfInBounds]
  by_cases e : k = j
  · subst e
    simp [h2, hj, usd]
  · rw [if_neg e, h3 j hj]
    have e' : ¬ j = k := fun x => e x.symm
    simp [usd, e']
theorem usinfo : (Tryz.prog.info? 4).map (fun i => (i.zero, i.size, i.bytes)) = some (some (.bool false), 1, 1) := by kernel_rfl
theorem Us.made {w : World} {base b n : Nat} (h : w.ownsRow base 4 1 (.slice (some ⟨b, 0, none⟩) n n) n (madeCells #[.bool false] n).toList) : Us w b n (fun _ => false) := by
  rcases h.2 with ⟨e, _⟩ | ⟨g, cap, cur, e, _, hb, _, _, hs, ht⟩
  · cases e
  · cases e
    refine ⟨cur, hb, by omega, fun j hj => ?_⟩
    have e1 : (madeCells #[Value.bool false] n).toList = List.replicate n (.bool false) := toList_madeCells_one (.bool false) n
    rw [e1] at ht
    have e2 : cur.toList[j]? = (cur.toList.take (n * 1))[j]? := by rw [List.getElem?_take, if_pos (by omega)]
    rw [← Array.getElem?_toList, e2, ht, List.getElem?_replicate, if_pos (by omega)]
theorem Us.ne {w : World} {b n base : Nat} {U : Nat → Bool} {v : Value} {ks : List Kd} (h : Us w b n U) (hk : OwnKids w base v ks) : v.ownBlock ≠ some b := by
  intro e
  obtain ⟨cur, h1, _⟩ := h
  rcases hk.2 with ⟨rfl, _⟩ | ⟨g, cap, cu, rfl, _, hb, _⟩
  · cases e
  · cases e
    rw [h1] at hb
    simp at hb
/-- Where the choosing stands. -/
def BsRel (w : World) (l : List Kd) (U : Nat → Bool) (v i : Value) (wr : World) : Prop :=
  ∃ m : Nat, m ≤ l.length ∧ i = .int .i64 (m : Int) ∧ Below w.heap.size w wr ∧
    ((v = .int .i64 (-1) ∧ ∀ j, j < m → U j = true) ∨ ∃ (b : Nat) (hb : b < l.length), v = .int .i64 (b : Int) ∧ U b = false ∧ ∀ (j : Nat) (hj : j < l.length), j < m → U j = false → (!ltOf kF l[j] l[b]) = true)
/-- Where the sorting stands. -/
def SoRel (w : World) (bu : Nat) (l : List Kd) (v i : Value) (wr : World) : Prop :=
  ∃ (out : List Kd) (U : Nat → Bool), out.length ≤ l.length ∧ i = .int .i64 (out.length : Int) ∧ OwnKids wr w.heap.size v out ∧ Us wr bu l.length U ∧ Sel l U out ∧ Below w.heap.size w wr
set_option maxHeartbeats 8000000 in
theorem rsorted_any (v : Value) (l : List Kd) (w : World) (hn : l.length ≤ 1000) (h : Kids w v l) : Calls Tryz.prog 43 #[v] w (KidsRet w (sortK l)) := by
  have HK := hide h
  obtain ⟨A, c, rfl, h1, h2, h3⟩ := h
  have H3 := hide h3
  unfold maxLen at h2
  clear h3
  obtain ⟨i0, hi0, hz0, hz1, hz2⟩ := info_parts usinfo
  have MB := hide (show i0.bytes * l.length ≤ 281474976710656 by rw [hz2]; omega)
  go_enter Tryz.func43, Tryz.ntmps43
  go_wp2_with (at_make; refine wpList_make_full _ rfl _ _ 113 rfl 0 4 i0 (.bool false) 1 Tryz.underlying113 hi0 hz0 hz1 .i64 .i64 _ _ l.length (by rfl) (by rfl) (by rfl) (by rfl) MB.out (by unfold maxLen; omega) (Nat.zero_le _) ?_)
  intro w1 hown1 hgr1
  have B1 := hide ((Below.refl w.heap.size w).grown hgr1 (Nat.le_refl _) (fun k hk => by cases hk))
  have S1 := hide (show SoRel w w.heap.size l (.slice none 0 0) (.int .i64 0) w1 from ⟨[], fun _ => false, Nat.zero_le _, rfl, OwnKids.nil _ _, Us.made hown1, Sel.start l, B1.out⟩)
  generalize hbu : w.heap.size = bu at S1 ⊢
  have HBU := hide hbu
  clear hown1 hgr1 hi0 hz0 hz1 hz2 MB B1 hbu
  go_wp2_with fail
  go_loopw [3, 5] (SoRel w bu l) (fun _ i _ => l.length - (intOf i).toNat)
  case atStart => exact S1.out
  case round =>
    rename World => wo
    clear S1
    obtain ⟨out, U, hol, rfl, hO, hU, hS, hb⟩ := hrel
    have OO := hide hO
    have UU := hide hU
    have SS := hide hS
    have BO := hide hb
    clear hO hU hS hb
    by_cases hlt : out.length < l.length
    · go_wp2_with fail
      go_loopw [6, 7] (BsRel wo l U) (fun _ i _ => l.length - (intOf i).toNat)
      case atStart => exact ⟨0, Nat.zero_le _, rfl, Below.refl _ _, .inl ⟨rfl, fun j hj => by omega⟩⟩
      case round =>
        rename World => wi
        obtain ⟨m, hm, rfl, hb, hbest⟩ := hrel
        have BI := hide hb
        clear hb
        by_cases hmt : m < l.length
        · have u1 := (UU.out.below BI.out).cell hmt
          have j1 : (m : Int) < (l.length : Int) := by omega
          have j0 : (0 : Int) ≤ (m : Int) := by omega
          cases hu : U m with
          | true =>
            rw [hu] at u1
            rcases hbest with ⟨rfl, ha⟩ | ⟨b, hbl, rfl, hub, hbe⟩
            · have N := hide (show ∀ j, j < m + 1 → U j = true from fun j hj => by
                by_cases e : j = m
                · rw [e]; exact hu
                · exact ha j (by omega))
              clear ha hu
              go_wp2_with fail
              go_roundw
              case rel => exact ⟨m + 1, by omega, by go_num, BI.out, .inl ⟨rfl, N.out⟩⟩
              case measure => simp [intOf]; omega
            · have N := hide (show ∀ (j : Nat) (hj : j < l.length), j < m + 1 → U j = false → (!ltOf kF l[j] l[b]) = true from fun j hj hjm huj => by
                by_cases e : j = m
                · rw [e, hu] at huj; cases huj
                · exact hbe j hj (by omega) huj)
              have NB := hide hub
              clear hbe hu hub
              go_wp2_with fail
              go_roundw
              case rel => exact ⟨m + 1, by omega, by go_num, BI.out, .inr ⟨b, hbl, rfl, NB.out, N.out⟩⟩
              case measure => simp [intOf]; omega
          | false =>
            rw [hu] at u1
            rcases hbest with ⟨rfl, ha⟩ | ⟨b, hbl, rfl, hub, hbe⟩
            · have N := hide (show ∀ (j : Nat) (hj : j < l.length), j < m + 1 → U j = false → (!ltOf kF l[j] l[m]) = true from fun j hj hjm huj => by
                by_cases e : j = m
                · subst e
                  simp [kLt, kF_order.same]
                · rw [ha j (by omega)] at huj; cases huj)
              have NB := hide hu
              clear ha hu
              go_wp2_with fail
              go_roundw
              case rel => exact ⟨m + 1, by omega, by go_num, BI.out, .inr ⟨m, hmt, rfl, NB.out, N.out⟩⟩
              case measure => simp [intOf]; omega
            · obtain ⟨bb, oo, rfl, hat⟩ := H3.out (by omega)
              have BT := (BO.out.trans (BI.out.mono BO.out.size))
              have AT := hide hat
              obtain ⟨r0, r1, r2⟩ := (hat.below BT).three m hmt
              obtain ⟨q0, q1, q2⟩ := (hat.below BT).three b hbl
              have k1 : (b : Int) < (l.length : Int) := by omega
              have k0 : (0 : Int) ≤ (b : Int) := by omega
              have kn : decide ((b : Int) < 0) = false := by simp
              have NB := hide hub
              have NM := hide hu
              have NE := hide hbe
              have KL := hide (fun W => rless_any l[m] l[b] W)
              obtain ⟨x, hx⟩ : ∃ x, x = l[m] := ⟨_, rfl⟩
              obtain ⟨y, hy⟩ : ∃ y, y = l[b] := ⟨_, rfl⟩
              rw [← hx] at r0 r1 r2
              rw [← hy] at q0 q1 q2
              rw [← hx, ← hy] at KL
              have EX := hide hx
              have EY := hide hy
              have hS0 := And.intro r0 (And.intro r1 (And.intro r2 (And.intro q0 (And.intro q1 q2))))
              clear hub hu hbe hx hy hat BT
              go_wp2_with fail
              go_region_held3 (fun w' => w'.cell? ⟨bb, oo + m * 3, none⟩ = some (.int .i64 x.to) ∧ w'.cell? ⟨bb, oo + m * 3 + 1, none⟩ = some (.string (bs x.nm)) ∧ w'.cell? ⟨bb, oo + m * 3 + 2, none⟩ = some (.int .i64 x.nd) ∧ w'.cell? ⟨bb, oo + b * 3, none⟩ = some (.int .i64 y.to) ∧ w'.cell? ⟨bb, oo + b * 3 + 1, none⟩ = some (.string (bs y.nm)) ∧ w'.cell? ⟨bb, oo + b * 3 + 2, none⟩ = some (.int .i64 y.nd))
                (first | with_reducible exact hS1 | with_reducible exact hS0 | go_keep)
                (first
                  | (go_at_call 72
                     (with_reducible refine (KL.out _).mono ?_)
                     rintro e w9 ⟨rfl, hb⟩
                     have hb' : Below wi.heap.size wi w9 := ⟨hb.os, hb.tape, hb.output, hb.size, hb.block⟩
                     have B9 := hide (BI.out.trans (hb'.mono BI.out.size))
                     have BT := (BO.out.trans (B9.out.mono BO.out.size))
                     obtain ⟨s0, s1, s2⟩ := (AT.out.below BT).three m hmt
                     obtain ⟨t0, t1, t2⟩ := (AT.out.below BT).three b hbl
                     rw [← EX.out] at s0 s1 s2
                     rw [← EY.out] at t0 t1 t2
                     have hS1 := And.intro s0 (And.intro s1 (And.intro s2 (And.intro t0 (And.intro t1 t2))))
                     clear hb hb' BT))
              clear hS0 hS1 r0 r1 r2 q0 q1 q2 s0 s1 s2 t0 t1 t2 u1
              cases hxy : ltOf kF x y with
              | true =>
                have N := hide (show ∀ (j : Nat) (hj : j < l.length), j < m + 1 → U j = false → (!ltOf kF l[j] l[m]) = true from fun j hj hjm huj => by
                  by_cases e : j = m
                  · subst e
                    simp [kLt, kF_order.same]
                  · have h5 := NE.out j hj (by omega) huj
                    have h6 : (!ltOf kF l[b] l[m]) = true := by
                      rw [← EX.out, ← EY.out]
                      have h7 := le_total' y x
                      rw [hxy] at h7
                      simpa using h7
                    exact le_trans' _ _ _ h6 h5)
                clear hxy
                go_wp2_with fail
                go_roundw
                case rel => exact ⟨m + 1, by omega, by go_num, B9.out, .inr ⟨m, hmt, rfl, NM.out, N.out⟩⟩
                case measure => simp [intOf]; omega
              | false =>
                have N := hide (show ∀ (j : Nat) (hj : j < l.length), j < m + 1 → U j = false → (!ltOf kF l[j] l[b]) = true from fun j hj hjm huj => by
                  by_cases e : j = m
                  · subst e
                    rw [← EX.out, ← EY.out, hxy]
                    rfl
                  · exact NE.out j hj (by omega) huj)
                clear hxy
                go_wp2_with fail
                go_roundw
                case rel => exact ⟨m + 1, by omega, by go_num, B9.out, .inr ⟨b, hbl, rfl, NB.out, N.out⟩⟩
                case measure => simp [intOf]; omega
        · obtain rfl : m = l.length := by omega
          rcases hbest with ⟨_, ha⟩ | ⟨b, hbl, rfl, hub, hbe⟩
          · exfalso
            obtain ⟨i, hi, hui⟩ := SS.out.more hlt
            rw [ha i hi] at hui
            cases hui
          have SN := hide (SS.out.step hbl hub (fun j hj hu => hbe j hj hj hu))
          obtain ⟨bb, oo, rfl, hat⟩ := H3.out (by omega)
          have BT := (BO.out.trans (BI.out.mono BO.out.size))
          have UI := hide (UU.out.below BI.out)
          have OI := hide (OO.out.below BI.out)
          have hnb := UI.out.ne OI.out
          have f1 := UI.out.free b
          have c1 := UI.out.cell hbl
          have k1 : (b : Int) < (l.length : Int) := by omega
          have k0 : (0 : Int) ≤ (b : Int) := by omega
          have UX := hide (UI.out.set b)
          have OX := hide (OI.out.kept (w' := wi.setCell ⟨bu, b, none⟩ (.bool true)) (fun b' hb' => heap_setCell_other wi _ b' _ (by rintro rfl; exact hnb hb')))
          have BX := hide (BT.setCell (p := ⟨bu, b, none⟩) (by show w.heap.size ≤ bu; rw [HBU.out]; exact Nat.le_refl _) (.bool true))
          have AT := hide hat
          clear hub hbe hat BT
          go_upto_region 17 with (fail)
          generalize wi.setCell ⟨bu, b, none⟩ (.bool true) = wx at UX OX BX ⊢
          clear f1 c1 UI OI
          have lw : w.heap.size ≤ wx.heap.size := BX.out.size
          obtain ⟨r0, r1, r2⟩ := (AT.out.below BX.out).three b hbl
          generalize l[b] = y at r0 r1 r2 SN
          have Bz := (Below.refl wx.heap.size wx).alloc (Nat.le_refl _) (.cells #[.int .i64 y.to, .string (bs y.nm), .int .i64 y.nd] 79)
          have O2 := hide (OX.out.below Bz)
          have U2 := hide (UX.out.below Bz)
          have B2 := hide (BX.out.trans (Bz.mono lw))
          have N2 := hide (kid_new wx y)
          have lz := Bz.size
          clear Bz
          go_wp2_with (at_builtin; refine wpList_append_kid _ rfl _ _ rfl w.heap.size _ out rfl O2.out ⟨wx.heap.size, 0, none⟩ 1 y rfl N2.out (by omega) (by omega) ?_)
          intro v6 w6 hown6 hg6 hat6
          have O6 := hide hown6
          have U6 := hide (U2.out.kept (hg6.block _ U2.out.lt (fun e => U2.out.ne O2.out e.symm)))
          have B6 := hide (B2.out.grown hg6 (by omega) (fun k hk => (O2.out.lt hk).1))
          have hln : (out ++ [y]).length = out.length + 1 := by simp
          have HLN := hide hln
          clear hown6 hg6 hat6 O2 U2 B2 N2 r0 r1 r2 hln
          go_wp2_with fail
          go_roundw
          case rel => exact ⟨out ++ [y], usd U b, by rw [HLN.out]; omega, by rw [HLN.out]; go_num, O6.out, U6.out, SN.out, B6.out⟩
          case measure => simp [intOf]; omega
    · have hoe : out.length = l.length := by omega
      have ES := hide (SS.out.done hoe)
      have HOE := hide hoe
      obtain ⟨A', c', hv, _, _, _⟩ := OO.out.form
      have hlt' : ¬ out.length < l.length := hlt
      clear hoe
      go_wp2
      go_ret
      refine ⟨_, rfl, ?_, BO.out⟩
      rw [← ES.out]
      exact OO.out
end Go.Proofs.YtimfeocaghccdaaGreatDoor
namespace Go.Proofs.YtimfeocaghccdaaGreatDoor
set_option maxRecDepth 100000
open Go.RowKit Go.Maps
set_option linter.unusedVariables false
set_option linter.unusedSimpArgs false
set_option maxRecDepth 100000

set_option maxHeartbeats 2000000 in
theorem rall_any (g : Nat) (vL vW : Value) (L : List Kd) (hn : L.length ≤ 1000) (w : World) (T : Rl w g vL vW L) : Calls Tryz.prog 21 #[.pointer (some ⟨g, 0, none⟩)] w (KidsRet w (sortK L)) := by
  have c0 := T.cell0
  have K := hide (rsorted_any vL L w hn T.lst.kids)
  obtain ⟨A, c, rfl, h1, h2, h3⟩ := T.lst.kids
  clear T h1 h2 h3
  go_enter Tryz.func21, Tryz.ntmps21
  go_wp2_with fail
  refine K.out.mono ?_
  rintro e w1 ⟨v, rfl, hv, hb⟩
  have V := hide hv
  have B := hide hb
  clear hv hb
  go_wp2
  go_ret
  exact ⟨_, rfl, V.out, B.out⟩
def KdRel (w : World) (L : List Kd) (n : Int) (v i : Value) (wr : World) : Prop :=
  ∃ k : Nat, k ≤ L.length ∧ i = .int .i64 (k : Int) ∧ OwnKids wr w.heap.size v ((L.take k).filter fun x => x.to == n) ∧ Below w.heap.size w wr
/-- Where the search of a name stands. -/
def FnRel (w : World) (kids : List Kd) (s : List UInt8) (n0 : Int) (v f i : Value) (wr : World) : Prop :=
  ∃ m : Nat, m ≤ kids.length ∧ i = .int .i64 (m : Int) ∧ Below w.heap.size w wr ∧
    ((f = .bool false ∧ v = .int .i64 n0 ∧ (kids.find? fun k => k.nm == s) = (kids.drop m).find? fun k => k.nm == s) ∨ ∃ x : Kd, f = .bool true ∧ v = .int .i64 x.nd ∧ (kids.find? fun k => k.nm == s) = some x)
theorem find_step (kids : List Kd) (s : List UInt8) (m : Nat) (h : m < kids.length) : ((kids.drop m).find? fun k => k.nm == s) = if kids[m].nm = s then some kids[m] else (kids.drop (m + 1)).find? fun k => k.nm == s := by
  rw [List.drop_eq_getElem_cons h, List.find?_cons]
  by_cases e : kids[m].nm = s
  · simp [e]
  · rw [if_neg e, show (kids[m].nm == s) = false from by simpa using e]
end Go.Proofs.YtimfeocaghccdaaGreatDoor
namespace Go.Proofs.YtimfeocaghccdaaGreatDoor
set_option maxRecDepth 100000
open Go.RowKit Go.Maps
set_option linter.unusedVariables false
set_option linter.unusedSimpArgs false
set_option maxRecDepth 100000

/-- Rows that read as lists. -/
def Wl (w : World) : List Value → List (List Kd) → Prop
  | [], [] => True
  | v :: vs, l :: r => OwnKids w 0 v l ∧ Wl w vs r
  | _, _ => False
theorem Wl.len {w : World} : ∀ {vs : List Value} {r : List (List Kd)}, Wl w vs r → vs.length = r.length
  | [], [], _ => rfl
  | v :: vs, l :: r, h => by simp [Wl.len h.2]
  | [], _ :: _, h => h.elim
  | _ :: _, [], h => h.elim
theorem Wl.kept {w w' : World} : ∀ {vs : List Value} {r : List (List Kd)}, Wl w vs r → (∀ v ks, OwnKids w 0 v ks → OwnKids w' 0 v ks) → Wl w' vs r
  | [], [], _, _ => trivial
  | v :: vs, l :: r, h, hk => ⟨hk v l h.1, Wl.kept h.2 hk⟩
  | [], _ :: _, h, _ => h.elim
  | _ :: _, [], h, _ => h.elim
theorem Wl.one {w : World} : ∀ {vs : List Value} {r : List (List Kd)}, Wl w vs r → ∀ v ∈ vs, v.oneCell' = true
  | [], [], _, v, hv => by simp at hv
  | x :: vs, l :: r, h, v, hv => by
    rcases List.mem_cons.1 hv with rfl | hv
    · obtain ⟨A, c, rfl, _⟩ := h.1.form
      rfl
    · exact Wl.one h.2 v hv
  | [], _ :: _, h, _, _ => h.elim
  | _ :: _, [], h, _, _ => h.elim
/-- The row of what was. -/
def Wr (w : World) (vW : Value) (vs : List Value) : Prop := w.ownsRow 0 42 1 vW vs.length vs.reverse
/-- The document's tree, whole. -/
structure Rm (w : World) (g : Nat) (vL vW : Value) (vs : List Value) (L : List Kd) (r : List (List Kd)) : Prop where
  rl : Rl w g vL vW L
  row : Wr w vW vs
  was : Wl w vs r
theorem Wr.block {w : World} {vW : Value} {vs : List Value} (h : Wr w vW vs) {b : Nat} (hb : vW.ownBlock = some b) : ∃ cur, w.heap[b]? = some (.cells cur 42 (0, 0)) := by
  rcases h.2 with ⟨rfl, _⟩ | ⟨g, cap, cur, rfl, _, h3, _⟩
  · cases hb
  · cases hb; exact ⟨cur, h3⟩
theorem Wr.kept {w w' : World} {vW : Value} {vs : List Value} (h : Wr w vW vs) (hk : ∀ b, vW.ownBlock = some b → w'.heap[b]? = w.heap[b]?) : Wr w' vW vs := by
  refine ⟨h.1, ?_⟩
  rcases h.2 with h0 | ⟨g, cap, cur, rfl, h2, h3, h4⟩
  · exact .inl h0
  · exact .inr ⟨g, cap, cur, rfl, h2, (hk g rfl).trans h3, h4⟩
theorem OwnKids.block {w : World} {base : Nat} {v : Value} {ks : List Kd} (h : OwnKids w base v ks) {b : Nat} (hb : v.ownBlock = some b) : ∃ cur, w.heap[b]? = some (.cells cur 79 (0, 0)) := by
  rcases h.2 with ⟨rfl, _⟩ | ⟨g, cap, cur, rfl, _, h3, _⟩
  · cases hb
  · cases hb; exact ⟨cur, h3⟩
/-- What a change to the tree's own blocks leaves: all rows of nodes. -/
theorem Rm.kids {w w' : World} {g : Nat} {vL vW : Value} {vs : List Value} {L : List Kd} {r : List (List Kd)} (h : Rm w g vL vW vs L r) (hm : Mod (g :: vW.ownBlock.toList) w w') (v : Value) (ks : List Kd) (hk : OwnKids w 0 v ks) : OwnKids w' 0 v ks :=
  hk.mod hm fun b hb hf => by
    obtain ⟨cur, hc⟩ := hk.block hb
    rcases List.mem_cons.1 hf with rfl | hf
    · rw [h.rl.blk] at hc
      simp at hc
    · obtain ⟨cu, hcu⟩ := h.row.block (b := b) (by simpa using hf)
      rw [hcu] at hc
      simp at hc
theorem Rm.lt {w : World} {g : Nat} {vL vW : Value} {vs : List Value} {L : List Kd} {r : List (List Kd)} (h : Rm w g vL vW vs L r) : ∀ k ∈ g :: vW.ownBlock.toList, k < w.heap.size := fun k hk => by
  rcases List.mem_cons.1 hk with rfl | hk
  · exact h.rl.lt
  · obtain ⟨cur, hc⟩ := h.row.block (b := k) (by simpa using hk)
    exact (Array.getElem?_eq_some_iff.1 hc).1
theorem Rm.below {w w' : World} {g : Nat} {vL vW : Value} {vs : List Value} {L : List Kd} {r : List (List Kd)} (h : Rm w g vL vW vs L r) (hb : Below w.heap.size w w') : Rm w' g vL vW vs L r :=
  ⟨h.rl.below hb, h.row.kept fun b hb' => hb.block _ (h.lt b (by simp [hb'])), h.was.kept fun v ks hk => hk.below hb⟩
theorem slinfo : (Tryz.prog.info? 42).map (fun i => (i.zero, i.size, i.bytes)) = some (some (.slice none 0 0), 1, 24) := by kernel_rfl
/-- What Apply and Undo leave. -/
def RmRet (v : Value) (g : Nat) (L : List Kd) (r : List (List Kd)) (fs : List Nat) (w : World) (e : Ending) (w' : World) : Prop :=
  e = .returned v ∧ ∃ vL vW vs, Rm w' g vL vW vs L r ∧ Mod fs w w' ∧ ∀ k ∈ g :: vW.ownBlock.toList, k ∈ fs ∨ w.heap.size ≤ k
set_option maxHeartbeats 2000000 in
theorem rapply_wrong (g : Nat) (o : O5) (hl : o.l.length ≤ 1000) (hR : o.R = false) (w : World) :
    Calls Tryz.prog 42 #[.pointer (some ⟨g, 0, none⟩), opv o.n o.r o.d o.t o.l] w (BoolRet false w) := by
  have K := hide (orefRight_any o.n o.r o.d o.t o.l (w.alloc (.cells #[.int .i64 o.n, .int .i64 o.r, .int .i64 o.d, .int .i64 o.t, .string (bs o.l)] 50)) hl)
  have e : opR o.n o.r o.d o.t o.l = false := hR
  rw [e] at K
  clear e hR
  unfold opv at K ⊢
  go_enter Tryz.func42, Tryz.ntmps42
  go_wp2_with fail
  refine K.out.mono ?_
  rintro e w1 ⟨rfl, hb⟩
  have B := hide (((Below.refl w.heap.size w).alloc (Nat.le_refl _) _).trans (hb.mono (by simp)))
  clear hb
  go_wp2
  go_ret
  exact ⟨rfl, B.out⟩
end Go.Proofs.YtimfeocaghccdaaGreatDoor
namespace Go.Proofs.YtimfeocaghccdaaGreatDoor
set_option maxRecDepth 100000
open Go.RowKit Go.Maps
set_option linter.unusedVariables false
set_option linter.unusedSimpArgs false
set_option maxRecDepth 100000

def RapRel (w w1 : World) (g : Nat) (vL vW : Value) (vs : List Value) (L : List Kd) (r : List (List Kd)) (o : O5) (fs : List Nat) (wx : World) : Prop :=
  ∃ gx cx, Rm wx g vL (.slice (some ⟨gx, 0, none⟩) (vs.length + 1) cx) (vL :: vs) L (L :: r) ∧ wx.heap[w.heap.size]? = some (.cells #[.int .i64 o.n, .int .i64 o.r, .int .i64 o.d, .int .i64 o.t, .string (bs o.l)] 50 (0, 0)) ∧ Mod fs w wx ∧ (vW.ownBlock = some gx ∨ gx = w1.heap.size + 1)
theorem rap_end {w w1 w2 : World} {g : Nat} {vL vW : Value} {vs : List Value} {L : List Kd} {r : List (List Kd)} {o : O5} {fs : List Nat} {gx cx : Nat} {ob : Obj}
    (hT : Rm w1 g vL vW vs L r) (hX : w1.heap[w.heap.size]? = some (.cells #[.int .i64 o.n, .int .i64 o.r, .int .i64 o.d, .int .i64 o.t, .string (bs o.l)] 50 (0, 0))) (hM : Mod fs w w1) (hfs : fs = g :: vW.ownBlock.toList) (hlt : ∀ k ∈ fs, k < w.heap.size)
    (hown : w2.ownsRow 0 42 1 (.slice (some ⟨gx, 0, none⟩) (vs.length + 1) cx) (vs.length + 1) (vs.reverse ++ [vL])) (hgr : (w1.alloc ob).drew.grownBy w2 vW.ownBlock) (hat : vW.ownBlock = some gx ∨ gx = w1.heap.size + 1) :
    RapRel w w1 g vL vW vs L r o fs (w2.setCell ⟨g, 1, none⟩ (.slice (some ⟨gx, 0, none⟩) (vs.length + 1) cx)) := by
  have lw : w.heap.size < w1.heap.size := (Array.getElem?_eq_some_iff.1 hX).1
  have lg := hT.rl.lt
  have hgs := hlt g (by rw [hfs]; simp)
  have M2 : Mod fs w1 w2 := (((Mod.refl fs w1).alloc ob).drew).trans (fs' := vW.ownBlock.toList) (Mod.of_grown hgr (fun k hk => by rw [hk]; simp)) (fun k hk => .inl (by rw [hfs]; simp [hk]))
  have MX : Mod fs w1 (w2.setCell ⟨g, 1, none⟩ (.slice (some ⟨gx, 0, none⟩) (vs.length + 1) cx)) := M2.setCell (.inl (by rw [hfs]; simp)) _
  have hgW : vW.ownBlock ≠ some g := by
    intro e
    obtain ⟨cu, hcu⟩ := hT.row.block e
    rw [hT.rl.blk] at hcu
    simp at hcu
  have hb2 : w2.heap[g]? = some (.cells #[vL, vW] 84 (0, 0)) :=
    ((hgr.block g (by show g < (w1.alloc ob).heap.size; simp; omega) (fun e => hgW e.symm)).trans (Below.heap_alloc w1 _ g lg)).trans hT.rl.blk
  have hgx : gx ≠ g := by
    rintro rfl
    rcases hown.2 with ⟨e, _⟩ | ⟨g', cap, cur, e, _, h3, _⟩
    · cases e
    · cases e
      rw [hb2] at h3
      simp at h3
  rw [hfs] at MX
  have hk := fun v ks h => hT.kids MX v ks h
  refine ⟨gx, cx, ⟨⟨?_, hk _ _ hT.rl.lst⟩, ?_, hk _ _ hT.rl.lst, hT.was.kept hk⟩, ?_, ?_, hat⟩
  · exact block_set1 hb2
  · show World.ownsRow _ 0 42 1 _ (vs.length + 1) (vL :: vs).reverse
    rw [List.reverse_cons]
    refine ⟨hown.1, ?_⟩
    rcases hown.2 with ⟨e, _⟩ | ⟨g', cap, cur, e, h2, h3, h4⟩
    · cases e
    · cases e
      exact .inr ⟨gx, cx, cur, rfl, h2, (Below.heap_setCell w2 _ _ gx (by show gx ≠ g; exact hgx)).trans h3, h4⟩
  · rw [MX.block _ lw (fun hkk => by have := hlt _ (by rw [hfs]; exact hkk); omega)]
    exact hX
  · rw [← hfs] at MX
    exact hM.trans MX (fun k hk => .inl hk)
theorem news_one (w : World) (v : Value) (t : TypeId) : ∀ j u, [v][j]? = some u → (w.alloc (.cells #[v] t)).cell? ((⟨w.heap.size, 0, none⟩ : Addr).add j) = some u := by
  intro j u hu
  rw [Addr.add_lit, Nat.zero_add, cell_of_row _ w.heap.size j _ _ (0, 0) (heap_alloc_new w _)]
  simpa using hu
theorem block_set0 {w : World} {g : Nat} {a b c : Value} {t : TypeId} (h : w.heap[g]? = some (.cells #[a, b] t (0, 0))) : (w.setCell ⟨g, 0, none⟩ c).heap[g]? = some (.cells #[c, b] t (0, 0)) := by
  have := Joins.block_setCell (i := 0) h c
  simpa using this
/-- Another list is put in. -/
theorem Rm.set_list {w : World} {g : Nat} {vL vW v' : Value} {vs : List Value} {L M : List Kd} {r : List (List Kd)} (h : Rm w g vL vW vs L r) (hk : OwnKids w 0 v' M) : Rm (w.setCell ⟨g, 0, none⟩ v') g v' vW vs M r := by
  have hm : Mod (g :: vW.ownBlock.toList) w (w.setCell ⟨g, 0, none⟩ v') := (Mod.refl _ _).setCell (.inl (by simp)) _
  refine ⟨⟨block_set0 h.rl.blk, h.kids hm _ _ hk⟩, h.row.kept fun b hb => Below.heap_setCell _ _ _ _ ?_, h.was.kept (h.kids hm)⟩
  show b ≠ g
  rintro rfl
  obtain ⟨cu, hcu⟩ := h.row.block hb
  rw [h.rl.blk] at hcu
  simp at hcu
def RfRel (w : World) (L : List Kd) (n : Int) (v i : Value) (wr : World) : Prop :=
  ∃ k : Nat, k ≤ L.length ∧ i = .int .i64 (k : Int) ∧ OwnKids wr w.heap.size v ((L.take k).filter fun x => x.nd != n) ∧ Below w.heap.size w wr
set_option maxHeartbeats 4000000 in
theorem rapply_right (g : Nat) (vL vW : Value) (vs : List Value) (L : List Kd) (r : List (List Kd)) (o : O5) (hl : o.l.length ≤ 1000) (hR : o.R = true) (hL : L.length ≤ 900) (hr : vs.length ≤ 900) (w : World) (h : Rm w g vL vW vs L r) :
    Calls Tryz.prog 42 #[.pointer (some ⟨g, 0, none⟩), opv o.n o.r o.d o.t o.l] w (RmRet (.bool (can L o)) g (app L o) (L :: r) (g :: vW.ownBlock.toList) w) := by
  have K := hide (orefRight_any o.n o.r o.d o.t o.l (w.alloc (.cells #[.int .i64 o.n, .int .i64 o.r, .int .i64 o.d, .int .i64 o.t, .string (bs o.l)] 50)) hl)
  have e : opR o.n o.r o.d o.t o.l = true := hR
  rw [e] at K
  clear e
  obtain ⟨fs, hfs⟩ : ∃ fs, fs = g :: vW.ownBlock.toList := ⟨_, rfl⟩
  rw [← hfs]
  have HFS := hide hfs
  have HBX := hide (heap_alloc_new w (.cells #[.int .i64 o.n, .int .i64 o.r, .int .i64 o.d, .int .i64 o.t, .string (bs o.l)] 50))
  have Bz := (Below.refl w.heap.size w).alloc (Nat.le_refl _) (.cells #[.int .i64 o.n, .int .i64 o.r, .int .i64 o.d, .int .i64 o.t, .string (bs o.l)] 50)
  have HT0 := hide (h.below Bz)
  have HLT := hide (show ∀ k ∈ fs, k < w.heap.size by rw [hfs]; exact h.lt)
  have HB0 := hide Bz
  have sz1 : w.heap.size < (w.alloc (.cells #[.int .i64 o.n, .int .i64 o.r, .int .i64 o.d, .int .i64 o.t, .string (bs o.l)] 50)).heap.size := by simp
  clear Bz h hR hfs
  unfold opv at K ⊢
  go_enter Tryz.func42, Tryz.ntmps42
  go_wp2_with fail
  refine K.out.mono ?_
  rintro e w1 ⟨rfl, hb⟩
  have HX1 := hide ((hb.block _ sz1).trans HBX.out)
  have HT := hide (HT0.out.below hb)
  have HM := hide (Mod.of_below (fs := fs) (HB0.out.trans (hb.mono (Nat.le_of_lt sz1))))
  clear hb HBX HT0 HB0 K sz1
  have c0 := HT.out.rl.cell0
  have c1 := HT.out.rl.cell1
  have f1 := Joins.unfrozen_of_block HT.out.rl.blk 1
  have lg := HT.out.rl.lt
  obtain ⟨A, c, rfl, k1, k2, k3⟩ := HT.out.rl.lst.kids
  clear k1 k2 k3
  obtain ⟨i0, hi0, hz0, hz1, hz2⟩ := info_parts slinfo
  have HP := hide (show w1.drew.ownsRow 0 42 1 vW vs.length vs.reverse from HT.out.row.kept (fun _ _ => rfl))
  have HNW := hide (news_one w1.drew (.slice A L.length c) 42)
  have HXS := hide (show ([Value.slice A L.length c] : List Value).length = 1 * 1 from rfl)
  have HX2 := hide (show ∀ u ∈ [Value.slice A L.length c], u.oneCell' = true by simp [Value.oneCell'])
  have c1a := (HT.out.below ((Below.refl _ _).alloc (Nat.le_refl _) (.cells #[.slice A L.length c] 42))).rl.cell1
  have c0a := (HT.out.below ((Below.refl _ _).alloc (Nat.le_refl _) (.cells #[.slice A L.length c] 42))).rl.cell0
  have KE := hide (fun w2 gx cx => rap_end (o := o) (w := w) (w2 := w2) (gx := gx) (cx := cx) (ob := .cells #[.slice A L.length c] 42) HT.out HX1.out HM.out HFS.out HLT.out)
  have HBG := hide HT.out.rl.blk
  have NX := hide (show ∀ b, vW.ownBlock = some b → b ≠ g from fun b hb e => by
    subst e
    obtain ⟨cu, hcu⟩ := HT.out.row.block hb
    rw [HT.out.rl.blk] at hcu
    simp at hcu)
  go_upto_region 4 with (fail)
  go_cut [4] (fun s4 wx => s4 = .bool false ∧ RapRel w w1 g (.slice A L.length c) vW vs L r o fs wx)
  case first =>
    go_region_law (refine step_append_lies _ (by rfl) _ _ _ (by rfl) 0 42 i0 _ 1 24 Tryz.underlying82 hi0 hz0 hz1 hz2 rfl (by omega) vW vs.length vs.reverse (by rfl) (HP.out.alloc _) ⟨w1.heap.size, 0, none⟩ 1 1 [.slice A L.length c] (by rfl) HXS.out HNW.out HX2.out (by omega) (by simp only [maxLen]; omega) (by omega) (Nat.zero_le _) (w1.heap.size + 1) (by simp) ?_
                   intro gx cx w2 hown2 hgrow2 hat2 hlt2
                   have hg2 := ((hgrow2.block g (by simp; omega) (fun e => NX.out g e.symm rfl)).trans (Below.heap_alloc w1 _ g lg)).trans HBG.out
                   have k1 := cell_of_row _ _ 1 _ _ (0, 0) hg2
                   have fk := Joins.unfrozen_of_block hg2 1
                   simp at k1
                   have HE := hide (KE.out w2 gx cx hown2 hgrow2 hat2)
                   clear hg2 hown2 hat2 hgrow2)
    all_goals
      go_wp2_with fail
      go_meet
      exact ⟨rfl, HE.out⟩
  case rest =>
    obtain ⟨rfl, gx, cx, T3, X3, M3, A3⟩ := hcut
    clear c0 c1 f1 HP HNW HXS HX2 hi0 hz0 hz1 hz2 c1a c0a KE HBG NX
    rename World => wc
    have HT3 := hide T3
    have HM3 := hide M3
    have HX3 := hide X3
    have HA := hide (show ∀ k ∈ g :: (Value.slice (some ⟨gx, 0, none⟩) (vs.length + 1) cx).ownBlock.toList, k ∈ fs ∨ w.heap.size ≤ k from fun k hk => by
      have lw : w.heap.size < w1.heap.size := (Array.getElem?_eq_some_iff.1 HX1.out).1
      rcases List.mem_cons.1 hk with rfl | hk
      · exact .inl (by rw [HFS.out]; simp)
      · have e : k = gx := by simpa [Value.ownBlock] using hk
        subst e
        rcases A3 with h | h
        · exact .inl (by rw [HFS.out]; simp [h])
        · exact .inr (by omega))
    have KN := hide (rknown_any g _ _ L o.t (by omega) wc T3.rl)
    have KA := hide (rabove_any g _ _ L o.d o.t (by omega) wc T3.rl)
    have lx : w.heap.size < wc.heap.size := (Array.getElem?_eq_some_iff.1 X3).1
    have y2 := cell_of_row _ _ 2 _ _ (0, 0) X3
    have y3 := cell_of_row _ _ 3 _ _ (0, 0) X3
    simp at y2 y3
    clear T3 X3 M3 A3 HX1 HT HM lg
    go_wp2_with fail
    refine KN.out.mono ?_
    rintro e w4 ⟨rfl, hw⟩
    subst hw
    go_wp2_with fail
    refine KA.out.mono ?_
    rintro e w5 ⟨rfl, hw⟩
    subst hw
    clear KN KA
    cases hc : can L o with
    | false =>
      have EC := hide hc
      have EA := hide (show app L o = L by unfold app; rw [hc]; simp)
      have hkb : isKn L o.t = false ∨ abv L o.d o.t = true := by
        unfold can at hc
        cases h1 : isKn L o.t with
        | false => exact .inl rfl
        | true => rw [h1] at hc; exact .inr (by simpa using hc)
      clear hc
      cases h1 : isKn L o.t with
      | false =>
        generalize abv L o.d o.t = bb
        clear h1 hkb
        go_wp2
        go_ret
        exact ⟨by rw [EC.out]; rfl, _, _, _, by rw [EA.out]; exact HT3.out, HM3.out, HA.out⟩
      | true =>
        have h2 : abv L o.d o.t = true := by
          rcases hkb with h | h
          · rw [h1] at h; cases h
          · exact h
        rw [h2]
        clear h1 h2 hkb
        go_wp2
        go_ret
        exact ⟨by rw [EC.out]; rfl, _, _, _, by rw [EA.out]; exact HT3.out, HM3.out, HA.out⟩
    | true =>
      have EC := hide hc
      obtain ⟨h1, h2⟩ := can_t hc
      have EA := hide (show app L o = L.filter (fun k => k.nd != o.d) ++ [o.kd] by unfold app; rw [hc]; simp [putS])
      rw [h1, h2]
      clear hc h1 h2
      obtain ⟨A9, c9, he, h1, h2, h3⟩ := HT3.out.rl.lst.kids
      cases he
      have H3 := hide h3
      unfold maxLen at h2
      clear h3
      go_wp2_with fail
      go_loopw [8, 9] (RfRel w5 L o.d) (fun _ i _ => L.length - (intOf i).toNat)
      case atStart => exact ⟨0, Nat.zero_le _, rfl, OwnKids.nil _ _, Below.refl _ _⟩
      case round =>
        rename World => wi
        obtain ⟨k, hk, rfl, ho, hb⟩ := hrel
        have O := hide ho
        have B := hide hb
        have sz := hb.size
        have TI := hide (HT3.out.below hb)
        have d0 := TI.out.rl.cell0
        have XI := (hb.block _ lx).trans HX3.out
        have z2 := cell_of_row _ _ 2 _ _ (0, 0) XI
        have z3 := cell_of_row _ _ 3 _ _ (0, 0) XI
        have z4 := cell_of_row _ _ 4 _ _ (0, 0) XI
        simp at z2 z3 z4
        clear ho hb XI y2 y3
        by_cases hlt : k < L.length
        · obtain ⟨b, oo, rfl, hat⟩ := H3.out (by omega)
          obtain ⟨r0, r1, r2⟩ := (hat.below B.out).three k hlt
          have i1 : (k : Int) < (L.length : Int) := by omega
          have i0 : (0 : Int) ≤ (k : Int) := by omega
          have FS := hide (show (L.take (k + 1)).filter (fun x => x.nd != o.d) = (L.take k).filter (fun x => x.nd != o.d) ++ (if L[k].nd = o.d then [] else [L[k]]) by
            rw [List.take_succ_eq_append_getElem hlt, List.filter_append]
            congr 1
            by_cases e : L[k].nd = o.d
            · simp [e]
            · simp [e])
          have hfl : ((L.take k).filter fun x => x.nd != o.d).length ≤ 1000000 := Nat.le_trans (List.length_filter_le _ _) (by rw [List.length_take]; omega)
          generalize L[k] = x at r0 r1 r2 FS
          generalize (L.take k).filter (fun x => x.nd != o.d) = qs at O FS hfl
          clear hat
          by_cases hx : x.nd = o.d
          · have hx1 : (x.nd != o.d) = false := by simp [hx]
            have hx2 : (x.nd == o.d) = true := by simp [hx]
            have FE := hide (show (L.take (k + 1)).filter (fun x => x.nd != o.d) = qs by rw [FS.out, if_pos hx, List.append_nil])
            clear hx FS
            go_wp2_with fail
            go_region
            go_wp2_with fail
            go_roundw
            case rel => exact ⟨k + 1, by omega, by go_num, by rw [FE.out]; exact O.out.below ((Below.refl _ _).drew), B.out.drew⟩
            case measure => simp [intOf]; omega
          · have hx1 : (x.nd != o.d) = true := by simp [hx]
            have hx2 : (x.nd == o.d) = false := by simp [hx]
            have FE := hide (show (L.take (k + 1)).filter (fun x => x.nd != o.d) = qs ++ [x] by rw [FS.out, if_neg hx])
            clear hx FS
            go_wp2_with fail
            go_region
            have OD := hide (O.out.below (Below.refl wi.heap.size wi).drew)
            have BD := hide B.out.drew
            have TD := (TI.out.below (Below.refl wi.heap.size wi).drew).rl.cell0
            have e0 : wi.drew.cell? ⟨b, oo + k * 3, none⟩ = _ := r0
            have e1 : wi.drew.cell? ⟨b, oo + k * 3 + 1, none⟩ = _ := r1
            have e2 : wi.drew.cell? ⟨b, oo + k * 3 + 2, none⟩ = _ := r2
            have szd : w5.heap.size ≤ wi.drew.heap.size := sz
            clear O B TI d0 z2 z3 z4 r0 r1 r2 sz hx1 hx2
            generalize wi.drew = wd at OD BD TD e0 e1 e2 szd ⊢
            have Bz := (Below.refl wd.heap.size wd).alloc (Nat.le_refl _) (.cells #[.int .i64 x.to, .string (bs x.nm), .int .i64 x.nd] 79)
            have O2 := hide (OD.out.below Bz)
            have B2 := hide (BD.out.trans (Bz.mono szd))
            have N2 := hide (kid_new wd x)
            have lz := Bz.size
            clear Bz OD
            go_wp2_with (at_builtin; refine wpList_append_kid _ rfl _ _ rfl w5.heap.size _ qs rfl O2.out ⟨wd.heap.size, 0, none⟩ 1 x rfl N2.out (by omega) (by omega) ?_)
            intro v6 w6 hown6 hg6 hat6
            have O6 := hide hown6
            have B6 := hide (B2.out.grown hg6 (by omega) (fun k hk => (O2.out.lt hk).1))
            clear hown6 hg6 hat6 O2 B2 N2 e0 e1 e2 TD
            go_wp2_with fail
            go_roundw
            case rel => exact ⟨k + 1, by omega, by go_num, by rw [FE.out]; exact O6.out, B6.out⟩
            case measure => simp [intOf]; omega
        · obtain rfl : k = L.length := by omega
          have O1 := O.out
          rw [List.take_length] at O1
          have hfl : (L.filter fun x => x.nd != o.d).length ≤ 1000000 := Nat.le_trans (List.length_filter_le _ _) (by omega)
          have Bz := (Below.refl wi.heap.size wi).alloc (Nat.le_refl _) (.cells #[.int .i64 o.t, .string (bs o.l), .int .i64 o.d] 79)
          have O2 := hide (O1.below Bz)
          have B2 := hide (B.out.trans (Bz.mono sz))
          have N2 := hide (kid_new wi o.kd)
          have lz := Bz.size
          clear Bz O O1
          go_wp2_with (at_builtin; refine wpList_append_kid _ rfl _ _ rfl w5.heap.size _ (L.filter fun x => x.nd != o.d) rfl O2.out ⟨wi.heap.size, 0, none⟩ 1 o.kd rfl N2.out hfl (by omega) ?_)
          intro v6 w6 hown6 hg6 hat6
          rw [← EA.out] at hown6
          obtain ⟨A6, c6, rfl, _, _, _⟩ := hown6.form
          have O6 := hide (hown6.base (Nat.zero_le _))
          have B6 := hide (B2.out.grown hg6 (by omega) (fun k hk => (O2.out.lt hk).1))
          have T6 := hide (HT3.out.below B6.out)
          have x0 := T6.out.rl.cell0
          have fz := Joins.unfrozen_of_block T6.out.rl.blk 0
          have TF := hide (T6.out.set_list O6.out)
          have MF := hide ((HM3.out.trans (fs' := []) (Mod.of_below B6.out) (by simp)).setCell (p := ⟨g, 0, none⟩) (.inl (by rw [HFS.out]; simp)) (.slice A6 (app L o).length c6))
          clear hown6 hg6 hat6 O2 B2 N2 d0 z2 z3 z4
          go_wp2
          go_ret
          exact ⟨by rw [EC.out]; rfl, _, _, _, TF.out, MF.out, HA.out⟩
end Go.Proofs.YtimfeocaghccdaaGreatDoor
namespace Go.Proofs.YtimfeocaghccdaaGreatDoor
set_option maxRecDepth 100000
open Go.RowKit Go.Maps
set_option linter.unusedVariables false
set_option linter.unusedSimpArgs false
set_option maxRecDepth 100000

/-- The document's tree, made since a world. -/
def Rw (w0 w : World) (g : Nat) (s : St) : Prop := ∃ vL vW vs, Rm w g vL vW vs s.1 s.2 ∧ (∀ k ∈ g :: vW.ownBlock.toList, w0.heap.size ≤ k) ∧ Below w0.heap.size w0 w
theorem Rw.below {w0 w w' : World} {g : Nat} {s : St} (h : Rw w0 w g s) (hb : Below w.heap.size w w') : Rw w0 w' g s := by
  obtain ⟨vL, vW, vs, h1, h2, h3⟩ := h
  exact ⟨vL, vW, vs, h1.below hb, h2, h3.trans (hb.mono h3.size)⟩
theorem Rw.bel {w0 w : World} {g : Nat} {s : St} (h : Rw w0 w g s) : Below w0.heap.size w0 w := by
  obtain ⟨vL, vW, vs, h1, h2, h3⟩ := h
  exact h3
theorem rapply_any (w0 : World) (g : Nat) (s : St) (o : O5) (hl : o.l.length ≤ 1000) (h1 : s.1.length ≤ 900) (h2 : s.2.length ≤ 900) (w : World) (h : Rw w0 w g s) :
    Calls Tryz.prog 42 #[.pointer (some ⟨g, 0, none⟩), opv o.n o.r o.d o.t o.l] w (fun e w' => e = .returned (.bool (apB s o)) ∧ Rw w0 w' g (stp s o)) := by
  cases hR : o.R with
  | false =>
    refine (rapply_wrong g o hl hR w).mono ?_
    rintro e w' ⟨rfl, hb⟩
    refine ⟨by unfold apB; rw [hR]; rfl, ?_⟩
    have e : stp s o = s := by unfold stp; rw [hR]; simp
    rw [e]
    exact h.below hb
  | true =>
    obtain ⟨vL, vW, vs, k1, k2, k3⟩ := h
    have hl2 := k1.was.len
    refine (rapply_right g vL vW vs s.1 s.2 o hl hR h1 (by omega) w k1).mono ?_
    rintro e w' ⟨rfl, vL', vW', vs', r1, r2, r3⟩
    refine ⟨by unfold apB; rw [hR]; rfl, ?_⟩
    have e : stp s o = (app s.1 o, s.1 :: s.2) := by unfold stp; rw [hR]; simp
    rw [e]
    refine ⟨vL', vW', vs', r1, fun k hk => ?_, k3.trans (r2.below k3.size k2)⟩
    rcases r3 k hk with h | h
    · exact k2 k h
    · exact Nat.le_trans k3.size h
def OfRet (w : World) (s : St) (e : Ending) (w' : World) : Prop := ∃ g, e = .returned (.pointer (some ⟨g, 0, none⟩)) ∧ Rw w w' g s
def OfRel (w : World) (g : Nat) (os : List O5) (i : Value) (wr : World) : Prop := ∃ k : Nat, k ≤ os.length ∧ i = .int .i64 (k : Int) ∧ Rw w wr g (runS (os.take k))
theorem Rw.new (w : World) : Rw w (w.alloc (.cells #[.slice none 0 0, .slice none 0 0] 84)) w.heap.size ([], []) :=
  ⟨.slice none 0 0, .slice none 0 0, [], ⟨⟨heap_alloc_new w _, OwnKids.nil _ _⟩, World.ownsRow_nil _ _ _ _, trivial⟩, fun k hk => by simp [Value.ownBlock] at hk; omega, (Below.refl _ _).alloc (Nat.le_refl _) _⟩
set_option maxHeartbeats 1000000 in
theorem rof_any (A : Option Addr) (c : Nat) (os : List O5) (w : World) (hn : os.length ≤ 500) (hm : ∀ o ∈ os, o.l.length ≤ 1000) (h : Ops w A c os) :
    Calls Tryz.prog 20 #[.slice A os.length c] w (OfRet w (runS os)) := by
  have HO := hide h
  have HM := hide hm
  have S1 := hide (show OfRel w w.heap.size os (.int .i64 0) (w.alloc (.cells #[.slice none 0 0, .slice none 0 0] 84)) from ⟨0, Nat.zero_le _, rfl, Rw.new w⟩)
  clear h hm
  go_enter Tryz.func20, Tryz.ntmps20
  go_wp2_with fail
  go_loopw [4] (OfRel w w.heap.size os) (fun i _ => os.length - (intOf i).toNat)
  case atStart => exact S1.out
  case round =>
    rename World => wi
    obtain ⟨k, hk, rfl, hL⟩ := hrel
    have HL := hide hL
    clear hL S1
    by_cases hlt : k < os.length
    · obtain ⟨b, o, rfl, hat⟩ := (HO.out.below HL.out.bel).lit (by omega)
      obtain ⟨c0, c1, c2, c3, c4⟩ := hat.five k hlt
      have HS := hide (show runS (os.take (k + 1)) = stp (runS (os.take k)) os[k] by rw [List.take_succ_eq_append_getElem hlt, runS_snoc])
      have hx := HM.out _ (List.getElem_mem hlt)
      have hr2 : (runS (os.take k)).2.length ≤ 500 := by
        have := runS_len (os.take k)
        simp at this
        omega
      have hr1 : (runS (os.take k)).1.length ≤ 500 := Nat.le_trans (runS_hst (os.take k)).len hr2
      have KA := hide (rapply_any w w.heap.size (runS (os.take k)) os[k] hx (by omega) (by omega) wi HL.out)
      rw [← HS.out] at KA
      generalize os[k] = x at c0 c1 c2 c3 c4 KA hx HS
      clear hat
      go_wp2_with fail
      refine KA.out.mono ?_
      rintro e w2 ⟨rfl, hret⟩
      have HL' := hide hret
      clear hret KA c0 c1 c2 c3 c4
      go_wp2_with fail
      go_roundw
      case rel => exact ⟨k + 1, by omega, by go_num, HL'.out⟩
      case measure => simp [intOf]; omega
    · obtain rfl : k = os.length := by omega
      go_wp2
      go_ret
      refine ⟨_, rfl, ?_⟩
      have := HL.out
      rwa [List.take_length] at this
end Go.Proofs.YtimfeocaghccdaaGreatDoor
namespace Go.Proofs.YtimfeocaghccdaaGreatDoor
open Go.RowKit Go.Maps
set_option linter.unusedVariables false
set_option linter.unusedSimpArgs false
set_option maxRecDepth 100000

/-- With, while it goes on: what is out, and whether the new one is in it. -/
def WthS (L : List O5) (o : O5) (k : Nat) (put : Bool) (out : List O5) : Prop := insF ocF o L = out ++ (if put then L.drop k else insF ocF o (L.drop k)) ∧ out.length ≤ k + (if put then 1 else 0)
theorem wthS_start (L : List O5) (o : O5) : WthS L o 0 false [] := ⟨by simp, by simp⟩
theorem wthS_put {L : List O5} {o : O5} {k : Nat} {out : List O5} (h : WthS L o k false out) (hk : k < L.length) (hc : ocF o L[k] < 0) : WthS L o (k + 1) true (out ++ [o] ++ [L[k]]) := by
  obtain ⟨h1, h2⟩ := h
  refine ⟨?_, by simp at h2 ⊢; omega⟩
  rw [h1, List.drop_eq_getElem_cons hk]
  simp [insF, hc]
theorem wthS_on {L : List O5} {o : O5} {k : Nat} {out : List O5} (h : WthS L o k false out) (hk : k < L.length) (hc : ¬ ocF o L[k] < 0) : WthS L o (k + 1) false (out ++ [L[k]]) := by
  obtain ⟨h1, h2⟩ := h
  refine ⟨?_, by simp at h2 ⊢; omega⟩
  rw [h1, List.drop_eq_getElem_cons hk]
  simp [insF, hc]
theorem wthS_rest {L : List O5} {o : O5} {k : Nat} {out : List O5} (h : WthS L o k true out) (hk : k < L.length) : WthS L o (k + 1) true (out ++ [L[k]]) := by
  obtain ⟨h1, h2⟩ := h
  refine ⟨?_, by simp at h2 ⊢; omega⟩
  rw [h1, List.drop_eq_getElem_cons hk]
  simp
theorem wthS_end {L : List O5} {o : O5} {out : List O5} (h : WthS L o L.length true out) : out = insF ocF o L := by
  rw [h.1]
  simp
theorem wthS_last {L : List O5} {o : O5} {out : List O5} (h : WthS L o L.length false out) : out ++ [o] = insF ocF o L := by
  rw [h.1]
  simp [insF]
/-- The least behind one, so far. -/
def nxS (last : Int) (m n : Int) : Int := if n > last ∧ (m < 0 ∨ n < m) then n else m
def nx (last : Int) (l : List Int) : Int := l.foldl (nxS last) (-1)
theorem nx_snoc (last : Int) (l : List Int) (n : Int) : nx last (l ++ [n]) = nxS last (nx last l) n := by simp [nx]
theorem nxS_or (last m n : Int) : (nxS last m n = n ∧ n > last ∧ (m < 0 ∨ n < m)) ∨ (nxS last m n = m ∧ ¬(n > last ∧ (m < 0 ∨ n < m))) := by
  unfold nxS
  split
  · rename_i h
    exact .inl ⟨rfl, h⟩
  · rename_i h
    exact .inr ⟨rfl, h⟩
theorem nx_ok (last : Int) (hlast : -1 ≤ last) : ∀ (l : List Int) (m : Int), (m = -1 ∨ last < m) → (l.foldl (nxS last) m = -1 ∧ m = -1 ∧ ∀ n ∈ l, ¬ n > last) ∨ (last < l.foldl (nxS last) m ∧ (l.foldl (nxS last) m = m ∨ l.foldl (nxS last) m ∈ l) ∧ (m = -1 ∨ l.foldl (nxS last) m ≤ m) ∧ ∀ n ∈ l, n > last → l.foldl (nxS last) m ≤ n)
  | [], m, h => by
    rcases h with h | h
    · exact .inl ⟨h, h, by simp⟩
    · exact .inr ⟨h, .inl rfl, .inr (Int.le_refl _), by simp⟩
  | n :: l, m, h => by
    rw [List.foldl_cons]
    rcases nxS_or last m n with ⟨e, h5, h6⟩ | ⟨e, h5⟩
    · rw [e]
      rcases nx_ok last hlast l n (.inr h5) with ⟨h1, h2, h3⟩ | ⟨h1, h2, h3, h4⟩
      · omega
      · refine .inr ⟨h1, ?_, ?_, fun x hx hl => ?_⟩
        · rcases h2 with h2 | h2
          · rw [h2]
            exact .inr (List.mem_cons_self ..)
          · exact .inr (List.mem_cons_of_mem _ h2)
        · omega
        · rcases List.mem_cons.1 hx with rfl | hx
          · omega
          · exact h4 x hx hl
    · rw [e]
      rcases nx_ok last hlast l m h with ⟨h1, h2, h3⟩ | ⟨h1, h2, h3, h4⟩
      · refine .inl ⟨h1, h2, fun x hx => ?_⟩
        rcases List.mem_cons.1 hx with rfl | hx
        · omega
        · exact h3 x hx
      · refine .inr ⟨h1, h2.imp id (fun h => List.mem_cons_of_mem _ h), h3, fun x hx hl => ?_⟩
        rcases List.mem_cons.1 hx with rfl | hx
        · omega
        · exact h4 x hx hl
/-- The nodes, rising: those up to one, those behind it. -/
def Cut8 (ns : List Int) (last : Int) (P Q : List Int) : Prop := ups ns = P ++ Q ∧ (∀ x ∈ P, x ≤ last) ∧ (∀ x ∈ Q, last < x) ∧ -1 ≤ last
theorem cut8_start {ns : List Int} (h : ∀ n ∈ ns, 0 ≤ n) : Cut8 ns (-1) [] (ups ns) := ⟨rfl, by simp, fun x hx => by have := h x (mem_ups.1 hx); omega, Int.le_refl _⟩
theorem cut8_none {ns : List Int} {last : Int} {P : List Int} (h : Cut8 ns last P []) : nx last ns = -1 := by
  obtain ⟨h1, h2, h3, h4⟩ := h
  rcases nx_ok last h4 ns (-1) (.inl rfl) with ⟨h5, _⟩ | ⟨h5, h6, _, _⟩
  · exact h5
  · exfalso
    rcases h6 with h6 | h6
    · have e : ns.foldl (nxS last) (-1) = -1 := h6
      omega
    · have : ns.foldl (nxS last) (-1) ∈ ups ns := mem_ups.2 h6
      rw [h1, List.append_nil] at this
      have := h2 _ this
      omega
theorem cut8_next {ns : List Int} {last n : Int} {P Q : List Int} (h : Cut8 ns last P (n :: Q)) : nx last ns = n ∧ Cut8 ns n (P ++ [n]) Q := by
  obtain ⟨h1, h2, h3, h4⟩ := h
  have hs := ups_srt ns
  rw [h1] at hs
  have hq : ∀ x ∈ Q, n < x := fun x hx => cm_lt.1 ((List.pairwise_cons.1 (List.pairwise_append.1 hs).2.1).1 x hx)
  have hn := h3 n (List.mem_cons_self ..)
  have hnm : n ∈ ns := mem_ups.1 (by rw [h1]; simp)
  refine ⟨?_, by rw [h1]; simp, fun x hx => ?_, hq, by omega⟩
  · rcases nx_ok last h4 ns (-1) (.inl rfl) with ⟨h5, _, h6⟩ | ⟨h5, h6, _, h7⟩
    · exact absurd hn (h6 n hnm)
    · have hle := h7 n hnm hn
      have hm : nx last ns ∈ ns := by
        rcases h6 with h6 | h6
        · have e : ns.foldl (nxS last) (-1) = -1 := h6
          omega
        · exact h6
      have hm' : nx last ns ∈ ups ns := mem_ups.2 hm
      have h5' : last < nx last ns := h5
      have hle' : nx last ns ≤ n := hle
      rw [h1] at hm'
      rcases List.mem_append.1 hm' with h8 | h8
      · have := h2 _ h8
        omega
      · rcases List.mem_cons.1 h8 with h8 | h8
        · exact h8
        · have := hq _ h8
          omega
  · rcases List.mem_append.1 hx with hx | hx
    · have := h2 x hx
      omega
    · simp at hx
      omega
theorem topO_take (L : List O5) (k : Nat) (h : k < L.length) : topO (L.take (k + 1)) = max (topO (L.take k)) L[k].n := by
  rw [List.take_succ_eq_append_getElem h, topO_snoc]
end Go.Proofs.YtimfeocaghccdaaGreatDoor
namespace Go.Proofs.YtimfeocaghccdaaGreatDoor
open Go.RowKit Go.Maps
set_option linter.unusedVariables false
set_option linter.unusedSimpArgs false
set_option maxRecDepth 100000

theorem chcs_at : ∀ (l : List Ch) (j i : Nat) (h : j < l.length), i < 7 → (chcs l)[j * 7 + i]? = (chc l[j])[i]?
  | [], j, i, h, _ => by simp at h
  | o :: os, 0, i, h, hi => by
    simp only [chcs, List.map_cons, List.flatten_cons, Nat.zero_mul, Nat.zero_add, List.getElem_cons_zero]
    rw [List.getElem?_append_left (by simpa [chc] using hi)]
  | o :: os, j + 1, i, h, hi => by
    have := chcs_at os j i (by simpa using h) hi
    simp only [chcs, List.map_cons, List.flatten_cons, List.getElem_cons_succ] at this ⊢
    rw [← this, List.getElem?_append_right (by simp [chc]; omega)]
    congr 1
    simp [chc]
    omega
/-- One of the changes can be read. -/
theorem OwnChs.seven {w : World} {base : Nat} {A : Option Addr} {n c : Nat} {l : List Ch} (h : OwnChs w base (.slice A n c) l) (j : Nat) (hj : j < l.length) :
    ∃ b, A = some ⟨b, 0, none⟩ ∧ w.cell? ⟨b, j * 7, none⟩ = some (.int .i64 l[j].1) ∧ w.cell? ⟨b, j * 7 + 1, none⟩ = some (.bool (spI l[j].2.1)) ∧ w.cell? ⟨b, j * 7 + 2, none⟩ = some (.int .i64 (spT l[j].2.1)) ∧ w.cell? ⟨b, j * 7 + 3, none⟩ = some (.string (bs (spN l[j].2.1))) ∧ w.cell? ⟨b, j * 7 + 4, none⟩ = some (.bool (spI l[j].2.2)) ∧ w.cell? ⟨b, j * 7 + 5, none⟩ = some (.int .i64 (spT l[j].2.2)) ∧ w.cell? ⟨b, j * 7 + 6, none⟩ = some (.string (bs (spN l[j].2.2))) := by
  have hrow := h
  rcases h.2 with ⟨h0, h1⟩ | ⟨g, cap, cur, e, hb, hg, hn⟩
  · omega
  · cases e
    have hc : ∀ i u, i < 7 → (chc l[j])[i]? = some u → w.cell? ⟨g, j * 7 + i, none⟩ = some u := fun i u hi hu => by
      have := World.ownsRow.cells (g := g) hrow rfl (j * 7 + i) u ((chcs_at l j i hj hi).trans hu)
      rwa [Addr.add_lit, Nat.zero_add] at this
    exact ⟨g, rfl, hc 0 _ (by omega) rfl, hc 1 _ (by omega) rfl, hc 2 _ (by omega) rfl, hc 3 _ (by omega) rfl, hc 4 _ (by omega) rfl, hc 5 _ (by omega) rfl, hc 6 _ (by omega) rfl⟩
/-- What is told when L became M. -/
def chL (L M : List O5) : List Ch := chs (runS L).1 (runS M).1 (M.map (·.d))
/-- A batch was put; its changes lie in a row apart. -/
def PutC (w0 w : World) (g most : Nat) (L M : List O5) (d : Nat) (fs : List Nat) (e : Ending) (w' : World) : Prop :=
  ∃ A c fs', e = .returned (.tuple #[.int .i64 (d : Int), .slice A (chL L M).length c, .int .i64 0]) ∧ OwnChs w' w.heap.size (.slice A (chL L M).length c) (chL L M) ∧ Lwg w0 w' g most M fs' ∧ Mod fs w w' ∧ ∀ k ∈ fs', k ∈ fs ∨ w.heap.size ≤ k
theorem put_chs (w0 : World) (hE : Env w0) (g most : Nat) (L : List O5) (fs : List Nat) (A : Option Addr) (c : Nat) (os : List O5) (hr : AllR os) (hm : ∀ o ∈ os, o.l.length ≤ maxLen) (hn : L.length + os.length ≤ 800) (hf : (putO L os).length ≤ most) (w : World) (h : Lwg w0 w g most L fs) (hO : Ops w A c os) :
    Calls Tryz.prog 10 #[.pointer (some ⟨g, 0, none⟩), .slice A os.length c] w (PutC w0 w g most L (putO L os) ((putO L os).length - L.length) fs) := by
  have e0 : putE most L os = 0 := by
    unfold putE
    rw [allR_any hr, if_neg (by decide), if_neg (by omega)]
  have eM : putL most L os = putO L os := by unfold putL; rw [if_pos e0]
  refine (put_any w0 hE g most L fs A c os hm hn w h hO).mono ?_
  rintro e w' ⟨v, fs', rfl, hC, hL, hm, hf, -⟩
  rw [eM] at hC hL
  obtain ⟨A', c', rfl⟩ := hC.form
  have h1 := putF_le (f := ocF) os L
  have h2 : (putO L os).length = (putF ocF L os).length := rfl
  refine ⟨A', c', fs', ?_, hC, hL, hm, hf⟩
  rw [eM, e0]
  congr 4
  simp
  omega
/-- Where a node is when so many changes were put in their places. -/
def wantK (A B : List Kd) (D : List Int) (k : Nat) (n : Int) : Option Kd := if n ∈ D.take k then fnd B n else fnd A n
theorem wantK_zero (A B : List Kd) (D : List Int) (n : Int) : wantK A B D 0 n = fnd A n := by simp [wantK]
theorem wantK_skip {A B : List Kd} {D : List Int} {k : Nat} {n : Int} (hk : k < D.length) (h : D[k] ≠ n) : wantK A B D (k + 1) n = wantK A B D k n := by
  unfold wantK
  have : n ∈ D.take (k + 1) ↔ n ∈ D.take k := by
    rw [List.take_succ_eq_append_getElem hk, List.mem_append, List.mem_singleton]
    constructor
    · rintro (h1 | h1)
      · exact h1
      · exact absurd h1.symm h
    · exact .inl
  by_cases e : n ∈ D.take k
  · rw [if_pos e, if_pos (this.2 e)]
  · rw [if_neg e, if_neg (fun h => e (this.1 h))]
theorem wantK_hit {A B : List Kd} {D : List Int} {k : Nat} (hk : k < D.length) : wantK A B D (k + 1) D[k] = fnd B D[k] := by
  unfold wantK
  rw [if_pos]
  rw [List.take_succ_eq_append_getElem hk]
  exact List.mem_append_right _ (List.mem_singleton.2 rfl)
theorem srt_lt {D : List Int} (hs : SrtF cm D) {i j : Nat} (hij : i < j) (hj : j < D.length) : D[i] < D[j] := cm_lt.1 (List.pairwise_iff_getElem.1 hs i j (by omega) hj hij)
theorem wantK_was {A B : List Kd} {D : List Int} (hs : SrtF cm D) {k : Nat} (hk : k < D.length) : wantK A B D k D[k] = fnd A D[k] := by
  unfold wantK
  rw [if_neg]
  intro h
  obtain ⟨i, hi, e⟩ := List.getElem_of_mem h
  rw [List.length_take] at hi
  rw [List.getElem_take] at e
  have := srt_lt hs (show i < k by omega) hk
  omega
/-- What the changes of a batch are. -/
structure ChOk (A B : List Kd) (D : List Int) (C : List Ch) : Prop where
  len : C.length = D.length
  at_ : ∀ k (h : k < D.length), C[k]? = some (D[k], fnd A D[k], fnd B D[k])
  ne : ∀ k (h : k < D.length), fnd A D[k] ≠ fnd B D[k]
  srt : SrtF cm D
  bnd : ∀ n ∈ D, 256 ≤ n ∧ n ≤ 263
  all : ∀ n, wantK A B D D.length n = fnd B n
theorem chL_ok {L M : List O5} (hs : ∀ o ∈ L, o ∈ M) (hb : ∀ o ∈ M, 256 ≤ o.d ∧ o.d ≤ 263) : ChOk (runS L).1 (runS M).1 (dif (runS L).1 (runS M).1 (M.map (·.d))) (chL L M) := by
  have hmem : ∀ k (h : k < (dif (runS L).1 (runS M).1 (M.map (·.d))).length), (dif (runS L).1 (runS M).1 (M.map (·.d)))[k] ∈ dif (runS L).1 (runS M).1 (M.map (·.d)) := fun k h => List.getElem_mem h
  refine ⟨by simp [chL, chs], fun k h => ?_, fun k h => (mem_dif.1 (hmem k h)).2, dif_srt _ _ _, fun n hn => ?_, fun n => ?_⟩
  · unfold chL chs
    rw [List.getElem?_map, List.getElem?_eq_getElem h]
    rfl
  · obtain ⟨o, ho, rfl⟩ := List.mem_map.1 (mem_dif.1 hn).1
    exact hb o ho
  · unfold wantK
    rw [List.take_length]
    by_cases e : n ∈ dif (runS L).1 (runS M).1 (M.map (·.d))
    · rw [if_pos e]
    · rw [if_neg e]
      have := (not_congr (dif_all hs)).1 e
      exact Classical.not_not.1 this
theorem ofT_d (ts : List T5) : ∀ o ∈ ts.map ofT, 256 ≤ o.d ∧ o.d ≤ 263 := by
  intro o ho
  obtain ⟨t, _, rfl⟩ := List.mem_map.1 ho
  show 256 ≤ 256 + (t.c : Int) % 8 ∧ 256 + (t.c : Int) % 8 ≤ 263
  omega
/-- What is where: are two spots of a node one? -/
theorem sp_same {a b : Option Kd} (h : spI a = spI b ∧ spT a = spT b ∧ spN a = spN b) (hn : ∀ x y, a = some x → b = some y → x.nd = y.nd) : a = b := by
  obtain ⟨h1, h2, h3⟩ := h
  cases a with
  | none => cases b with
    | none => rfl
    | some y => simp [spI] at h1
  | some x => cases b with
    | none => simp [spI] at h1
    | some y =>
      have := hn x y rfl rfl
      simp [spT, spN] at h2 h3
      obtain ⟨t1, m1, d1⟩ := x
      obtain ⟨t2, m2, d2⟩ := y
      simp at h2 h3 this
      subst h2 h3 this
      rfl
end Go.Proofs.YtimfeocaghccdaaGreatDoor
namespace Go.Proofs.YtimfeocaghccdaaGreatDoor
open Go.RowKit Go.Maps
set_option linter.unusedVariables false
set_option linter.unusedSimpArgs false
set_option maxRecDepth 100000

/-- The spot that is wanted, in its block. -/
def Wnt (w : World) (b : Nat) (x : Option Kd) : Prop := w.heap[b]? = some (.cells #[.bool (spI x), .int .i64 (spT x), .string (bs (spN x))] 74 (0, 0))
theorem Wnt.cells {w : World} {b : Nat} {x : Option Kd} (h : Wnt w b x) : w.cell? ⟨b, 0, none⟩ = some (.bool (spI x)) ∧ w.cell? ⟨b, 1, none⟩ = some (.int .i64 (spT x)) ∧ w.cell? ⟨b, 2, none⟩ = some (.string (bs (spN x))) := by
  have a0 := cell_of_row _ _ 0 _ _ (0, 0) h
  have a1 := cell_of_row _ _ 1 _ _ (0, 0) h
  have a2 := cell_of_row _ _ 2 _ _ (0, 0) h
  simp at a0 a1 a2
  exact ⟨a0, a1, a2⟩
theorem Wnt.lt {w : World} {b : Nat} {x : Option Kd} (h : Wnt w b x) : b < w.heap.size := (Array.getElem?_eq_some_iff.1 h).1
theorem Wnt.below {w w' : World} {b : Nat} {x : Option Kd} (h : Wnt w b x) (hb : Below w.heap.size w w') : Wnt w' b x := (hb.block _ h.lt).trans h
theorem Wnt.set {w : World} {b : Nat} {x : Option Kd} (h : Wnt w b x) (y : Option Kd) : Wnt (((w.setCell ⟨b, 0, none⟩ (.bool (spI y))).setCell ⟨b, 1, none⟩ (.int .i64 (spT y))).setCell ⟨b, 2, none⟩ (.string (bs (spN y)))) b y := by
  have h1 := Joins.block_setCell (i := 0) h (.bool (spI y))
  have h2 := Joins.block_setCell (i := 1) h1 (.int .i64 (spT y))
  have h3 := Joins.block_setCell (i := 2) h2 (.string (bs (spN y)))
  unfold Wnt
  simpa using h3
theorem Wnt.bel {w0 w : World} {b : Nat} (hb : Below w0.heap.size w0 w) (h0 : w0.heap.size ≤ b) (u v x : Value) : Below w0.heap.size w0 (((w.setCell ⟨b, 0, none⟩ u).setCell ⟨b, 1, none⟩ v).setCell ⟨b, 2, none⟩ x) :=
  ((hb.setCell (p := ⟨b, 0, none⟩) h0 _).setCell (p := ⟨b, 1, none⟩) h0 _).setCell (p := ⟨b, 2, none⟩) h0 _
end Go.Proofs.YtimfeocaghccdaaGreatDoor
namespace Go.Proofs.YtimfeocaghccdaaGreatDoor
open Go.RowKit Go.Maps
set_option linter.unusedVariables false
set_option linter.unusedSimpArgs false
set_option maxRecDepth 100000

theorem op_eql2 (a b : O5) (w : World) : (binOp .eql 50 (.agg #[.int .i64 a.n, .int .i64 a.r, .int .i64 a.d, .int .i64 a.t, .string (bs a.l)]) (.agg #[.int .i64 b.n, .int .i64 b.r, .int .i64 b.d, .int .i64 b.t, .string (bs b.l)])).run Tryz.prog w = .ok (.bool (decide (a = b))) w := by
  rw [← opE_eq]
  exact op_eql a.n a.r a.d a.t a.l b.n b.r b.d b.t b.l w
def HasRel (w : World) (L : List O5) (o : O5) (i : Value) (wr : World) : Prop := ∃ k : Nat, k ≤ L.length ∧ i = .int .i64 (k : Int) ∧ decide (o ∈ L.drop k) = decide (o ∈ L) ∧ Below w.heap.size w wr
theorem has_step (L : List O5) (o : O5) (k : Nat) (h : k < L.length) : decide (o ∈ L.drop k) = (decide (L[k] = o) || decide (o ∈ L.drop (k + 1))) := by
  rw [List.drop_eq_getElem_cons h]
  simp only [List.mem_cons, Bool.decide_or]
  congr 1
  exact decide_eq_decide.2 eq_comm
set_option maxHeartbeats 1000000 in
theorem rhas_any (A : Option Addr) (c : Nat) (L : List O5) (o : O5) (w : World) (hn : L.length ≤ 1000000) (h : Ops w A c L) :
    Calls Tryz.prog 23 #[.slice A L.length c, .agg #[.int .i64 o.n, .int .i64 o.r, .int .i64 o.d, .int .i64 o.t, .string (bs o.l)]] w (BoolRet (decide (o ∈ L)) w) := by
  have Bz := (Below.refl w.heap.size w).alloc (Nat.le_refl _) (.cells #[.int .i64 o.n, .int .i64 o.r, .int .i64 o.d, .int .i64 o.t, .string (bs o.l)] 50)
  have HX := hide (Bo.new w o.n o.r o.d o.t o.l 50)
  have HL := hide (h.below Bz)
  have BZ := hide Bz
  clear h Bz
  go_enter Tryz.func23, Tryz.ntmps23
  go_upto_region 1 with (fail)
  generalize w.alloc (.cells #[.int .i64 o.n, .int .i64 o.r, .int .i64 o.d, .int .i64 o.t, .string (bs o.l)] 50) = w1 at HX HL BZ ⊢
  go_wp2_with fail
  go_loopw [5] (HasRel w1 L o) (fun i _ => L.length - (intOf i).toNat)
  case atStart => exact ⟨0, Nat.zero_le _, rfl, rfl, Below.refl _ _⟩
  case round =>
    obtain ⟨k, hk, rfl, hs, hb⟩ := hrel
    have HS := hide hs
    have BB := hide hb
    have BW := hide (BZ.out.trans (hb.mono BZ.out.size))
    obtain ⟨e0, e1, e2, e3, e4⟩ := HX.out
    have f0 := cellk hb e0
    have f1 := cellk hb e1
    have f2 := cellk hb e2
    have f3 := cellk hb e3
    have f4 := cellk hb e4
    clear hs hb e0 e1 e2 e3 e4
    by_cases hlt : k < L.length
    · obtain ⟨g, p, rfl, hat⟩ := (HL.out.below BB.out).lit (by omega)
      obtain ⟨c0, c1, c2, c3, c4⟩ := hat.five k hlt
      have ST := hide (has_step L o k hlt)
      generalize L[k]'hlt = x at c0 c1 c2 c3 c4 ST
      have hq := op_eql2 x o
      clear hat
      have i1 : (k : Int) < (L.length : Int) := by omega
      have i0 : (0 : Int) ≤ (k : Int) := by omega
      by_cases hxy : x = o
      · have E := hide (show decide (o ∈ L) = true by rw [← HS.out, ST.out, decide_eq_true hxy, Bool.true_or])
        rw [decide_eq_true hxy] at hq
        clear hxy ST
        go_wp2_with fail
        go_quiet (fail)
        go_wp2
        go_ret
        rw [E.out]
        exact ⟨rfl, belowD' BW.out _⟩
      · have E := hide (show decide (o ∈ L.drop (k + 1)) = decide (o ∈ L) by rw [← HS.out, ST.out, decide_eq_false hxy, Bool.false_or])
        rw [decide_eq_false hxy] at hq
        clear hxy ST
        go_wp2_with fail
        go_quiet (fail)
        go_wp2
        go_roundw
        case rel => exact ⟨k + 1, by omega, by go_num, E.out, belowD' BB.out _⟩
        case measure => simp [intOf]; omega
    · obtain rfl : k = L.length := by omega
      have E := hide (show decide (o ∈ L) = false by rw [← HS.out, List.drop_length]; rfl)
      go_wp2
      go_ret
      rw [E.out]
      exact ⟨rfl, BW.out⟩
/-- A row that is made behind a world. -/
structure Wt (w2 : World) (out : List O5) (v : Value) (w : World) : Prop where
  own : OwnOps w w2.heap.size v out
  bel : Below w2.heap.size w2 w
theorem Wt.nil (w : World) : Wt w [] (.slice none 0 0) w := ⟨OwnOps.nil _ _, Below.refl _ _⟩
theorem Wt.below {w2 w w' : World} {out : List O5} {v : Value} (h : Wt w2 out v w) (hb : Below w.heap.size w w') : Wt w2 out v w' := ⟨h.own.below hb, h.bel.trans (hb.mono h.bel.size)⟩
theorem wpList_append_wt (w : World) {W : World} {ops : Array Oper} {rest : List Oper} {o : Oper} {a : Act} {Q : Exit → Act → World → Prop} (hgd : o.guard = none) (s x : Operand)
    (ho : o.op = .call { callee := .builtin .append, args := #[s, x], argTypes := #[27, 27] })
    (w2 : World) (v : Value) (os : List O5) (hs : a.eval s = v) (hw : Wt w2 os v w) (y : O5) (hx : a.eval x = .slice (some ⟨w.heap.size, 0, none⟩) 1 1) (h63 : os.length ≤ 1000000) (hW : W = w.alloc (.cells #[.int .i64 y.n, .int .i64 y.r, .int .i64 y.d, .int .i64 y.t, .string (bs y.l)] 50))
    (h : ∀ A' c' os' w', os ++ [y] = os' → os'.length = os.length + 1 → Wt w2 os' (.slice A' os'.length c') w' → wpList Tryz.prog ops Q rest (a.put o.dst (.slice A' os'.length c')) w') : wpList Tryz.prog ops Q (o :: rest) a W := by
  subst hW
  have bz := (Below.refl w.heap.size w).alloc (Nat.le_refl _) (.cells #[.int .i64 y.n, .int .i64 y.r, .int .i64 y.d, .int .i64 y.t, .string (bs y.l)] 50)
  have hz := hw.below bz
  refine wpList_append_op _ hgd s x ho w2.heap.size v os hs hz.own ⟨w.heap.size, 0, none⟩ 1 y hx (cells_new5 w y) h63 hz.bel.size ?_
  intro v' w' hown hgr
  obtain ⟨A, c, rfl, -⟩ := hown.ops
  exact h A c (os ++ [y]) w' rfl (by simp) ⟨hown, hz.bel.grown hgr hz.bel.size (fun k hk => hz.own.row _ hk)⟩
/-- What With leaves: a list that can be read. -/
def OpsRet (w : World) (A0 : Option Addr) (os : List O5) (e : Ending) (w' : World) : Prop := ∃ A c, e = .returned (.slice A os.length c) ∧ Ops w' A c os ∧ Below w.heap.size w w' ∧ (A = A0 ∨ ∀ b o, A = some ⟨b, o, none⟩ → w.heap.size ≤ b ∧ b < w'.heap.size)
def WtRel (w : World) (L : List O5) (o : O5) (vo vp vi : Value) (wr : World) : Prop :=
  ∃ (k : Nat) (put : Bool) (out : List O5), k ≤ L.length ∧ vp = .bool put ∧ vi = .int .i64 (k : Int) ∧ Wt w out vo wr ∧ WthS L o k put out
set_option maxHeartbeats 2000000 in
theorem rwith_any (A : Option Addr) (c : Nat) (L : List O5) (o : O5) (w : World) (hn : L.length ≤ 100000) (h : Ops w A c L) :
    Calls Tryz.prog 36 #[.slice A L.length c, .agg #[.int .i64 o.n, .int .i64 o.r, .int .i64 o.d, .int .i64 o.t, .string (bs o.l)]] w (OpsRet w A (wthF ocF L o)) := by
  have Bz := (Below.refl w.heap.size w).alloc (Nat.le_refl _) (.cells #[.int .i64 o.n, .int .i64 o.r, .int .i64 o.d, .int .i64 o.t, .string (bs o.l)] 50)
  have HX := hide (Bo.new w o.n o.r o.d o.t o.l 50)
  have HL := hide (h.below Bz)
  have BZ := hide Bz
  clear h Bz
  go_enter Tryz.func36, Tryz.ntmps36
  go_upto_region 1 with (fail)
  generalize w.alloc (.cells #[.int .i64 o.n, .int .i64 o.r, .int .i64 o.d, .int .i64 o.t, .string (bs o.l)] 50) = w1 at HX HL BZ ⊢
  obtain ⟨e0, e1, e2, e3, e4⟩ := HX.out
  go_wp2_with fail
  refine (rhas_any A c L o w1 (by omega) HL.out).mono ?_
  rintro e w2 ⟨rfl, hb2⟩
  have B2 := hide (BZ.out.trans (hb2.mono BZ.out.size))
  have L2 := hide (HL.out.below hb2)
  have F2 := hide (And.intro (cellk hb2 e0) (And.intro (cellk hb2 e1) (And.intro (cellk hb2 e2) (And.intro (cellk hb2 e3) (cellk hb2 e4)))))
  clear hb2 HL HX BZ e0 e1 e2 e3 e4
  by_cases hm : o ∈ L
  · rw [decide_eq_true hm]
    have E := hide (show wthF ocF L o = L by unfold wthF; rw [if_pos hm])
    clear hm
    go_wp2
    go_ret
    rw [E.out]
    exact ⟨A, c, rfl, L2.out, B2.out, .inl rfl⟩
  · rw [decide_eq_false hm]
    have E := hide (show insF ocF o L = wthF ocF L o by unfold wthF; rw [if_neg hm])
    clear hm
    have S0 := hide (show WtRel w2 L o (.slice none 0 0) (.bool false) (.int .i64 0) w2 from ⟨0, false, [], Nat.zero_le _, rfl, rfl, Wt.nil _, wthS_start L o⟩)
    go_wp2_with fail
    go_loopw [6, 7, 8] (WtRel w2 L o) (fun _ _ i _ => L.length - (intOf i).toNat)
    case atStart => exact S0.out
    case round =>
      clear S0
      obtain ⟨k, put, out, hk, rfl, rfl, hO, hS⟩ := hrel
      have HO := hide hO
      have HS := hide hS
      have hb := hO.bel
      obtain ⟨Ao, co, rfl, -⟩ := hO.own.ops
      have hol : out.length ≤ k + 1 := by have := hS.2; split at this <;> omega
      obtain ⟨e0, e1, e2, e3, e4⟩ := F2.out
      have f0 := cellk hb e0
      have f1 := cellk hb e1
      have f2 := cellk hb e2
      have f3 := cellk hb e3
      have f4 := cellk hb e4
      clear hO hS
      by_cases hlt : k < L.length
      · obtain ⟨g, p, rfl, hat⟩ := L2.out.lit (by omega)
        obtain ⟨k0, k1, k2, k3, k4⟩ := hat.five k hlt
        have i1 : (k : Int) < (L.length : Int) := by omega
        have i0 : (0 : Int) ≤ (k : Int) := by omega
        have HP := hide (fun h => wthS_put (L := L) (k := k) (out := out) (o := o) h hlt)
        have HN := hide (fun h => wthS_on (L := L) (k := k) (out := out) (o := o) h hlt)
        have HR := hide (fun h => wthS_rest (L := L) (k := k) (out := out) (o := o) h hlt)
        clear hat
        generalize L[k] = x at k0 k1 k2 k3 k4 HP HN HR
        have c0 := cellk hb k0
        have c1 := cellk hb k1
        have c2 := cellk hb k2
        have c3 := cellk hb k3
        have c4 := cellk hb k4
        clear hb
        cases put with
        | true =>
          have HF := hide (HR.out HS.out)
          clear HP HN HR HS f0 f1 f2 f3 f4 e0 e1 e2 e3 e4 k0 k1 k2 k3 k4
          go_wp2_with fail
          go_quiet (fail)
          go_upto_region 12 with (fail)
          have D1 := hide (HO.out.below (belowD' (Below.refl _ wr) nq))
          have d0 : (wr.drewN nq).cell? ⟨g, p + k * 5, none⟩ = _ := c0
          have d1 : (wr.drewN nq).cell? ⟨g, p + k * 5 + 1, none⟩ = _ := c1
          have d2 : (wr.drewN nq).cell? ⟨g, p + k * 5 + 2, none⟩ = _ := c2
          have d3 : (wr.drewN nq).cell? ⟨g, p + k * 5 + 3, none⟩ = _ := c3
          have d4 : (wr.drewN nq).cell? ⟨g, p + k * 5 + 4, none⟩ = _ := c4
          clear c0 c1 c2 c3 c4 HO
          generalize wr.drewN nq = w3 at D1 d0 d1 d2 d3 d4 ⊢
          go_wp2_with (at_builtin; refine wpList_append_wt w3 rfl _ _ rfl w2 _ out rfl D1.out x rfl (by omega) rfl ?_)
          intro A4 n4 out4 w4 he hl hw
          have E4 := hide he
          have W4 := hide hw
          clear he hl hw d0 d1 d2 d3 d4 D1
          go_wp2_with fail
          go_roundw
          case rel => exact ⟨k + 1, true, out4, by omega, rfl, by go_num, W4.out, by rw [← E4.out]; exact HF.out⟩
          case measure => simp [intOf]; omega
        | false =>
          have KC := hide (fun W => show Calls Tryz.prog 64 #[.agg #[.int .i64 o.n, .int .i64 o.r, .int .i64 o.d, .int .i64 o.t, .string (bs o.l)], .agg #[.int .i64 x.n, .int .i64 x.r, .int .i64 x.d, .int .i64 x.t, .string (bs x.l)]] W (NumRet (ocF o x) W) from orefCmp_any o.n o.r o.d o.t o.l x.n x.r x.d x.t x.l W)
          have hS0 := And.intro (And.intro f0 (And.intro f1 (And.intro f2 (And.intro f3 f4)))) (And.intro c0 (And.intro c1 (And.intro c2 (And.intro c3 c4))))
          have HKK := hide (And.intro (And.intro e0 (And.intro e1 (And.intro e2 (And.intro e3 e4)))) (And.intro k0 (And.intro k1 (And.intro k2 (And.intro k3 k4)))))
          clear e0 e1 e2 e3 e4 k0 k1 k2 k3 k4
          obtain ⟨q, hqq⟩ : ∃ q, ocF o x = q := ⟨_, rfl⟩
          rw [hqq] at KC HP HN
          clear hqq
          by_cases hc : q < 0
          · have HF := hide (HP.out HS.out hc)
            clear HP HN HR HS
            go_wp2_with fail
            go_region_held3 (fun w' => (w'.cell? ⟨w.heap.size, 0, none⟩ = some (.int .i64 o.n) ∧ w'.cell? ⟨w.heap.size, 1, none⟩ = some (.int .i64 o.r) ∧ w'.cell? ⟨w.heap.size, 2, none⟩ = some (.int .i64 o.d) ∧ w'.cell? ⟨w.heap.size, 3, none⟩ = some (.int .i64 o.t) ∧ w'.cell? ⟨w.heap.size, 4, none⟩ = some (.string (bs o.l)))
                ∧ w'.cell? ⟨g, p + k * 5, none⟩ = some (.int .i64 x.n) ∧ w'.cell? ⟨g, p + k * 5 + 1, none⟩ = some (.int .i64 x.r) ∧ w'.cell? ⟨g, p + k * 5 + 2, none⟩ = some (.int .i64 x.d) ∧ w'.cell? ⟨g, p + k * 5 + 3, none⟩ = some (.int .i64 x.t) ∧ w'.cell? ⟨g, p + k * 5 + 4, none⟩ = some (.string (bs x.l)))
              (first | with_reducible exact hS1 | with_reducible exact hS0 | go_keep)
              (first
                | (go_at_call 64
                   (with_reducible refine (KC.out _).mono ?_)
                   rintro e w3 ⟨rfl, hb⟩
                   have hb' : Below wr.heap.size wr w3 := ⟨hb.os, hb.tape, hb.output, hb.size, hb.block⟩
                   have W3 := hide (HO.out.below hb')
                   obtain ⟨⟨e0, e1, e2, e3, e4⟩, k0, k1, k2, k3, k4⟩ := HKK.out
                   have hS1 := And.intro (And.intro (cellk W3.out.bel e0) (And.intro (cellk W3.out.bel e1) (And.intro (cellk W3.out.bel e2) (And.intro (cellk W3.out.bel e3) (cellk W3.out.bel e4))))) (And.intro (cellk W3.out.bel k0) (And.intro (cellk W3.out.bel k1) (And.intro (cellk W3.out.bel k2) (And.intro (cellk W3.out.bel k3) (cellk W3.out.bel k4)))))
                   clear hb hb' e0 e1 e2 e3 e4 k0 k1 k2 k3 k4))
            clear hS0 f0 f1 f2 f3 f4 c0 c1 c2 c3 c4 KC HO
            obtain ⟨⟨f0, f1, f2, f3, f4⟩, -⟩ := hS1
            go_wp2_with (at_builtin; refine wpList_append_wt w3 rfl _ _ rfl w2 _ out rfl W3.out o rfl (by omega) rfl ?_)
            intro A4 n4 out4 w4 he hl hw
            have E4 := hide he
            have W4 := hide hw
            obtain ⟨-, k0, k1, k2, k3, k4⟩ := HKK.out
            have c0 := cellk hw.bel k0
            have c1 := cellk hw.bel k1
            have c2 := cellk hw.bel k2
            have c3 := cellk hw.bel k3
            have c4 := cellk hw.bel k4
            clear he hw f0 f1 f2 f3 f4 k0 k1 k2 k3 k4 W3
            go_wp2_with (at_builtin; refine wpList_append_wt w4 rfl _ _ rfl w2 _ out4 rfl W4.out x rfl (by omega) rfl ?_)
            intro A5 n5 out5 w5 he hl5 hw
            have E5 := hide he
            have W5 := hide hw
            clear he hw hl hl5 c0 c1 c2 c3 c4 W4
            go_wp2_with fail
            go_roundw
            case rel => exact ⟨k + 1, true, out5, by omega, rfl, by go_num, W5.out, by rw [← E5.out, ← E4.out]; exact HF.out⟩
            case measure => simp [intOf]; omega
          · have HF := hide (HN.out HS.out hc)
            clear HP HN HR HS
            go_wp2_with fail
            go_region_held3 (fun w' => (w'.cell? ⟨w.heap.size, 0, none⟩ = some (.int .i64 o.n) ∧ w'.cell? ⟨w.heap.size, 1, none⟩ = some (.int .i64 o.r) ∧ w'.cell? ⟨w.heap.size, 2, none⟩ = some (.int .i64 o.d) ∧ w'.cell? ⟨w.heap.size, 3, none⟩ = some (.int .i64 o.t) ∧ w'.cell? ⟨w.heap.size, 4, none⟩ = some (.string (bs o.l)))
                ∧ w'.cell? ⟨g, p + k * 5, none⟩ = some (.int .i64 x.n) ∧ w'.cell? ⟨g, p + k * 5 + 1, none⟩ = some (.int .i64 x.r) ∧ w'.cell? ⟨g, p + k * 5 + 2, none⟩ = some (.int .i64 x.d) ∧ w'.cell? ⟨g, p + k * 5 + 3, none⟩ = some (.int .i64 x.t) ∧ w'.cell? ⟨g, p + k * 5 + 4, none⟩ = some (.string (bs x.l)))
              (first | with_reducible exact hS1 | with_reducible exact hS0 | go_keep)
              (first
                | (go_at_call 64
                   (with_reducible refine (KC.out _).mono ?_)
                   rintro e w3 ⟨rfl, hb⟩
                   have hb' : Below wr.heap.size wr w3 := ⟨hb.os, hb.tape, hb.output, hb.size, hb.block⟩
                   have W3 := hide (HO.out.below hb')
                   obtain ⟨⟨e0, e1, e2, e3, e4⟩, k0, k1, k2, k3, k4⟩ := HKK.out
                   have hS1 := And.intro (And.intro (cellk W3.out.bel e0) (And.intro (cellk W3.out.bel e1) (And.intro (cellk W3.out.bel e2) (And.intro (cellk W3.out.bel e3) (cellk W3.out.bel e4))))) (And.intro (cellk W3.out.bel k0) (And.intro (cellk W3.out.bel k1) (And.intro (cellk W3.out.bel k2) (And.intro (cellk W3.out.bel k3) (cellk W3.out.bel k4)))))
                   clear hb hb' e0 e1 e2 e3 e4 k0 k1 k2 k3 k4))
            clear hS0 f0 f1 f2 f3 f4 c0 c1 c2 c3 c4 KC HO
            obtain ⟨-, c0, c1, c2, c3, c4⟩ := hS1
            go_wp2_with (at_builtin; refine wpList_append_wt w3 rfl _ _ rfl w2 _ out rfl W3.out x rfl (by omega) rfl ?_)
            intro A5 n5 out5 w5 he hl5 hw
            have E5 := hide he
            have W5 := hide hw
            clear he hw hl5 c0 c1 c2 c3 c4 W3
            go_wp2_with fail
            go_roundw
            case rel => exact ⟨k + 1, false, out5, by omega, rfl, by go_num, W5.out, by rw [← E5.out]; exact HF.out⟩
            case measure => simp [intOf]; omega
      · obtain rfl : k = L.length := by omega
        clear hb e0 e1 e2 e3 e4
        cases put with
        | true =>
          have E1 := hide ((wthS_end HS.out).trans E.out)
          have BF := hide (B2.out.trans (HO.out.bel.mono B2.out.size))
          clear HS E
          go_wp2
          go_ret
          obtain ⟨A', c', e, h⟩ := HO.out.own.ops
          cases e
          exact ⟨_, _, by rw [← E1.out]; rfl, by rw [← E1.out]; exact h, BF.out, .inr (fun b o e => by subst e; exact ⟨Nat.le_trans B2.out.size (HO.out.own.row _ rfl), HO.out.own.lt rfl⟩)⟩
        | false =>
          have E1 := hide ((wthS_last HS.out).trans E.out)
          clear HS E
          go_wp2_with (at_builtin; refine wpList_append_wt wr rfl _ _ rfl w2 _ out rfl HO.out o rfl (by omega) rfl ?_)
          intro A4 n4 out4 w4 he hl hw
          have E4 := hide (he.symm.trans E1.out)
          have W4 := hide hw
          have BF := hide (B2.out.trans (hw.bel.mono B2.out.size))
          clear he hl hw HO E1 f0 f1 f2 f3 f4
          go_wp2
          go_ret
          obtain ⟨A', c', e, h⟩ := W4.out.own.ops
          cases e
          exact ⟨_, _, by rw [← E4.out]; rfl, by rw [← E4.out]; exact h, BF.out, .inr (fun b o e => by subst e; exact ⟨Nat.le_trans B2.out.size (W4.out.own.row _ rfl), W4.out.own.lt rfl⟩)⟩
end Go.Proofs.YtimfeocaghccdaaGreatDoor
namespace Go.Proofs.YtimfeocaghccdaaGreatDoor
open Go.RowKit Go.Maps
set_option linter.unusedVariables false
set_option linter.unusedSimpArgs false
set_option maxRecDepth 100000

/-- The document's log in a block. -/
structure RLg (w : World) (g most : Nat) (A : Option Addr) (c : Nat) (L : List O5) : Prop where
  blk : w.heap[g]? = some (.cells #[.int .i64 (most : Int), .slice A L.length c] 29 (0, 0))
  ops : Ops w A c L
theorem RLg.lt {w : World} {g most : Nat} {A : Option Addr} {c : Nat} {L : List O5} (h : RLg w g most A c L) : g < w.heap.size := (Array.getElem?_eq_some_iff.1 h.blk).1
theorem RLg.below {w w' : World} {g most : Nat} {A : Option Addr} {c : Nat} {L : List O5} (h : RLg w g most A c L) (hb : Below w.heap.size w w') : RLg w' g most A c L := ⟨(hb.block _ h.lt).trans h.blk, h.ops.below hb⟩
theorem RLg.cell0 {w : World} {g most : Nat} {A : Option Addr} {c : Nat} {L : List O5} (h : RLg w g most A c L) : w.cell? ⟨g, 0, none⟩ = some (.int .i64 (most : Int)) := cell_of_row w g 0 _ _ (0, 0) h.blk
theorem RLg.cell1 {w : World} {g most : Nat} {A : Option Addr} {c : Nat} {L : List O5} (h : RLg w g most A c L) : w.cell? ⟨g, 1, none⟩ = some (.slice A L.length c) := cell_of_row w g 1 _ _ (0, 0) h.blk
def TopRel (w : World) (L : List O5) (v i : Value) (wr : World) : Prop := ∃ k : Nat, k ≤ L.length ∧ i = .int .i64 (k : Int) ∧ v = .int .i64 (topO (L.take k)) ∧ Below w.heap.size w wr
set_option maxHeartbeats 1000000 in
theorem rtop_any (g most : Nat) (A : Option Addr) (c : Nat) (L : List O5) (hn : L.length ≤ 1000000) (w : World) (h : RLg w g most A c L) :
    Calls Tryz.prog 17 #[.pointer (some ⟨g, 0, none⟩)] w (NumRet (topO L) w) := by
  have HL := hide h
  clear h
  have S0 := hide (show TopRel w L (.int .i64 0) (.int .i64 0) w from ⟨0, Nat.zero_le _, rfl, rfl, Below.refl _ _⟩)
  go_enter Tryz.func17, Tryz.ntmps17
  go_wp2_with fail
  go_loopw [3, 4] (TopRel w L) (fun _ i _ => L.length - (intOf i).toNat)
  case atStart => exact S0.out
  case round =>
    clear S0
    obtain ⟨k, hk, rfl, rfl, hb⟩ := hrel
    have HB := hide hb
    have q1 := (HL.out.below hb).cell1
    by_cases hlt : k < L.length
    · obtain ⟨b, o, rfl, hat⟩ := (HL.out.below hb).ops.lit (by omega)
      obtain ⟨c0, -⟩ := hat.five k hlt
      have HT := hide (topO_take L k hlt)
      have i1 : (k : Int) < (L.length : Int) := by omega
      have i0 : (0 : Int) ≤ (k : Int) := by omega
      clear hat hb
      generalize L[k] = x at c0 HT
      generalize topO (L.take k) = t at HT ⊢
      go_wp2_with fail
      go_roundw
      case rel => exact ⟨k + 1, by omega, by go_num, by rw [HT.out], HB.out⟩
      case measure => simp [intOf]; omega
    · obtain rfl : k = L.length := by omega
      clear hb
      have E := hide (show topO (L.take L.length) = topO L by rw [List.take_length])
      generalize topO (L.take L.length) = t at E ⊢
      go_wp2
      go_ret
      rw [E.out]
      exact ⟨rfl, HB.out⟩
theorem sp_eqIn (dp : Nat) (x : Bool) (a : Int) (l : List UInt8) (w : World) :
    (Op.equalIn (dp + 1 + 1) 74 (.agg #[.bool x, .int .i64 a, .string (bs l)]) (.agg #[.bool x, .int .i64 a, .string (bs l)])).run Tryz.prog w = .ok true w := by
  have u3 := Tryz.underlying3
  have a3 := Tryz.isAgg3
  have z3 := Tryz.sizeOf3
  have u9 := Tryz.underlying9
  have a9 := Tryz.isAgg9
  have z9 := Tryz.sizeOf9
  have u4 := Tryz.underlying4
  have a4 := Tryz.isAgg4
  have z4 := Tryz.sizeOf4
  rw [run_equalIn_agg w (dp + 1) 74 _ _ (by kernel_rfl) (by kernel_rfl)]
  simp only [Program.fieldsOf, Tryz.underlying74]
  go_simp
theorem ch_neq (n : Int) (x y : Bool) (a b : Int) (l m : List UInt8) (w : World) : (binOp .neq 76 (.agg #[.int .i64 n, .bool x, .int .i64 a, .string (bs l), .bool y, .int .i64 b, .string (bs m)]) (.agg #[.int .i64 n, .bool x, .int .i64 a, .string (bs l), .bool y, .int .i64 b, .string (bs m)])).run Tryz.prog w = .ok (.bool false) w := by
  have u3 := Tryz.underlying3
  have a3 := Tryz.isAgg3
  have z3 := Tryz.sizeOf3
  have a23 := Tryz.isAgg74
  have z23 := Tryz.sizeOf74
  have h1 := fun dp => sp_eqIn dp x a l
  have h2 := fun dp => sp_eqIn dp y b m
  rw [run_neq_struct, show (10000 : Nat) = 9997 + 1 + 1 + 1 from rfl, run_equalIn_agg w (9997 + 1 + 1) 76 _ _ (by kernel_rfl) (by kernel_rfl)]
  simp only [Program.fieldsOf, Tryz.underlying76]
  go_simp
def ChSRel (w : World) (n : Nat) (i : Value) (wr : World) : Prop := ∃ k : Nat, k ≤ n ∧ i = .int .i64 (k : Int) ∧ Below w.heap.size w wr
set_option maxHeartbeats 1000000 in
theorem rsame_any (A : Option Addr) (c : Nat) (A' : Option Addr) (c' : Nat) (C : List Ch) (w : World) (hn : C.length ≤ 1000000) (h : OwnChs w 0 (.slice A C.length c) C) (h' : OwnChs w 0 (.slice A' C.length c') C) :
    Calls Tryz.prog 13 #[.slice A C.length c, .slice A' C.length c'] w (BoolRet true w) := by
  have HA := hide h
  have HB := hide h'
  clear h h'
  have d0 : ((C.length : Int) != (C.length : Int)) = false := by simp
  go_enter Tryz.func13, Tryz.ntmps13
  go_wp2_with fail
  go_loopw [5] (ChSRel w C.length) (fun i _ => C.length - (intOf i).toNat)
  case atStart => exact ⟨0, Nat.zero_le _, rfl, Below.refl _ _⟩
  case round =>
    obtain ⟨k, hk, rfl, hb⟩ := hrel
    have BB := hide hb
    clear hb
    by_cases hlt : k < C.length
    · obtain ⟨g, rfl, c0, c1, c2, c3, c4, c5, c6⟩ := (HA.out.below BB.out).seven k hlt
      obtain ⟨g', rfl, e0, e1, e2, e3, e4, e5, e6⟩ := (HB.out.below BB.out).seven k hlt
      have i1 : (k : Int) < (C.length : Int) := by omega
      have i0 : (0 : Int) ≤ (k : Int) := by omega
      generalize C[k] = x at c0 c1 c2 c3 c4 c5 c6 e0 e1 e2 e3 e4 e5 e6
      have hq := ch_neq x.1 (spI x.2.1) (spI x.2.2) (spT x.2.1) (spT x.2.2) (spN x.2.1) (spN x.2.2)
      go_wp2_with fail
      go_quiet (fail)
      go_wp2
      go_roundw
      case rel => exact ⟨k + 1, by omega, by go_num, belowD' BB.out _⟩
      case measure => simp [intOf]; omega
    · obtain rfl : k = C.length := by omega
      go_wp2
      go_ret
      exact ⟨rfl, BB.out⟩
end Go.Proofs.YtimfeocaghccdaaGreatDoor
namespace Go.Proofs.YtimfeocaghccdaaGreatDoor
open Go.RowKit Go.Maps
set_option linter.unusedVariables false
set_option linter.unusedSimpArgs false
set_option maxRecDepth 100000

/-- Where the telling stands: what is told, the last node, those behind it. -/
def CgRel (w : World) (A B : List Kd) (ns : List Int) (vo vl : Value) (wr : World) : Prop :=
  ∃ (last : Int) (P Q : List Int), vl = .int .i64 last ∧ Cut8 ns last P Q ∧ OwnChs wr w.heap.size vo (chsF A B P) ∧ P.length ≤ ns.length ∧ Below w.heap.size w wr
/-- Where the search of the next one stands. -/
def NxRel (w : World) (ns : List Int) (last : Int) (vn vi : Value) (wr : World) : Prop :=
  ∃ k : Nat, k ≤ ns.length ∧ vi = .int .i64 (k : Int) ∧ vn = .int .i64 (nx last (ns.take k)) ∧ Below w.heap.size w wr
/-- How many nodes are behind one. -/
def behind (ns : List Int) (v : Value) : Nat := ((ups ns).filter fun x => decide (intOf v < x)).length
theorem behind_cut {ns : List Int} {last : Int} {P Q : List Int} (h : Cut8 ns last P Q) : behind ns (.int .i64 last) = Q.length := by
  obtain ⟨h1, h2, h3, h4⟩ := h
  have e0 : intOf (.int .i64 last) = last := rfl
  unfold behind
  rw [h1, List.filter_append]
  have e1 : P.filter (fun x => decide (intOf (.int .i64 last) < x)) = [] := by
    rw [List.filter_eq_nil_iff]
    intro x hx
    have := h2 x hx
    simp [e0]
    omega
  have e2 : Q.filter (fun x => decide (intOf (.int .i64 last) < x)) = Q := by
    rw [List.filter_eq_self]
    intro x hx
    have := h3 x hx
    simp [e0]
    omega
  rw [e1, e2]
  rfl
theorem cut8_len {ns : List Int} {last : Int} {P Q : List Int} (h : Cut8 ns last P Q) : P.length + Q.length ≤ ns.length := by
  have h1 := ups_len ns
  have h2 := congrArg List.length h.1
  rw [List.length_append] at h2
  omega
set_option maxHeartbeats 4000000 in
theorem rchanges_any (g1 g2 : Nat) (vL1 vW1 vL2 vW2 : Value) (A B : List Kd) (ad : Option Addr) (c : Nat) (os : List O5) (hn : os.length ≤ 100000) (hA : A.length ≤ 1000000) (hB : B.length ≤ 1000000) (hd : ∀ o ∈ os, 0 ≤ o.d) (w : World) (h1 : Rl w g1 vL1 vW1 A) (h2 : Rl w g2 vL2 vW2 B) (h : Ops w ad c os) :
    Calls Tryz.prog 37 #[.pointer (some ⟨g1, 0, none⟩), .pointer (some ⟨g2, 0, none⟩), .slice ad os.length c] w (ChRet w (chs A B (os.map (·.d)))) := by
  have H1 := hide h1
  have H2 := hide h2
  have HO := hide h
  have hnl : (os.map (·.d)).length = os.length := List.length_map ..
  have HNS := hide (fun (k : Nat) (hk : k < os.length) => show (os.map (·.d)).take (k + 1) = (os.map (·.d)).take k ++ [os[k].d] by
    rw [List.take_succ_eq_append_getElem (by rw [hnl]; exact hk), List.getElem_map])
  have HND := hide (show ∀ n ∈ os.map (·.d), 0 ≤ n from fun n hn => by
    obtain ⟨o, ho, rfl⟩ := List.mem_map.1 hn
    exact hd o ho)
  rw [← chsF_ups]
  generalize os.map (·.d) = ns at HNS HND hnl ⊢
  have HNL := hide hnl
  have hnl1 : ns.length ≤ os.length := Nat.le_of_eq hnl
  have hnl2 : os.length ≤ ns.length := Nat.le_of_eq hnl.symm
  have S0 := hide (show CgRel w A B ns (.slice none 0 0) (.int .i64 (-1)) w from ⟨-1, [], ups ns, rfl, cut8_start HND.out, OwnChs.nil _ _, Nat.zero_le _, Below.refl _ _⟩)
  clear h1 h2 h hd hnl
  go_enter Tryz.func37, Tryz.ntmps37
  go_wp2_with fail
  go_loopw [7, 8] (CgRel w A B ns) (fun _ v _ => behind ns v)
  case atStart => exact S0.out
  case round =>
    rename World => wo
    clear S0
    obtain ⟨last, P, Q, rfl, hC, hO, hP, hb⟩ := hrel
    have HC := hide hC
    have HCH := hide hO
    have BO := hide hb
    obtain ⟨Ac, cc, rfl⟩ := hO.form
    clear hC hO hb
    have S1 := hide (show NxRel wo ns last (.int .i64 (-1)) (.int .i64 0) wo from ⟨0, Nat.zero_le _, rfl, rfl, Below.refl _ _⟩)
    go_wp2_with fail
    go_loopw [9, 10] (NxRel wo ns last) (fun _ i _ => ns.length - (intOf i).toNat)
    case atStart => exact S1.out
    case round =>
      rename World => wi
      clear S1
      obtain ⟨k, hk, rfl, rfl, hb⟩ := hrel
      have BI := hide hb
      have BW := hide (BO.out.trans (hb.mono BO.out.size))
      clear hb
      by_cases hlt : k < os.length
      · obtain ⟨b, o, rfl, hat⟩ := (HO.out.below BW.out).lit (by omega)
        obtain ⟨-, -, c2, -, -⟩ := hat.five k hlt
        have i1 : (k : Int) < (os.length : Int) := by omega
        have i0 : (0 : Int) ≤ (k : Int) := by omega
        have HT := hide ((congrArg (nx last) (HNS.out k hlt)).trans (nx_snoc last (ns.take k) os[k].d))
        clear hat
        generalize os[k].d = d at c2 HT
        generalize nx last (ns.take k) = m at HT ⊢
        by_cases j1 : d > last
        · by_cases j2 : m < 0
          · have E := hide (show nx last (ns.take (k + 1)) = d by rw [HT.out]; unfold nxS; rw [if_pos ⟨j1, .inl j2⟩])
            clear HT
            go_wp2_with fail
            go_roundw
            case rel => exact ⟨k + 1, by omega, by go_num, by rw [E.out], BI.out⟩
            case measure => simp [intOf]; omega
          · by_cases j3 : d < m
            · have E := hide (show nx last (ns.take (k + 1)) = d by rw [HT.out]; unfold nxS; rw [if_pos ⟨j1, .inr j3⟩])
              clear HT
              go_wp2_with fail
              go_roundw
              case rel => exact ⟨k + 1, by omega, by go_num, by rw [E.out], BI.out⟩
              case measure => simp [intOf]; omega
            · have E := hide (show nx last (ns.take (k + 1)) = m by rw [HT.out]; unfold nxS; rw [if_neg (fun h => h.2.elim j2 j3)])
              clear HT
              go_wp2_with fail
              go_roundw
              case rel => exact ⟨k + 1, by omega, by go_num, by rw [E.out], BI.out⟩
              case measure => simp [intOf]; omega
        · have E := hide (show nx last (ns.take (k + 1)) = m by rw [HT.out]; unfold nxS; rw [if_neg (fun h => j1 h.1)])
          clear HT
          go_wp2_with fail
          go_roundw
          case rel => exact ⟨k + 1, by omega, by go_num, by rw [E.out], BI.out⟩
          case measure => simp [intOf]; omega
      · obtain ek : k = ns.length := by omega
        subst ek
        have EN := hide (show nx last (ns.take ns.length) = nx last ns by rw [List.take_length])
        generalize nx last (ns.take ns.length) = m at EN ⊢
        have i1 : ¬ (ns.length : Int) < (os.length : Int) := by omega
        cases Q with
        | nil =>
          have EM := hide (EN.out.trans (cut8_none HC.out))
          have EP := hide (show chsF A B P = chsF A B (ups ns) by rw [HC.out.1, List.append_nil])
          obtain rfl := EM.out
          clear EN EM HNS HND
          go_wp2
          go_ret
          refine ⟨_, rfl, ?_, BW.out⟩
          rw [← EP.out]
          exact HCH.out.below BI.out
        | cons n Q =>
          obtain ⟨hn1, hn2⟩ := cut8_next HC.out
          obtain rfl : m = n := EN.out.trans hn1
          have HN := hide hn2
          have HM := hide (behind_cut HC.out)
          have HM2 := hide (behind_cut hn2)
          have hpl := cut8_len hn2
          rw [List.length_append] at hpl
          simp only [List.length_singleton] at hpl
          have hpos : ¬ m < 0 := by have := HC.out.2.2.1 m (List.mem_cons_self ..); have := HC.out.2.2.2; omega
          have HSN := hide (chsF_snoc A B P m)
          have hcl : (chsF A B P).length ≤ 1000000 := by
            unfold chsF
            rw [List.length_map]
            have := List.length_filter_le (fun n => decide (fnd A n ≠ fnd B n)) P
            omega
          have HO1 := hide (HCH.out.below BI.out)
          have KA := hide (rspot_any g1 vL1 vW1 A m hA wi (H1.out.below BW.out))
          clear hn1 hn2 EN HC HCH HNS HND
          go_wp2_with fail
          refine KA.out.mono ?_
          rintro e w2 ⟨rfl, hb2⟩
          unfold spv
          have Bz := (Below.refl w2.heap.size w2).alloc (Nat.le_refl _) (.cells #[.bool (spI (fnd A m)), .int .i64 (spT (fnd A m)), .string (bs (spN (fnd A m)))] 74)
          have HXA := hide (show Wnt (w2.alloc (.cells #[.bool (spI (fnd A m)), .int .i64 (spT (fnd A m)), .string (bs (spN (fnd A m)))] 74)) w2.heap.size (fnd A m) from heap_alloc_new w2 _)
          have HO2 := hide ((HO1.out.below hb2).below Bz)
          have B3 := hide (BW.out.trans ((hb2.trans (Bz.mono hb2.size)).mono BW.out.size))
          clear hb2 Bz KA HO1
          go_upto_region 13 with (fail)
          generalize w2.alloc (.cells #[.bool (spI (fnd A m)), .int .i64 (spT (fnd A m)), .string (bs (spN (fnd A m)))] 74) = w3 at HXA HO2 B3 ⊢
          have KB := hide (rspot_any g2 vL2 vW2 B m hB w3 (H2.out.below B3.out))
          go_wp2_with fail
          refine KB.out.mono ?_
          rintro e w4 ⟨rfl, hb4⟩
          unfold spv
          have Bz := (Below.refl w4.heap.size w4).alloc (Nat.le_refl _) (.cells #[.bool (spI (fnd B m)), .int .i64 (spT (fnd B m)), .string (bs (spN (fnd B m)))] 74)
          have HXB := hide (show Wnt (w4.alloc (.cells #[.bool (spI (fnd B m)), .int .i64 (spT (fnd B m)), .string (bs (spN (fnd B m)))] 74)) w4.heap.size (fnd B m) from heap_alloc_new w4 _)
          have HXA2 := hide ((HXA.out.below hb4).below Bz)
          have HO3 := hide ((HO2.out.below hb4).below Bz)
          have B5 := hide (B3.out.trans ((hb4.trans (Bz.mono hb4.size)).mono B3.out.size))
          have hne := HXA.out.lt
          have hne2 := hb4.size
          clear hb4 Bz KB HO2 HXA B3
          go_upto_region 14 with (fail)
          generalize w4.alloc (.cells #[.bool (spI (fnd B m)), .int .i64 (spT (fnd B m)), .string (bs (spN (fnd B m)))] 74) = w5 at HXA2 HXB HO3 B5 ⊢
          have SS := hide (spot_same (A := A) (B := B) (n := m))
          obtain ⟨a0, a1, a2⟩ := HXA2.out.cells
          obtain ⟨b0, b1, b2⟩ := HXB.out.cells
          have hq := spot_neq (spI (fnd A m)) (spI (fnd B m)) (spT (fnd A m)) (spT (fnd B m)) (spN (fnd A m)) (spN (fnd B m))
          by_cases hx : fnd A m = fnd B m
          · have h3 := SS.out.2 hx
            rw [decide_eq_true ⟨h3.1.symm, h3.2.1.symm, h3.2.2.symm⟩] at hq
            rw [if_pos hx] at HSN
            clear hx SS h3
            go_wp2_with fail
            go_roundw
            case rel => exact ⟨m, P ++ [m], Q, rfl, HN.out, by rw [HSN.out]; exact HO3.out, by simp; omega, B5.out⟩
            case measure => rw [HM.out, HM2.out]; simp
          · rw [decide_eq_false (fun h => hx (SS.out.1 ⟨h.1.symm, h.2.1.symm, h.2.2.symm⟩))] at hq
            rw [if_neg hx] at HSN
            have Bq := (Below.refl w5.heap.size w5).alloc (Nat.le_refl _) (.cells #[.int .i64 m, .bool (spI (fnd A m)), .int .i64 (spT (fnd A m)), .string (bs (spN (fnd A m))), .bool (spI (fnd B m)), .int .i64 (spT (fnd B m)), .string (bs (spN (fnd B m)))] 76)
            have O4 := hide (HO3.out.below Bq)
            have N4 := hide (ch_new w5 (m, fnd A m, fnd B m))
            have B4 := hide (B5.out.trans (Bq.mono B5.out.size))
            have sz4 := B4.out.size
            clear hx SS Bq
            generalize chsF A B P = cl at O4 HSN hcl ⊢
            go_wp2_with (at_builtin; refine wpList_append_ch _ rfl _ _ rfl w.heap.size _ cl rfl O4.out ⟨w5.heap.size, 0, none⟩ 1 (m, fnd A m, fnd B m) rfl N4.out hcl sz4 ?_)
            intro A5 c5 w6 hw6 hg6
            have B6 := hide (B4.out.grown hg6 sz4 (fun k hk => (O4.out.lt hk).1))
            rw [← HSN.out] at hw6
            have O6 := hide hw6
            have EL := hide (congrArg List.length HSN.out)
            clear hw6 hg6
            go_wp2_with fail
            go_roundw
            case rel =>
              refine ⟨m, P ++ [m], Q, rfl, HN.out, ?_, by simp; omega, B6.out⟩
              first
                | exact O6.out
                | (have h1 := O6.out
                   rw [EL.out, List.length_append] at h1
                   exact h1)
            case measure => rw [HM.out, HM2.out]; simp
end Go.Proofs.YtimfeocaghccdaaGreatDoor
namespace Go.Proofs.YtimfeocaghccdaaGreatDoor
open Go.RowKit Go.Maps
set_option linter.unusedVariables false
set_option linter.unusedSimpArgs false
set_option maxRecDepth 100000

theorem Rl.far {w w' : World} {g q : Nat} {vL vW : Value} {L : List Kd} {cs : Array Value} {z : Nat × Nat} (h : Rl w g vL vW L) (hm : Mod [q] w w') (hq : w.heap[q]? = some (.cells cs 29 z)) : Rl w' g vL vW L := by
  refine ⟨(hm.block g h.lt (fun hg => ?_)).trans h.blk, h.lst.mod hm fun b hb hbq => ?_⟩
  · have := h.blk
    rw [List.mem_singleton.1 hg, hq] at this
    simp at this
  · obtain ⟨cur, hc⟩ := h.lst.block hb
    rw [List.mem_singleton.1 hbq, hq] at hc
    simp at hc
theorem Ops.notin {w : World} {A : Option Addr} {c : Nat} {os : List O5} {q : Nat} {cs : Array Value} {t : TypeId} {z : Nat × Nat} (h : Ops w A c os) (hq : w.heap[q]? = some (.cells cs t z)) (hs : cs.size ≤ 2) {b o : Nat} (e : A = some ⟨b, o, none⟩) (hp : 0 < os.length) : b ≠ q := by
  rintro rfl
  obtain ⟨b', o', e', hat⟩ := h.lit hp
  rw [e] at e'
  cases e'
  obtain ⟨_, _, _, _, c4⟩ := hat.five 0 hp
  rw [cell_of_row w b _ cs t z hq, Array.getElem?_eq_none (by omega)] at c4
  cases c4
theorem Ops.far2 {w w' : World} {A : Option Addr} {c : Nat} {os : List O5} {q : Nat} {cs : Array Value} {t : TypeId} {z : Nat × Nat} (h : Ops w A c os) (hm : Mod [q] w w') (hq : w.heap[q]? = some (.cells cs t z)) (hs : cs.size ≤ 2) : Ops w' A c os :=
  ⟨h.nil, h.le, h.most, fun hp => by
    obtain ⟨b, o, e, hat⟩ := h.lit hp
    have hb := h.notin hq hs e hp
    refine ⟨b, o, e, fun j u hu => ?_⟩
    have hc := hat j u hu
    have hlt := World.block_lt_of_cell? w _ hc
    have := hm.block b hlt (by simpa using hb)
    rw [← hc]
    unfold World.cell?
    rw [this]⟩
/-- What a call leaves that puts. -/
def RPutRet (w : World) (g most : Nat) (A0 : Option Addr) (L os : List O5) (e : Ending) (w' : World) : Prop :=
  ∃ v A c, e = .returned (.tuple #[.int .i64 (((putL most L os).length : Int) - (L.length : Int)), v, .int .i64 (putE most L os)]) ∧ OwnChs w' w.heap.size v (chs (runS L).1 (runS (putL most L os)).1 ((putL most L os).map (·.d))) ∧ RLg w' g most A c (putL most L os) ∧ Mod [g] w w' ∧ (A = A0 ∨ ∀ b o, A = some ⟨b, o, none⟩ → w.heap.size ≤ b ∧ b < w'.heap.size)
theorem rput_no {w w' : World} {g most : Nat} {A : Option Addr} {c : Nat} {L os : List O5} (hb : Below w.heap.size w w') (h : RLg w g most A c L) (he : putE most L os ≠ 0) : RPutRet w g most A L os (.returned (.tuple #[.int .i64 0, .slice none 0 0, .int .i64 (putE most L os)])) w' := by
  have e : putL most L os = L := if_neg he
  refine ⟨.slice none 0 0, A, c, by rw [e]; simp, ?_, by rw [e]; exact h.below hb, Mod.of_below hb, .inl rfl⟩
  have : chs (runS L).1 (runS (putL most L os)).1 ((putL most L os).map (·.d)) = [] := by
    rw [e]
    unfold chs
    rw [dif_self]
    rfl
  rw [this]
  exact OwnChs.nil _ _
def P1Rel (w : World) (os : List O5) (i : Value) (wr : World) : Prop := ∃ k : Nat, k ≤ os.length ∧ i = .int .i64 (k : Int) ∧ AllR (os.take k) ∧ Below w.heap.size w wr
def P2Rel (w : World) (N0 : Nat) (A0 : Option Addr) (L os : List O5) (va i : Value) (wr : World) : Prop :=
  ∃ (k : Nat) (A : Option Addr) (c : Nat) (M : List O5), k ≤ os.length ∧ i = .int .i64 (k : Int) ∧ M = putO L (os.take k) ∧ va = .slice A M.length c ∧ Ops wr A c M ∧ Below w.heap.size w wr ∧ (A = A0 ∨ ∀ b o, A = some ⟨b, o, none⟩ → N0 ≤ b ∧ b < wr.heap.size)
set_option maxHeartbeats 4000000 in
theorem rput_any (g most : Nat) (A : Option Addr) (c : Nat) (L : List O5) (hs : SrtO L) (hr : AllR L) (hlm : L.length ≤ most) (A' : Option Addr) (c' : Nat) (os : List O5) (hm : ∀ o ∈ os, o.l.length ≤ 1000) (hn : L.length + os.length ≤ 400) (w : World) (h : RLg w g most A c L) (hO : Ops w A' c' os) :
    Calls Tryz.prog 11 #[.pointer (some ⟨g, 0, none⟩), .slice A' os.length c'] w (RPutRet w g most A L os) := by
  have HL := hide h
  have HO := hide hO
  have HM := hide hm
  have HR := hide hr
  have hP : (putO L os).length ≤ L.length + os.length := putF_most os L
  have hP1 : L.length ≤ (putO L os).length := putF_le os L
  have q1 := h.cell1
  have S0 := hide (show P1Rel w os (.int .i64 0) w from ⟨0, Nat.zero_le _, rfl, by intro o ho; simp at ho, Below.refl _ _⟩)
  clear h hO hm hr
  go_enter Tryz.func11, Tryz.ntmps11
  go_wp2_with fail
  go_loopw [8] (P1Rel w os) (fun i _ => os.length - (intOf i).toNat)
  case atStart => exact S0.out
  case round =>
    rename World => wi
    clear S0
    obtain ⟨k, hk, rfl, ha, hb⟩ := hrel
    have HA := hide ha
    have BI := hide hb
    clear ha hb
    by_cases hlt : k < os.length
    · obtain ⟨b, o, rfl, hat⟩ := (HO.out.below BI.out).lit (by omega)
      obtain ⟨c0, c1, c2, c3, c4⟩ := hat.five k hlt
      have hxm := HM.out _ (List.getElem_mem hlt)
      have HX := hide (List.getElem_mem hlt)
      have HT := hide (List.take_succ_eq_append_getElem hlt)
      have i1 : (k : Int) < (os.length : Int) := by omega
      have i0 : (0 : Int) ≤ (k : Int) := by omega
      clear hat
      generalize os[k] = x at c0 c1 c2 c3 c4 hxm HX HT
      have KR := hide (show Calls Tryz.prog 35 #[.agg #[.int .i64 x.n, .int .i64 x.r, .int .i64 x.d, .int .i64 x.t, .string (bs x.l)]] wi (BoolRet x.R wi) from orefRight_any x.n x.r x.d x.t x.l wi hxm)
      go_wp2_with fail
      refine KR.out.mono ?_
      rintro e w2 ⟨rfl, hb2⟩
      have B2 := hide (BI.out.trans (hb2.mono BI.out.size))
      clear hb2 KR c0 c1 c2 c3 c4 q1
      cases hR : x.R with
      | true =>
        have HA2 := hide (show AllR (os.take (k + 1)) by
          rw [HT.out]
          intro o ho
          rcases List.mem_append.1 ho with ho | ho
          · exact HA.out o ho
          · rw [List.mem_singleton.1 ho]; exact hR)
        clear hR HT
        go_wp2_with fail
        go_roundw
        case rel => exact ⟨k + 1, by omega, by go_num, HA2.out, B2.out⟩
        case measure => simp [intOf]; omega
      | false =>
        have HE := hide (show putE most L os = 1 by
          unfold putE
          rw [if_pos]
          exact List.any_eq_true.2 ⟨x, HX.out, by rw [hR]; rfl⟩)
        clear hR HT
        go_wp2
        go_ret3
        have := rput_no B2.out HL.out (show putE most L os ≠ 0 by rw [HE.out]; decide)
        rw [HE.out] at this
        exact this
    · obtain rfl : k = os.length := by omega
      have HAR := hide (show AllR os by have := HA.out; rwa [List.take_length] at this)
      have HNW := hide (show anyW os = false from allR_any HAR.out)
      have S1 := hide (show P2Rel wi w.heap.size A L os (.slice A L.length c) (.int .i64 0) wi from ⟨0, A, c, L, Nat.zero_le _, rfl, rfl, rfl, HL.out.ops.below BI.out, Below.refl _ _, .inl rfl⟩)
      clear HA
      go_wp2_with fail
      go_loopw [7, 10] (P2Rel wi w.heap.size A L os) (fun _ i _ => os.length - (intOf i).toNat)
      case atStart => exact S1.out
      case round =>
        rename World => wj
        clear S1
        obtain ⟨k, Aj, cj, M, hk, rfl, hM, rfl, hOm, hb, hwh⟩ := hrel
        have HWH := hide hwh
        have HMj := hide hM
        have OM := hide hOm
        have BJ := hide hb
        have BW := hide (BI.out.trans (hb.mono BI.out.size))
        have hml : M.length ≤ 400 := by
          have := putF_most (f := ocF) (os.take k) L
          rw [List.length_take] at this
          have e : M.length = (putF ocF L (os.take k)).length := by rw [hM]
          omega
        clear hM hOm hb hwh
        by_cases hlt : k < os.length
        · obtain ⟨b, o, rfl, hat⟩ := (HO.out.below BW.out).lit (by omega)
          obtain ⟨c0, c1, c2, c3, c4⟩ := hat.five k hlt
          have HT := hide (show wthF ocF M os[k] = putO L (os.take (k + 1)) by rw [HMj.out, List.take_succ_eq_append_getElem hlt]; exact (putF_snoc _ _ _).symm)
          have i1 : (k : Int) < (os.length : Int) := by omega
          have i0 : (0 : Int) ≤ (k : Int) := by omega
          clear hat
          generalize os[k] = x at c0 c1 c2 c3 c4 HT
          have KW := hide (rwith_any Aj cj M x wj (by omega) OM.out)
          rw [HT.out] at KW
          obtain ⟨M', hM'⟩ : ∃ M', M' = putO L (os.take (k + 1)) := ⟨_, rfl⟩
          rw [← hM'] at KW
          have HM' := hide hM'
          clear HT hM'
          go_wp2_with fail
          refine KW.out.mono ?_
          rintro e w2 ⟨A2, c2', rfl, ho2, hb2, hw2⟩
          have HW2 := hide (show A2 = A ∨ ∀ b o, A2 = some ⟨b, o, none⟩ → w.heap.size ≤ b ∧ b < w2.heap.size from by
            rcases hw2 with e | h
            · rw [e]
              exact HWH.out.imp id (fun h b o e => ⟨(h b o e).1, Nat.lt_of_lt_of_le (h b o e).2 hb2.size⟩)
            · exact .inr fun b o e => ⟨Nat.le_trans BW.out.size (h b o e).1, (h b o e).2⟩)
          have O2 := hide ho2
          have B2 := hide (BJ.out.trans (hb2.mono BJ.out.size))
          clear ho2 hb2 hw2 KW c0 c1 c2 c3 c4
          go_wp2_with fail
          go_roundw
          case rel => exact ⟨k + 1, A2, c2', M', by omega, by go_num, HM'.out, rfl, O2.out, B2.out, HW2.out⟩
          case measure => simp [intOf]; omega
        · obtain rfl : k = os.length := by omega
          have HMf := hide (show putO L os = M by have := HMj.out; rw [List.take_length] at this; exact this.symm)
          have hl1 : L.length ≤ M.length := by rw [← HMf.out]; exact hP1
          have q0 := (HL.out.below BW.out).cell0
          have q1 := (HL.out.below BW.out).cell1
          clear HMj hP hP1
          by_cases hf : most < M.length
          · have HE := hide (show putE most L os = 6 by
              unfold putE
              rw [HNW.out, if_neg (by decide), if_pos (by rw [HMf.out]; exact hf)])
            have j1 : (M.length : Int) > (most : Int) := by omega
            have j2 : (M.length : Int) > (L.length : Int) := by omega
            go_wp2
            go_ret3
            have := rput_no BW.out HL.out (show putE most L os ≠ 0 by rw [HE.out]; decide)
            rw [HE.out] at this
            exact this
          · have HE := hide (show putE most L os = 0 by
              unfold putE
              rw [HNW.out, if_neg (by decide), if_neg (by rw [HMf.out]; exact hf)])
            have HPL := hide (show putL most L os = M by unfold putL; rw [if_pos HE.out, HMf.out])
            have j1 : ¬ (M.length : Int) > (most : Int) := by omega
            have HMR := hide (show AllR M by
              rw [← HMf.out]
              intro o ho
              rcases mem_putF.1 ho with ho | ho
              · exact HR.out o ho
              · exact HAR.out o ho)
            have K1 := hide (rof_any A c L wj (by omega) (fun o ho => by have := right_len (O5.R_t (HR.out o ho)).2.2; omega) (HL.out.below BW.out).ops)
            go_wp2_with fail
            refine K1.out.mono ?_
            rintro e w3 ⟨g3, rfl, hT3⟩
            have T3 := hide hT3
            have O3 := hide (OM.out.below hT3.bel)
            have B3 := hide (BW.out.trans (hT3.bel.mono BW.out.size))
            have SZ3 := hide hT3.bel.size
            clear hT3 K1 q0 q1
            have K2 := hide (rof_any Aj cj M w3 (by omega) (fun o ho => by have := right_len (O5.R_t (HMR.out o ho)).2.2; omega) O3.out)
            go_wp2_with fail
            refine K2.out.mono ?_
            rintro e w4 ⟨g4, rfl, hT4⟩
            have hb4 := hT4.bel
            obtain ⟨vL4, vW4, vs4, hr4, -, -⟩ := hT4
            obtain ⟨vL3, vW3, vs3, hr3, -, -⟩ := T3.out.below hb4
            have R3 := hide hr3.rl
            have R4 := hide hr4.rl
            have O4 := hide (O3.out.below hb4)
            have B4 := hide (B3.out.trans (hb4.mono B3.out.size))
            have SZ4 := hide (show wj.heap.size ≤ w4.heap.size from Nat.le_trans SZ3.out hb4.size)
            have L4 := hide (HL.out.below B4.out)
            have q1 := (HL.out.below B4.out).cell1
            have fz := Joins.unfrozen_of_block (HL.out.below B4.out).blk 1
            clear hr3 hr4 hb4 K2 T3 O3 B3
            have M5 := hide ((Mod.refl [g] w4).setCell (p := ⟨g, 1, none⟩) (.inl (by simp)) (.slice Aj M.length cj))
            have L5 := hide (show RLg (w4.setCell ⟨g, 1, none⟩ (.slice Aj M.length cj)) g most Aj cj M from ⟨by
              have := Joins.block_setCell (i := 1) L4.out.blk (.slice Aj M.length cj)
              simpa using this, O4.out.far2 M5.out L4.out.blk (by simp)⟩)
            have R3' := hide (R3.out.far M5.out L4.out.blk)
            have R4' := hide (R4.out.far M5.out L4.out.blk)
            clear R3 R4 O4
            go_upto_region 19 with (fail)
            have sz5 : w.heap.size ≤ (w4.setCell ⟨g, 1, none⟩ (.slice Aj M.length cj)).heap.size := Nat.le_trans B4.out.size M5.out.size
            have SZ5 := hide (show wj.heap.size ≤ (w4.setCell ⟨g, 1, none⟩ (.slice Aj M.length cj)).heap.size from Nat.le_trans SZ4.out M5.out.size)
            have M6 := hide ((Mod.of_below (fs := [g]) B4.out).trans M5.out (fun k hk => .inl hk))
            generalize w4.setCell ⟨g, 1, none⟩ (.slice Aj M.length cj) = w5 at M5 M6 L5 R3' R4' sz5 SZ5 ⊢
            have KC := hide (rchanges_any g3 g4 vL3 vW3 vL4 vW4 (runS L).1 (runS M).1 Aj cj M (by omega) (by have h1 := runS_len L; have h2 := (runS_hst L).len; omega) (by have h1 := runS_len M; have h2 := (runS_hst M).len; omega) (fun o ho => by have := (O5.R_t (HMR.out o ho)).1; omega) w5 R3'.out R4'.out L5.out.ops)
            clear fz q1 L4 B4 R3' R4'
            go_wp2_with fail
            refine KC.out.mono ?_
            rintro e w6 ⟨v6, rfl, hC, hb6⟩
            have C6 := hide hC
            obtain ⟨A6, c6, rfl⟩ := hC.form
            have L6 := hide (L5.out.below hb6)
            have SZ := hide (show wj.heap.size ≤ w6.heap.size from Nat.le_trans SZ5.out hb6.size)
            have M7 := hide (M6.out.trans (Mod.of_below (fs := []) hb6) (by simp))
            clear hC hb6 KC M5 M6 L5
            go_wp2
            go_ret3
            refine ⟨_, Aj, cj, by rw [HPL.out, HE.out]; rfl, ?_, ?_, M7.out, HWH.out.imp id (fun h b o e => ⟨(h b o e).1, Nat.lt_of_lt_of_le (h b o e).2 SZ.out⟩)⟩
            · rw [HPL.out]
              exact C6.out.base sz5
            · rw [HPL.out]
              exact L6.out
end Go.Proofs.YtimfeocaghccdaaGreatDoor
namespace Go.Proofs.YtimfeocaghccdaaGreatDoor
open Go.RowKit Go.Maps
set_option linter.unusedVariables false
set_option linter.unusedSimpArgs false
set_option maxRecDepth 100000

theorem Lwg.mod {w0 w w' : World} {g most : Nat} {L : List O5} {fs fs' : List Nat} (h : Lwg w0 w g most L fs) (hm : Mod fs' w w') (hd : ∀ k ∈ fs, k ∉ fs') (hs : ∀ k ∈ fs', w0.heap.size ≤ k) : Lwg w0 w' g most L fs :=
  ⟨h.lg.mod hm hd, h.fs, h.bel.trans (hm.below h.bel.size hs)⟩
/-- Two logs side by side. -/
structure Duo9 (w0 w : World) (g h mg mh : Nat) (L M : List O5) (fg fh : List Nat) : Prop where
  lft : Lwg w0 w g mg L fg
  rgt : Lwg w0 w h mh M fh
  ap : ∀ k ∈ fg, k ∉ fh
theorem Duo9.below {w0 w w' : World} {g h mg mh : Nat} {L M : List O5} {fg fh : List Nat} (d : Duo9 w0 w g h mg mh L M fg fh) (hb : Below w.heap.size w w') : Duo9 w0 w' g h mg mh L M fg fh := ⟨d.lft.below hb, d.rgt.below hb, d.ap⟩
theorem Duo9.new {w0 w w' : World} {g h mg mh : Nat} {fg fh : List Nat} {L M : List O5} (h1 : Lwg w0 w g mg L fg) (h2 : Lwg w w' h mh M fh) : Duo9 w0 w' g h mg mh L M fg fh :=
  ⟨h1.below h2.bel, h2.back h1.bel, fun k hk hk' => by have := h1.lg.lt k hk; have := h2.fs k hk'; omega⟩
theorem Duo9.step1 {w0 w w' : World} {g h mg mh : Nat} {L M L' : List O5} {fg fh fg' : List Nat} (D : Duo9 w0 w g h mg mh L M fg fh) (hL : Lwg w0 w' g mg L' fg') (hm : Mod fg w w') (hf : ∀ k ∈ fg', k ∈ fg ∨ w.heap.size ≤ k) : Duo9 w0 w' g h mg mh L' M fg' fh := by
  refine ⟨hL, D.rgt.mod hm (fun k hk hk' => D.ap k hk' hk) D.lft.fs, fun k hk hk' => ?_⟩
  rcases hf k hk with h1 | h1
  · exact D.ap k h1 hk'
  · have := D.rgt.lg.lt k hk'
    omega
theorem Duo9.step2 {w0 w w' : World} {g h mg mh : Nat} {L M M' : List O5} {fg fh fh' : List Nat} (D : Duo9 w0 w g h mg mh L M fg fh) (hM : Lwg w0 w' h mh M' fh') (hm : Mod fh w w') (hf : ∀ k ∈ fh', k ∈ fh ∨ w.heap.size ≤ k) : Duo9 w0 w' g h mg mh L M' fg fh' := by
  refine ⟨D.lft.mod hm D.ap D.rgt.fs, hM, fun k hk hk' => ?_⟩
  rcases hf k hk' with h1 | h1
  · exact D.ap k hk h1
  · have := D.lft.lg.lt k hk
    omega
/-- A row of operations that neither log holds. -/
structure Row9 (w : World) (fg fh : List Nat) (v : Value) (os : List O5) : Prop where
  own : OwnOps w 0 v os
  ag : ∀ b, v.ownBlock = some b → b ∉ fg
  ah : ∀ b, v.ownBlock = some b → b ∉ fh
theorem Row9.below {w w' : World} {fg fh : List Nat} {v : Value} {os : List O5} (h : Row9 w fg fh v os) (hb : Below w.heap.size w w') : Row9 w' fg fh v os := ⟨h.own.below hb, h.ag, h.ah⟩
theorem Row9.new {w0 w w' : World} {g h mg mh : Nat} {L M : List O5} {fg fh : List Nat} {v : Value} {os : List O5} (D : Duo9 w0 w g h mg mh L M fg fh) (hr : OwnOps w' w.heap.size v os) : Row9 w' fg fh v os :=
  ⟨hr.base (Nat.zero_le _), fun b hb hk => by have := D.lft.lg.lt b hk; have := hr.row b hb; omega, fun b hb hk => by have := D.rgt.lg.lt b hk; have := hr.row b hb; omega⟩
theorem Row9.step1 {w w' : World} {fg fh fg' : List Nat} {v : Value} {os : List O5} (h : Row9 w fg fh v os) (hm : Mod fg w w') (hf : ∀ k ∈ fg', k ∈ fg ∨ w.heap.size ≤ k) : Row9 w' fg' fh v os :=
  ⟨h.own.mod hm h.ag, fun b hb hk => by
    rcases hf b hk with h1 | h1
    · exact h.ag b hb h1
    · have := h.own.lt hb
      omega, h.ah⟩
theorem Row9.step2 {w w' : World} {fg fh fh' : List Nat} {v : Value} {os : List O5} (h : Row9 w fg fh v os) (hm : Mod fh w w') (hf : ∀ k ∈ fh', k ∈ fh ∨ w.heap.size ≤ k) : Row9 w' fg fh' v os :=
  ⟨h.own.mod hm h.ah, h.ag, fun b hb hk => by
    rcases hf b hk with h1 | h1
    · exact h.ah b hb h1
    · have := h.own.lt hb
      omega⟩
/-- Two logs, and two rows that neither holds. -/
structure Four9 (w0 w : World) (g h mg mh : Nat) (L M : List O5) (fg fh : List Nat) (va : Value) (X : List O5) (vl : Value) (R : List O5) : Prop where
  duo : Duo9 w0 w g h mg mh L M fg fh
  ra : Row9 w fg fh va X
  rl : Row9 w fg fh vl R
theorem Four9.below {w0 w w' : World} {g h mg mh : Nat} {L M : List O5} {fg fh : List Nat} {va vl : Value} {X R : List O5} (F : Four9 w0 w g h mg mh L M fg fh va X vl R) (hb : Below w.heap.size w w') : Four9 w0 w' g h mg mh L M fg fh va X vl R := ⟨F.duo.below hb, F.ra.below hb, F.rl.below hb⟩
theorem Four9.step2 {w0 w w' : World} {g h mg mh : Nat} {L M M' : List O5} {fg fh fh' : List Nat} {va vl : Value} {X R : List O5} (F : Four9 w0 w g h mg mh L M fg fh va X vl R) (hM : Lwg w0 w' h mh M' fh') (hm : Mod fh w w') (hf : ∀ k ∈ fh', k ∈ fh ∨ w.heap.size ≤ k) : Four9 w0 w' g h mg mh L M' fg fh' va X vl R :=
  ⟨F.duo.step2 hM hm hf, F.ra.step2 hm hf, F.rl.step2 hm hf⟩
theorem Four9.row {w0 w w' : World} {g h mg mh : Nat} {L M : List O5} {fg fh : List Nat} {va vl vn : Value} {X R S : List O5} (F : Four9 w0 w g h mg mh L M fg fh va X vl R) (hb : Below w.heap.size w w') (hr : OwnOps w' w.heap.size vn S) : Four9 w0 w' g h mg mh L M fg fh va X vn S :=
  ⟨F.duo.below hb, F.ra.below hb, Row9.new F.duo hr⟩
/-- What is left when one was put: all that come are in the log, or are left. -/
structure Ord9 (X M R : List O5) : Prop where
  srt : SrtO M
  sub : ∀ x ∈ M, x ∈ X
  lft : ∀ x ∈ R, x ∈ X
  all : ∀ x ∈ X, x ∈ M ∨ x ∈ R
theorem Ord9.start (X : List O5) (q : Nat) : Ord9 X (putO [] (X.drop q)) X :=
  ⟨putF_srt ocF_order List.Pairwise.nil, fun x hx => by
    rcases mem_putF.1 hx with h | h
    · simp at h
    · exact List.mem_of_mem_drop h, fun x hx => hx, fun x hx => .inr hx⟩
theorem Ord9.step {X M R : List O5} (h : Ord9 X M R) {i : Nat} (hi : i < R.length) : Ord9 X (putO M [R[i]]) (R.take i ++ R.drop (i + 1)) := by
  have hR : ∀ x, x ∈ R ↔ x ∈ R.take i ∨ x = R[i] ∨ x ∈ R.drop (i + 1) := fun x => by
    have e : R = R.take i ++ R[i] :: R.drop (i + 1) := by rw [← List.drop_eq_getElem_cons hi, List.take_append_drop]
    have : x ∈ R ↔ x ∈ R.take i ++ R[i] :: R.drop (i + 1) := by rw [← e]
    rw [this, List.mem_append, List.mem_cons]
  refine ⟨putF_srt ocF_order h.srt, fun x hx => ?_, fun x hx => ?_, fun x hx => ?_⟩
  · rcases mem_putF.1 hx with hx | hx
    · exact h.sub x hx
    · rw [List.mem_singleton.1 hx]
      exact h.lft _ (List.getElem_mem hi)
  · rcases List.mem_append.1 hx with hx | hx
    · exact h.lft x ((hR x).2 (.inl hx))
    · exact h.lft x ((hR x).2 (.inr (.inr hx)))
  · rcases h.all x hx with hx | hx
    · exact .inl (mem_putF.2 (.inl hx))
    · rcases (hR x).1 hx with hx | hx | hx
      · exact .inr (List.mem_append.2 (.inl hx))
      · exact .inl (mem_putF.2 (.inr (by rw [hx]; simp)))
      · exact .inr (List.mem_append.2 (.inr hx))
theorem Ord9.done {X M : List O5} (h : Ord9 X M []) : putO [] X = M :=
  putF_eq ocF_order List.Pairwise.nil h.srt fun x => ⟨fun hx => .inr (h.sub x hx), fun hx => by
    rcases hx with hx | hx
    · simp at hx
    · exact (h.all x hx).elim id (fun h => by simp at h)⟩
theorem Ord9.len {X M R : List O5} (h : Ord9 X M R) (q : Nat) (hq : X.length ≤ q) : M.length ≤ q := by
  have hsub := List.Nodup.length_le_of_subset (h.srt.nodup ocF_order) (fun x hx => h.sub x hx)
  omega
end Go.Proofs.YtimfeocaghccdaaGreatDoor
namespace Go.Proofs.YtimfeocaghccdaaGreatDoor
set_option maxRecDepth 100000
open Go.RowKit
set_option linter.unusedVariables false
set_option maxRecDepth 100000

def shO (os : List O5) : Bool := os.all fun x => decide (x.l.length ≤ 60)
def ShortORel (os : List O5) (i : Value) : Prop := ∃ k : Nat, k ≤ os.length ∧ i = .int .i64 (k : Int) ∧ shO (os.drop k) = shO os
theorem shO_step (os : List O5) (k : Nat) (h : k < os.length) : shO (os.drop k) = (decide (os[k].l.length ≤ 60) && shO (os.drop (k + 1))) := by
  unfold shO
  rw [List.drop_eq_getElem_cons h]
  rfl
set_option maxHeartbeats 1000000 in
theorem shortOps_any (A : Option Addr) (c : Nat) (os : List O5) (w : World) (hn : os.length ≤ 9223372036854775807) (hm : ∀ o ∈ os, o.l.length ≤ maxLen) (h : Ops w A c os) :
    Calls Tryz.prog 9 #[.slice A os.length c] w (fun e w' => e = .returned (.bool (shO os)) ∧ w' = w) := by
  have HM := hide hm
  have HC := hide h
  clear hm h
  go_enter Tryz.func9, Tryz.ntmps9
  go_wp2_with fail
  go_loop [3] (ShortORel os) (fun i => os.length - (intOf i).toNat)
  case atStart => exact ⟨0, Nat.zero_le _, rfl, rfl⟩
  case round =>
    obtain ⟨k, hk, rfl, hs⟩ := hrel
    have HS := hide hs
    clear hs
    by_cases hlt : k < os.length
    · obtain ⟨b, o, rfl, hat⟩ := HC.out.lit (by omega)
      have cN := (hat.five k hlt).2.2.2.2
      have hm := HM.out _ (List.getElem_mem hlt)
      have ST := hide (shO_step os k hlt)
      have hsz : (bs os[k].l).size = os[k].l.length := bs_size _
      have SZ := hide hsz
      have hm2 : (bs os[k].l).size ≤ 9223372036854775807 := by rw [hsz]; unfold maxLen at hm; exact hm
      clear hm hsz hat
      by_cases hb : 60 < (bs os[k].l).size
      · have E := hide (show shO os = false by
          rw [← HS.out, ST.out, decide_eq_false (by rw [← SZ.out]; omega)]
          rfl)
        generalize bs os[k].l = s at cN hm2 hb
        go_wp2
        go_ret
        rw [E.out]
        exact ⟨rfl, rfl⟩
      · have E := hide (show shO (os.drop (k + 1)) = shO os by
          rw [← HS.out, ST.out, decide_eq_true (by rw [← SZ.out]; omega)]
          rfl)
        generalize bs os[k].l = s at cN hm2 hb
        go_wp2
        refine ⟨⟨k + 1, by omega, by go_num, E.out⟩, by simp [intOf]; omega⟩
    · obtain rfl : k = os.length := by omega
      have E := hide (show shO os = true by rw [← HS.out, List.drop_length]; rfl)
      go_wp2
      go_ret
      rw [E.out]
      exact ⟨rfl, rfl⟩
end Go.Proofs.YtimfeocaghccdaaGreatDoor
namespace Go.Proofs.YtimfeocaghccdaaGreatDoor
open Go.RowKit Go.ChangeShapes Go.WideShapes Go.Deep
set_option linter.unusedVariables false
set_option maxRecDepth 100000

/-- A batch, and where it lies. -/
structure BRow where
  A : Option Addr
  c : Nat
  os : List O5
def IsBs (w : World) (a : Option Addr) (len cap : Nat) (rs : List BRow) : Prop :=
  rs.length = len ∧ len ≤ cap ∧ cap ≤ maxLen ∧ (0 < len → ∃ b o, a = some ⟨b, o, none⟩ ∧ ∀ j (h : j < rs.length), w.cell? ⟨b, o + j, none⟩ = some (.slice rs[j].A rs[j].os.length rs[j].c)) ∧ ∀ r ∈ rs, Ops w r.A r.c r.os ∧ ∀ o ∈ r.os, o.l.length ≤ maxLen
theorem cells_ops : Tryz.prog.cellsOf 27 = 1 := by kernel_rfl
theorem open_opss {H : Type} {enc : TypeId × Value → H} {base : Nat} {spare : Nat → Bool} {held : Bool} {d : DataW H} {p : List MemPlace} (w : World) (a : Option Addr) (len cap : Nat)
    (h : DataW.Trod enc Tryz.prog w base spare held 22 (.slice a len cap) d p) : ∃ rs, IsBs w a len cap rs := by
  obtain ⟨fuel, hf⟩ := h
  rcases open_slice Tryz.underlying22 hf with ⟨hcs, _⟩ | ⟨x, l, c, m, n, D, Pl, hcs, _, hl, hm, hmm, _, hi⟩
  · simp [Value.cells] at hcs
    obtain ⟨rfl, rfl, rfl⟩ := hcs
    exact ⟨[], rfl, Nat.le_refl _, Nat.zero_le _, by simp, by simp⟩
  · simp [Value.cells] at hcs
    obtain ⟨rfl, rfl, rfl⟩ := hcs
    have hlm : len ≤ m := by rw [hmm]; split <;> omega
    have hx : ∀ i, i < len → ∃ z : BRow, w.cell? (x.add i) = some (.slice z.A z.os.length z.c) ∧ Ops w z.A z.c z.os ∧ ∀ o ∈ z.os, o.l.length ≤ maxLen := by
      intro i hilt
      obtain ⟨cs', hc, ht⟩ := hi i (by omega)
      rw [cells_ops, Nat.mul_one] at hc
      obtain ⟨_, hcl, hat⟩ := World.cells?_some hc
      match cs', hcl with
      | [u0], _ =>
        have a0 := hat 0 (by omega)
        have hu : ∃ A k c, u0 = .slice A k c := by
          rcases open_slice Tryz.underlying27 ht with ⟨hcs, _⟩ | ⟨x, l, c, m, n, D, Pl, hcs, _⟩
          · simp at hcs; exact ⟨_, _, _, hcs⟩
          · simp at hcs; exact ⟨_, _, _, hcs⟩
        obtain ⟨A, k, c, rfl⟩ := hu
        obtain ⟨os, rfl, h1, h2⟩ := open_ops w A k c ⟨_, ht⟩
        exact ⟨⟨A, c, os⟩, by simpa [Addr.add] using a0, h1, h2⟩
    obtain ⟨zs, hzl, hz⟩ := pickAll len _ hx
    refine ⟨zs, hzl, hl, hm, fun h0 => ?_, fun r hr => ?_⟩
    · obtain ⟨b, o, spot⟩ := x
      have e0 := (hz 0 (by omega)).1
      obtain rfl : spot = none := by simpa [Addr.add] using World.cell?_spot e0
      refine ⟨b, o, rfl, fun j hj => ?_⟩
      have := (hz j hj).1
      rwa [Addr.add_lit] at this
    · obtain ⟨i, hi, rfl⟩ := List.getElem_of_mem hr
      exact (hz i hi).2
theorem IsBs.below {w w' : World} {a : Option Addr} {len cap : Nat} {rs : List BRow} (h : IsBs w a len cap rs) (hb : Below w.heap.size w w') : IsBs w' a len cap rs := by
  obtain ⟨h1, h2, h3, h4, h5⟩ := h
  refine ⟨h1, h2, h3, fun hp => ?_, fun r hr => ⟨(h5 r hr).1.below hb, (h5 r hr).2⟩⟩
  obtain ⟨b, o, e, hc⟩ := h4 hp
  exact ⟨b, o, e, fun j hj => (hb.cell (World.block_lt_of_cell? w _ (hc j hj))).trans (hc j hj)⟩
end Go.Proofs.YtimfeocaghccdaaGreatDoor
