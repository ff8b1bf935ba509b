/-
  What a pack.Reader does: New, Number, Text, Left, Err, over the plain functions of reading. Conditions: the reader stands in a block of its own, over bytes of the program's own.
-/
import Derived.Test.YtjgnneajpkhppaaDoorNum
namespace Go.Proofs.YtjgnneajpkhppaaDoor
open Go.RowKit
set_option linter.unusedVariables false

theorem scanF_step (f i acc : Nat) (l : List UInt8) (h : i < l.length) :
    scanF (f + 1) i acc (l.drop i) =
      if 128 ≤ l[i].toNat then scanF f (i + 1) (acc + l[i].toNat % 128 * 128 ^ i) (l.drop (i + 1))
      else if l[i].toNat = 0 ∧ 0 < i then (0, 0, 3) else (acc + l[i].toNat % 128 * 128 ^ i, i + 1, 0) := by
  rw [List.drop_eq_getElem_cons h]
  rfl
theorem scanF_end (f i acc : Nat) (l : List UInt8) (h : l.length ≤ i) : scanF (f + 1) i acc (l.drop i) = (0, 0, 2) := by
  rw [List.drop_eq_nil_of_le h]
  rfl

/-- After k rounds of scan: n holds what the first k bytes tell. -/
def ScanRel (l : List UInt8) (n c : Value) : Prop :=
  ∃ k acc : Nat, k ≤ 5 ∧ k ≤ l.length ∧ n = .int .i64 acc ∧ c = .int .i64 k ∧ acc < 128 ^ k ∧ scan l = scanF (5 - k) k acc (l.drop k)

theorem scan_val (k acc x : Nat) (hk : k < 5) (ha : acc < 128 ^ k) : wrap64 ((acc : Int) + wrap64 ((x : Int) % 128 * 2 ^ (7 * k))) = ((acc + x % 128 * 128 ^ k : Nat) : Int) := by
  have hc : k = 0 ∨ k = 1 ∨ k = 2 ∨ k = 3 ∨ k = 4 := by omega
  rcases hc with rfl | rfl | rfl | rfl | rfl <;>
  · simp only [Nat.reduceMul, Nat.reducePow, Int.reducePow, Nat.pow_zero, Int.pow_zero] at ha ⊢
    rw [wrap64_in ((x : Int) % 128 * _) (by omega) (by omega), wrap64_in _ (by omega) (by omega)]
    omega
theorem scan_lt (k acc x : Nat) (hk : k < 5) (ha : acc < 128 ^ k) : acc + x % 128 * 128 ^ k < 128 ^ (k + 1) := by
  have hc : k = 0 ∨ k = 1 ∨ k = 2 ∨ k = 3 ∨ k = 4 := by omega
  rcases hc with rfl | rfl | rfl | rfl | rfl <;>
  · simp only [Nat.reduceAdd, Nat.reducePow] at ha ⊢
    omega
theorem ret_three {k1 k2 k3 : IntKind} {a b c a' b' c' : Int} (h1 : a = a') (h2 : b = b') (h3 : c = c') :
    Ending.returned (.tuple #[.int k1 a, .int k2 b, .int k3 c]) = .returned (.tuple #[.int k1 a', .int k2 b', .int k3 c']) := by rw [h1, h2, h3]

set_option maxHeartbeats 1000000 in
set_option maxRecDepth 100000 in
theorem scan_some (g o c : Nat) (l : List UInt8) (w : World) (hl : l.length ≤ c) (hc : c ≤ maxLen) (hcell : ∀ j (h : j < l.length), w.cell? ⟨g, o + j, none⟩ = some (.int .u8 l[j].toNat)) :
    Calls Tryd.prog 54 #[.slice (some ⟨g, o, none⟩) l.length c] w fun e w' =>
      e = .returned (.tuple #[.int .i64 (scan l).1, .int .i64 (scan l).2.1, .int .i64 (scan l).2.2]) ∧ w = w' := by
  unfold maxLen at hc
  have Hcell := hide hcell
  clear hcell
  go_enter Tryd.func54, Tryd.ntmps54
  go_wp2_with fail
  go_loop [2, 7] (ScanRel l) (fun _ c => 5 - (intOf c).toNat)
  case atStart => exact ⟨0, 0, by omega, by omega, rfl, rfl, by omega, rfl⟩
  case round =>
    obtain ⟨k, acc, hk, hkl, rfl, rfl, hacc, heq⟩ := hrel
    have Heq := hide heq
    have Hacc := hide hacc
    clear heq hacc
    by_cases h5 : k < 5
    · by_cases hend : k = l.length
      · have hge : l.length ≤ k := by omega
        have hb : ((k : Int) == (l.length : Int)) = true := by rw [hend]; simp
        clear hend
        go_wp2
        go_ret3
        have e := Heq.out
        rw [show 5 - k = (4 - k) + 1 by omega, scanF_end _ _ _ _ hge] at e
        rw [e]
        exact ⟨rfl, rfl⟩
      · have hlt : k < l.length := by omega
        have hb : ((k : Int) == (l.length : Int)) = false := by simp; omega
        have hx := Hcell.out k hlt
        have e := Heq.out
        rw [show 5 - k = (4 - k) + 1 by omega, scanF_step _ _ _ _ hlt] at e
        have h256 := UInt8.toNat_lt l[k]
        generalize l[k].toNat = x at hx e h256
        have E := hide e
        clear e Heq hend Hcell
        have hv := hide (scan_val k acc x h5 Hacc.out)
        by_cases c1 : 128 ≤ x
        · go_wp2
          go_round
          case rel =>
            refine ⟨k + 1, acc + x % 128 * 128 ^ k, by omega, by omega, congrArg (Value.int IntKind.i64) hv.out, by go_num, scan_lt k acc x h5 Hacc.out, ?_⟩
            rw [E.out, if_pos c1, show 5 - (k + 1) = 4 - k by omega]
          case measure => simp [intOf]; omega
        · by_cases c2 : x = 0 ∧ 0 < k
          · obtain ⟨c2, c3⟩ := c2
            have e := E.out
            rw [if_neg c1, if_pos ⟨c2, c3⟩] at e
            have E1 := hide e
            have hb0 : ((x : Int) == 0) = true := by rw [c2]; rfl
            clear e E hv c2
            go_wp2
            go_ret3
            rw [E1.out]
            exact ⟨rfl, rfl⟩
          · have e := E.out
            rw [if_neg c1, if_neg c2] at e
            have E1 := hide e
            clear e E
            by_cases c3 : x = 0
            · have hb0 : ((x : Int) == 0) = true := by rw [c3]; rfl
              have c4 : ¬ 0 < k := by omega
              have C3 := hide c3
              clear c3 c2
              go_wp2
              go_ret3
              rw [E1.out]
              exact ⟨ret_three hv.out (by show _ = ((_ + 1 : Nat) : Int); omega) rfl, rfl⟩
            · have hb0 : ((x : Int) == 0) = false := by simp; omega
              clear c2
              go_wp2
              go_ret3
              rw [E1.out]
              exact ⟨ret_three hv.out (by show _ = ((_ + 1 : Nat) : Int); omega) rfl, rfl⟩
    · go_wp2
      go_ret3
      have e := Heq.out
      rw [show 5 - k = 0 by omega] at e
      rw [e]
      exact ⟨rfl, rfl⟩

theorem scan_none (w : World) :
    Calls Tryd.prog 54 #[.slice none 0 0] w fun e w' =>
      e = .returned (.tuple #[.int .i64 (scan []).1, .int .i64 (scan []).2.1, .int .i64 (scan []).2.2]) ∧ w = w' := by
  go_enter Tryd.func54, Tryd.ntmps54
  go_wp2_with fail
  refine wp_loop_rounds 1 ?_
  rw [rounds_succ]
  go_wp2
  go_ret3
  exact ⟨rfl, rfl⟩

theorem scan_any (v : Value) (l : List UInt8) (w : World) (h : RSl w v l) :
    Calls Tryd.prog 54 #[v] w fun e w' =>
      e = .returned (.tuple #[.int .i64 (scan l).1, .int .i64 (scan l).2.1, .int .i64 (scan l).2.2]) ∧ w = w' := by
  rcases h with ⟨rfl, rfl⟩ | ⟨g, o, c, cur, rfl, h2, h3, h4, h5⟩
  · exact scan_none w
  · exact scan_some g o c l w h2 h3 (RSl_cells h4 h5)

/-- The block of a reader: what isn't read, what was wrong. -/
def RdC (w : World) (g : Nat) (sv : Value) (e : Nat) : Prop := w.heap[g]? = some (.cells #[sv, .int .i64 e] 62 (0, 0))
/-- A reader at block g: l isn't read yet; e was wrong. -/
def Rd (w : World) (g : Nat) (l : List UInt8) (e : Nat) : Prop := ∃ sv, RdC w g sv e ∧ RSl w sv l

theorem RdC.c0 {w : World} {g e : Nat} {sv : Value} (h : RdC w g sv e) : w.cell? ⟨g, 0, none⟩ = some sv := cell_of_row w g 0 _ _ (0, 0) h
theorem RdC.c1 {w : World} {g e : Nat} {sv : Value} (h : RdC w g sv e) : w.cell? ⟨g, 1, none⟩ = some (.int .i64 e) := cell_of_row w g 1 _ _ (0, 0) h
theorem RdC.z {w : World} {g e : Nat} {sv : Value} (h : RdC w g sv e) (i : Nat) : w.frozen? ⟨g, i, none⟩ = false := by
  unfold RdC at h
  simp [World.frozen?, h]
theorem RdC.set0 {w : World} {g e : Nat} {sv : Value} (h : RdC w g sv e) (u : Value) : RdC (w.setCell ⟨g, 0, none⟩ u) g u e := by
  unfold RdC at h ⊢
  simp [World.setCell, Array.getElem?_modify, h]
theorem RdC.set1 {w : World} {g e : Nat} {sv : Value} (h : RdC w g sv e) (x : Nat) : RdC (w.setCell ⟨g, 1, none⟩ (.int .i64 x)) g sv x := by
  unfold RdC at h ⊢
  simp [World.setCell, Array.getElem?_modify, h]
theorem RSl.setR {w : World} {g e : Nat} {sv v : Value} {l : List UInt8} (h : RSl w v l) (hr : RdC w g sv e) (i : Nat) (u : Value) : RSl (w.setCell ⟨g, i, none⟩ u) v l := by
  refine h.keep fun k cur hk => Below.heap_setCell w _ u k ?_
  rintro rfl
  unfold RdC at hr
  rw [hk] at hr
  injection hr with hr
  injection hr with _ ht
  exact absurd ht (by decide)

/-- All but block g is as it was, and no block is new. -/
structure Only (g : Nat) (w w' : World) : Prop where
  grown : w.grownBy w' (some g)
  size : w'.heap.size = w.heap.size
theorem Only.refl (g : Nat) (w : World) : Only g w w := ⟨⟨rfl, rfl, rfl, Nat.le_refl _, fun _ _ _ => rfl⟩, rfl⟩
theorem Only.set {g : Nat} {w w' : World} (h : Only g w w') (i : Nat) (u : Value) : Only g w (w'.setCell ⟨g, i, none⟩ u) := by
  refine ⟨⟨h.grown.os, h.grown.tape, h.grown.output, ?_, fun k hk hne => ?_⟩, ?_⟩
  · simpa [World.setCell] using h.grown.size
  · exact (Below.heap_setCell w' _ u k (by rintro rfl; exact hne rfl)).trans (h.grown.block k hk hne)
  · simpa [World.setCell] using h.size
theorem Only.trans {g : Nat} {a b c : World} (h : Only g a b) (k : Only g b c) : Only g a c :=
  ⟨⟨k.grown.os.trans h.grown.os, k.grown.tape.trans h.grown.tape, k.grown.output.trans h.grown.output, Nat.le_trans h.grown.size k.grown.size,
    fun i hi hne => (k.grown.block i (by have := h.size; omega) hne).trans (h.grown.block i hi hne)⟩, k.size.trans h.size⟩

set_option maxHeartbeats 400000 in
theorem fail_any (g x e : Nat) (sv : Value) (w : World) (h : RdC w g sv e) :
    Calls Tryd.prog 55 #[.pointer (some ⟨g, 0, none⟩), .int .i64 x] w fun ed w' =>
      ed = .returned (.tuple #[]) ∧ (w.setCell ⟨g, 0, none⟩ (.slice none 0 0)).setCell ⟨g, 1, none⟩ (.int .i64 x) = w' := by
  have c0 := h.c0
  have z0 := h.z 0
  have c1 := (h.set0 (.slice none 0 0)).c1
  have z1 := (h.set0 (.slice none 0 0)).z 1
  clear h
  go_enter Tryd.func55, Tryd.ntmps55
  go_wp2
  go_end0
  exact ⟨rfl, rfl⟩

set_option maxHeartbeats 400000 in
theorem left_any (g e : Nat) (l : List UInt8) (w : World) (h : Rd w g l e) :
    Calls Tryd.prog 21 #[.pointer (some ⟨g, 0, none⟩)] w fun ed w' => ed = .returned (.int .i64 l.length) ∧ w = w' := by
  obtain ⟨sv, hc, hs⟩ := h
  have c0 := hc.c0
  clear hc
  rcases hs with ⟨rfl, rfl⟩ | ⟨g', o, c, cur, rfl, h2, h3, h4, h5⟩
  · go_enter Tryd.func21, Tryd.ntmps21
    go_wp2
    go_ret
    exact ⟨rfl, rfl⟩
  · clear h4 h5
    go_enter Tryd.func21, Tryd.ntmps21
    go_wp2
    go_ret
    exact ⟨rfl, rfl⟩

set_option maxHeartbeats 400000 in
theorem err_any (g e : Nat) (l : List UInt8) (w : World) (h : Rd w g l e) :
    Calls Tryd.prog 23 #[.pointer (some ⟨g, 0, none⟩)] w fun ed w' => ed = .returned (.int .i64 e) ∧ w = w' := by
  obtain ⟨sv, hc, hs⟩ := h
  have c1 := hc.c1
  clear hc hs
  go_enter Tryd.func23, Tryd.ntmps23
  go_wp2
  go_ret
  exact ⟨rfl, rfl⟩
end Go.Proofs.YtjgnneajpkhppaaDoor
