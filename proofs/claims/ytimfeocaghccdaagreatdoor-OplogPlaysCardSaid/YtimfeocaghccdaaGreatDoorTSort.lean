/-
  Contracts of what the tree's lists are sorted by: cmp.Or, hold, slices.SortFunc over a row of kids of the program's own. No conditions but that there are not too many.
-/
import Derived.Test.YtimfeocaghccdaaGreatDoorTKids
import Derived.Test.YtimfeocaghccdaaGreatDoorOCmp
import Derived.Test.YtimfeocaghccdaaGreatDoorShelf
import Derived.LoopTactic
import Derived.Lib.SmallJoins
import Derived.Deep.RegionHeld3
namespace Go.Proofs.YtimfeocaghccdaaGreatDoor
set_option maxRecDepth 100000
open Go.RowKit Go.Sort Go.Shelf
set_option linter.unusedVariables false
set_option linter.unusedSimpArgs false
set_option maxRecDepth 100000

/-- The first of three that isn't nought. -/
def orN (a b c : Int) : Int := if a ≠ 0 then a else if b ≠ 0 then b else c
def OrRel (a b c : Int) (v : Value) : Prop := ∃ k : Nat, k ≤ 3 ∧ v = .int .i64 (k : Int) ∧ (1 ≤ k → a = 0) ∧ (2 ≤ k → b = 0) ∧ (3 ≤ k → c = 0)
set_option maxHeartbeats 1000000 in
theorem or_any (g : Nat) (a b c : Int) (w : World) (h0 : w.cell? ⟨g, 0, none⟩ = some (.int .i64 a)) (h1 : w.cell? ⟨g, 1, none⟩ = some (.int .i64 b)) (h2 : w.cell? ⟨g, 2, none⟩ = some (.int .i64 c)) :
    Calls Tryz.prog 92 #[.slice (some ⟨g, 0, none⟩) 3 3] w (fun e w' => e = .returned (.int .i64 (orN a b c)) ∧ w' = w) := by
  go_enter Tryz.func92, Tryz.ntmps92
  go_wp2
  go_loop [8] (fun v => OrRel a b c v) (fun v => 3 - (intOf v).toNat)
  case atStart => exact ⟨0, by omega, rfl, by omega, by omega, by omega⟩
  case round =>
    obtain ⟨k, hk, rfl, q0, q1, q2⟩ := hrel
    have Q0 := hide q0
    have Q1 := hide q1
    have Q2 := hide q2
    clear q0 q1 q2
    have hc : k = 0 ∨ k = 1 ∨ k = 2 ∨ k = 3 := by omega
    rcases hc with rfl | rfl | rfl | rfl
    · by_cases hz : a = 0
      · subst hz
        go_wp2
        go_round
        case rel => exact ⟨1, by omega, rfl, fun _ => rfl, by omega, by omega⟩
        case measure => simp [intOf]
      · have E := hide (show orN a b c = a by simp [orN, hz])
        have hz' : (a != 0) = true := by simpa using hz
        go_wp2
        go_ret
        rw [E.out]
        exact ⟨rfl, rfl⟩
    · have ha := Q0.out (by omega)
      subst ha
      by_cases hz : b = 0
      · subst hz
        go_wp2
        go_round
        case rel => exact ⟨2, by omega, rfl, fun _ => rfl, fun _ => rfl, by omega⟩
        case measure => simp [intOf]
      · have E := hide (show orN 0 b c = b by simp [orN, hz])
        have hz' : (b != 0) = true := by simpa using hz
        go_wp2
        go_ret
        rw [E.out]
        exact ⟨rfl, rfl⟩
    · have ha := Q0.out (by omega)
      have hb := Q1.out (by omega)
      subst ha hb
      by_cases hz : c = 0
      · subst hz
        go_wp2
        go_round
        case rel => exact ⟨3, by omega, rfl, fun _ => rfl, fun _ => rfl, fun _ => rfl⟩
        case measure => simp [intOf]
      · have E := hide (show orN 0 0 c = c by simp [orN])
        have hz' : (c != 0) = true := by simpa using hz
        go_wp2
        go_ret
        rw [E.out]
        exact ⟨rfl, rfl⟩
    · have ha := Q0.out (by omega)
      have hb := Q1.out (by omega)
      have hc := Q2.out (by omega)
      subst ha hb hc
      go_wp2
      go_ret
      exact ⟨rfl, rfl⟩
theorem kF_or (x y : Kd) : kF x y = orN (cm x.to y.to) (cN x.nm y.nm) (cm x.nd y.nd) := kF_eq x y
set_option maxHeartbeats 2000000 in
theorem hold_any (x y : Kd) (W : World) : Calls Tryz.prog 69 #[.agg #[.int .i64 x.to, .string (bs x.nm), .int .i64 x.nd], .agg #[.int .i64 y.to, .string (bs y.nm), .int .i64 y.nd]] W
    (fun e w' => e = .returned (.int .i64 (kF x y)) ∧ ∃ q os', w' = grow (W.drewN q) os') := by
  have E := hide (kF_or x y)
  have K1 := hide (compare_any x.to y.to)
  have K2 := hide (lib_compare x.nm y.nm)
  have K3 := hide (compare_any x.nd y.nd)
  generalize cm x.to y.to = r1 at K1 E
  generalize cN x.nm y.nm = r2 at K2 E
  generalize cm x.nd y.nd = r3 at K3 E
  have KO := hide (fun g W h0 h1 h2 => or_any g r1 r2 r3 W h0 h1 h2)
  rw [E.out]
  generalize orN r1 r2 r3 = r at KO ⊢
  have bx := heap_alloc_new W (.cells #[.int .i64 x.to, .string (bs x.nm), .int .i64 x.nd] 79)
  have by' := heap_alloc_new (W.alloc (.cells #[.int .i64 x.to, .string (bs x.nm), .int .i64 x.nd] 79)) (.cells #[.int .i64 y.to, .string (bs y.nm), .int .i64 y.nd] 79)
  have bx2 := (Below.heap_alloc (W.alloc (.cells #[.int .i64 x.to, .string (bs x.nm), .int .i64 x.nd] 79)) (.cells #[.int .i64 y.to, .string (bs y.nm), .int .i64 y.nd] 79) W.heap.size (by simp)).trans bx
  have es : (W.alloc (.cells #[.int .i64 x.to, .string (bs x.nm), .int .i64 x.nd] 79)).heap.size = W.heap.size + 1 := by simp
  rw [es] at by'
  have HG := hide (show ∀ o, (((W.alloc (.cells #[.int .i64 x.to, .string (bs x.nm), .int .i64 x.nd] 79)).alloc (.cells #[.int .i64 y.to, .string (bs y.nm), .int .i64 y.nd] 79)).drew).alloc o = grow (W.drewN 1) #[.cells #[.int .i64 x.to, .string (bs x.nm), .int .i64 x.nd] 79 (0, 0), .cells #[.int .i64 y.to, .string (bs y.nm), .int .i64 y.nd] 79 (0, 0), o] by
    intro o
    rw [alloc_eq_grow, alloc_eq_grow, alloc_eq_grow, grow_grow, drew_grow, grow_grow]
    rfl)
  clear bx es E
  go_enter Tryz.func69, Tryz.ntmps69
  go_upto_region 1 with (fail)
  generalize (W.alloc (.cells #[.int .i64 x.to, .string (bs x.nm), .int .i64 x.nd] 79)).alloc (.cells #[.int .i64 y.to, .string (bs y.nm), .int .i64 y.nd] 79) = w1 at by' bx2 HG ⊢
  have a0 := cell_of_row _ _ 0 _ _ (0, 0) bx2
  have a1 := cell_of_row _ _ 1 _ _ (0, 0) bx2
  have a2 := cell_of_row _ _ 2 _ _ (0, 0) bx2
  have b0 := cell_of_row _ _ 0 _ _ (0, 0) by'
  have b1 := cell_of_row _ _ 1 _ _ (0, 0) by'
  have b2 := cell_of_row _ _ 2 _ _ (0, 0) by'
  simp at a0 a1 a2 b0 b1 b2
  have hS := And.intro a0 (And.intro a1 (And.intro a2 (And.intro b0 (And.intro b1 b2))))
  have lt0 : W.heap.size < w1.heap.size := (Array.getElem?_eq_some_iff.1 bx2).1
  have lt1 : W.heap.size + 1 < w1.heap.size := (Array.getElem?_eq_some_iff.1 by').1
  clear bx2 by'
  go_wp2_with fail
  go_region_held3 (fun w' => w'.cell? ⟨W.heap.size, 0, none⟩ = some (.int .i64 x.to) ∧ w'.cell? ⟨W.heap.size, 1, none⟩ = some (.string (bs x.nm)) ∧ w'.cell? ⟨W.heap.size, 2, none⟩ = some (.int .i64 x.nd) ∧ w'.cell? ⟨W.heap.size + 1, 0, none⟩ = some (.int .i64 y.to) ∧ w'.cell? ⟨W.heap.size + 1, 1, none⟩ = some (.string (bs y.nm)) ∧ w'.cell? ⟨W.heap.size + 1, 2, none⟩ = some (.int .i64 y.nd))
    (first | with_reducible exact hS | go_keep)
    (first
      | (go_at_call_of 93 (Value.int .i64 x.to)
         (with_reducible refine (K1.out _).mono ?_)
         rintro e w' ⟨rfl, hw'⟩
         subst hw')
      | (go_at_call 94
         (with_reducible refine (K2.out _).mono ?_)
         rintro e w' ⟨rfl, hw'⟩
         subst hw')
      | (go_at_call_of 93 (Value.int .i64 x.nd)
         (with_reducible refine (K3.out _).mono ?_)
         rintro e w' ⟨rfl, hw'⟩
         subst hw')
      | (go_at_call 92
         (with_reducible refine (KO.out _ _ ?_ ?_ ?_).mono ?_)
         (simp)
         (simp)
         (simp)
         rintro e w' ⟨rfl, hw'⟩
         subst hw'))
  go_wp2
  go_ret
  exact ⟨rfl, 1, _, HG.out _⟩
theorem hold_lays (blk off size : Nat) (w : World) : CmpLays Tryz.prog 69 #[] kc 3 kF blk off size w :=
  fun _ _ _ _ x y => hold_any x y _
theorem flat_at (ks : List Kd) (t : Nat) (ht : t < ks.length * 3) : (flatK kc 3 ks.toArray)[t]! = (kcs ks)[t]! := by
  rw [get_flatK _ _ _ t (by simpa using ht)]
  have h1 : t / 3 < ks.length := by omega
  have h2 := kcs_at ks (t / 3) (t % 3) h1 (by omega)
  rw [show t / 3 * 3 + t % 3 = t by omega] at h2
  have h3 : (ks.toArray)[t / 3]! = ks[t / 3] := by simp [h1]
  rw [h3, List.getElem!_eq_getElem?_getD, List.getElem!_eq_getElem?_getD, h2]
theorem OwnKids.holds {w : World} {base g cap : Nat} {ks : List Kd} (h : OwnKids w base (.slice (some ⟨g, 0, none⟩) ks.length cap) ks) (hb : ∃ cur, w.heap[g]? = some (.cells cur 79 (0, 0))) : HoldsK kc 3 w g 0 ks.toArray := by
  intro j hj
  have hj' : j < ks.length * 3 := by simpa using hj
  have hl := kcs_length ks
  have hc := World.ownsRow.cells (g := g) h rfl j (kcs ks)[j]! (by rw [List.getElem!_eq_getElem?_getD]; rw [List.getElem?_eq_getElem (by omega)]; rfl)
  obtain ⟨cur, hcur⟩ := hb
  refine ⟨?_, Joins.unfrozen_of_block hcur _⟩
  rw [flat_at ks j hj']
  rw [Addr.add_lit] at hc
  exact hc
theorem sorted_row {w : World} {g cap : Nat} {ks : List Kd} {base n : Nat} {os : Array Obj} (h : OwnKids w base (.slice (some ⟨g, 0, none⟩) ks.length cap) ks) :
    OwnKids (sortWorldK kc 3 w g 0 n (sortK ks).toArray os) base (.slice (some ⟨g, 0, none⟩) ks.length cap) (sortK ks) ∧ w.grownBy (sortWorldK kc 3 w g 0 n (sortK ks).toArray os) (some g) := by
  have hlen := sortK_length ks
  rcases h.2 with ⟨h0, _⟩ | ⟨g', cap', cur, h0, h2, h3, h4, h5, h6, h7⟩
  · cases h0
  injection h0 with e1 e2 e3
  injection e1 with e1
  injection e1 with e1
  subst e1 e3
  have hg : g < w.heap.size := (Array.getElem?_eq_some_iff.1 h3).1
  refine ⟨⟨by rw [kcs_length, hlen], .inr ⟨g, cap, putCells id 0 (flatK kc 3 (sortK ks).toArray) cur, by rw [hlen], h2, ?_, by omega, h5, by simp [putCells, h6], ?_⟩⟩, ?_⟩
  · unfold sortWorldK
    rw [heap_grow_old _ _ (by simpa [putRowK] using hg)]
    show ((Sort.ahead w n).heap.modify g (onCells _))[g]? = _
    rw [Array.getElem?_modify, if_pos rfl]
    show Option.map _ w.heap[g]? = _
    rw [h3]
    rfl
  · apply List.ext_getElem?
    intro t
    rw [List.getElem?_take]
    split
    · rename_i ht
      have hts : t < cur.size := by rw [h6]; omega
      rw [Array.getElem?_toList, putCells, Array.getElem?_mapIdx, Array.getElem?_eq_getElem hts]
      have hfl : t < (flatK kc 3 (sortK ks).toArray).size := by simp; omega
      simp only [Option.map_some, Nat.zero_le, Nat.zero_add, true_and, hfl, if_true, Nat.sub_zero, id]
      rw [flat_at _ t (by omega), List.getElem!_eq_getElem?_getD, List.getElem?_eq_getElem (by rw [kcs_length]; omega)]
      rfl
    · rw [List.getElem?_eq_none (by rw [kcs_length]; omega)]
  · refine ⟨rfl, rfl, rfl, ?_, fun k hk hne => ?_⟩
    · unfold sortWorldK
      simp [putRowK]
    · unfold sortWorldK
      rw [heap_grow_old _ _ (by simpa [putRowK] using hk)]
      show ((Sort.ahead w n).heap.modify g (onCells _))[k]? = _
      rw [Array.getElem?_modify, if_neg (by intro e; exact hne (by rw [e]))]
      rfl
theorem sort_any (base : Nat) (v : Value) (ks : List Kd) (w : World) (h : OwnKids w base v ks) (hl : ks.length ≤ 1000000) :
    Calls Tryz.prog 68 #[v, .func (.func 69) #[] #[]] w (fun e w' => e = .returned (.tuple #[]) ∧ OwnKids w' base v (sortK ks) ∧ w.grownBy w' v.ownBlock) := by
  have hrefl : w.grownBy w v.ownBlock := ⟨rfl, rfl, rfl, Nat.le_refl _, fun _ _ _ => rfl⟩
  by_cases h0 : ks = []
  · subst h0
    have e : sortK [] = [] := by simp [sortK]
    rw [e]
    have h' := h
    rcases h'.2 with ⟨rfl, _⟩ | ⟨g, cap, cur, rfl, _⟩
    · refine (AnyF.slices_SortFunc_none { Tryz.sortK with } none 0 _ w).mono ?_
      rintro x w' ⟨rfl, rfl⟩
      exact ⟨rfl, h, hrefl⟩
    · refine (AnyF.slices_SortFunc_none { Tryz.sortK with } (some ⟨g, 0, none⟩) cap _ w).mono ?_
      rintro x w' ⟨rfl, rfl⟩
      exact ⟨rfl, h, hrefl⟩
  · have hp : 0 < ks.length := List.length_pos_iff.2 h0
    have h' := h
    rcases h'.2 with ⟨rfl, h1⟩ | ⟨g, cap, cur, rfl, h2, h3, h4⟩
    · omega
    · have hg : g < w.heap.size := (Array.getElem?_eq_some_iff.1 h3).1
      have eg : ∀ args w, (callFunc 69 args).run Tryz.prog w = .ok (.enter 69 args) w := enters_of Tryz.func69 (by kernel_rfl) rfl
      have hc := AnyQ.slices_SortFunc_total Tryz.sortK 3 (fun w => by kernel_rfl) (fun w => by kernel_rfl) kc (fun _ => rfl) (fun x u hu => kcs_one [x] u (by simpa [kcs] using hu)) kF kF_swo 69 #[] g 0 cap ks.toArray w eg (hold_lays g 0 _ w) (h.holds ⟨cur, h3⟩) hg (by simp; omega) kF_total
      have hc' : Calls Tryz.prog 68 #[.slice (some ⟨g, 0, none⟩) ks.length cap, .func (.func 69) #[] #[]] w _ := hc
      refine hc'.mono ?_
      rintro x w' ⟨rfl, n, os, rfl⟩
      have := sorted_row (n := n) (os := os) h
      exact ⟨rfl, this.1, this.2⟩
end Go.Proofs.YtimfeocaghccdaaGreatDoor
