/-
  Contracts of package arena, of numbers: New, Live, Room. Conditions: the arena is one, in memory.
-/
import Derived.Test.YtcckamajiebgeaaNAMem
import Derived.LoopTactic
import Derived.Lib.LazyBuf
import Derived.RegionTactic
import Derived.Laws.ResultCell
import Derived.Deep.QuietTactic
import Derived.BigQuiet
import Derived.Deep.CutRange
import Derived.Deep.RegionLaw
import Derived.Deep.RegionHeld3
import Derived.Deep.DeepCutAuto
namespace Go.Proofs.Ytcckamajiebgeaa
open Go.RowKit
set_option linter.unusedVariables false
set_option linter.unusedSimpArgs false
set_option maxRecDepth 100000

theorem An.new (w : World) (most : Nat) (hm : most ≤ 1048576) : An (w.alloc (.cells #[.int .i64 (most : Int), .slice none 0 0, .slice none 0 0] 85)) w.heap.size most 0 ⟨[], []⟩ [w.heap.size] := by
  refine ⟨Arw.start, rfl, Nat.zero_le _, hm, by simp, Nat.le_refl _, .slice none 0 0, .slice none 0 0, ⟨heap_alloc_new w _, ?_, ?_⟩, rfl⟩
  · exact World.ownsRow_nil ..
  · exact World.ownsRow_nil ..
def NewRet (n : Int) (w : World) (e : Ending) (w' : World) : Prop :=
  Below w.heap.size w w' ∧ if 0 ≤ n ∧ n ≤ 1048576 then e = .returned (.pointer (some ⟨w.heap.size, 0, none⟩)) ∧ An w' w.heap.size n.toNat 0 ⟨[], []⟩ [w.heap.size] else e = .returned (.pointer none)
theorem anew_any (n : Int) (hn : i64B n) (w : World) : Calls Try.prog 29 #[.int .i64 n] w (NewRet n w) := by
  by_cases h0 : n < 0
  · have hif : ¬ (0 ≤ n ∧ n ≤ 1048576) := by omega
    unfold NewRet
    simp only [if_neg hif]
    have B := hide (Below.refl w.heap.size w)
    clear hif
    go_enter Try.func29, Try.ntmps29
    go_wp2
    go_ret
    exact ⟨B.out, rfl⟩
  · by_cases h1 : 1048576 < n
    · have hif : ¬ (0 ≤ n ∧ n ≤ 1048576) := by omega
      unfold NewRet
      simp only [if_neg hif]
      have B := hide (Below.refl w.heap.size w)
      clear hif
      go_enter Try.func29, Try.ntmps29
      go_wp2
      go_ret
      exact ⟨B.out, rfl⟩
    · obtain ⟨m, rfl⟩ : ∃ m : Nat, n = m := ⟨n.toNat, by omega⟩
      have hif : 0 ≤ (m : Int) ∧ (m : Int) ≤ 1048576 := by omega
      unfold NewRet
      simp only [if_pos hif]
      have B := hide ((Below.refl w.heap.size w).alloc (Nat.le_refl _) (.cells #[.int .i64 (m : Int), .slice none 0 0, .slice none 0 0] 85))
      have T := hide (An.new w m (by omega))
      clear hif
      go_enter Try.func29, Try.ntmps29
      go_wp2
      go_ret
      exact ⟨B.out, rfl, T.out⟩
theorem alive_any (g most U : Nat) (A : Ar) (fs : List Nat) (hU : U ≤ 1000000000) (w : World) (h : An w g most U A fs) : Calls Try.prog 36 #[.pointer (some ⟨g, 0, none⟩)] w (IntRet .i64 A.live w) := by
  have hc := h.cnt
  have hl := h.len
  obtain ⟨vs, vf, M, rfl⟩ := h.mem
  obtain ⟨a1, d1, rfl⟩ := row_form M.sl
  obtain ⟨a2, d2, rfl⟩ := row_form M.fr
  have c1 := M.cell1
  have c2 := M.cell2
  generalize A.sl.length = n1 at *
  generalize A.fr.length = n2 at *
  have E := hide (show ((n1 : Int) - (n2 : Int)) = (A.live : Int) by omega)
  have B := hide (Below.refl w.heap.size w)
  have b1 : n1 ≤ 1000000000 := by omega
  have b2 : n2 ≤ 1000000000 := by omega
  clear h M hc hl
  go_enter Try.func36, Try.ntmps36
  go_wp2_with fail
  go_quiet (fail)
  go_wp2
  go_ret
  exact ⟨ret_int E.out, below_q B.out _⟩
theorem aroom_any (g most U : Nat) (A : Ar) (fs : List Nat) (hU : U ≤ 1000000000) (w : World) (h : An w g most U A fs) : Calls Try.prog 37 #[.pointer (some ⟨g, 0, none⟩)] w (IntRet .i64 (most - A.live) w) := by
  have hl := h.le
  have hm := h.mle
  have K := hide (fun W (hb : Below w.heap.size w W) => alive_any g most U A fs hU W (h.below hb))
  have B := hide (Below.refl w.heap.size w)
  obtain ⟨vs, vf, M, rfl⟩ := h.mem
  have c0 := M.cell0
  generalize A.live = n at *
  have E := hide (show ((most : Int) - (n : Int)) = ((most - n : Nat) : Int) by omega)
  clear h M
  go_enter Try.func37, Try.ntmps37
  go_wp2_with fail
  go_region_held3 (fun w' => w'.cell? ⟨g, 0, none⟩ = some (.int .i64 (most : Int)))
    (first | with_reducible exact hS1 | with_reducible exact c0 | go_keep)
    (first
      | (go_at_call 36
         (with_reducible refine (K.out _ (Below.refl _ w).drew).mono ?_)
         rintro e w2 ⟨rfl, hb⟩
         have hb' : Below w.heap.size w w2 := ⟨hb.os, hb.tape, hb.output, hb.size, hb.block⟩
         have hS1 := cell_b hb' c0
         have B2 := hide hb'
         clear hb hb'))
  go_wp2
  go_ret
  exact ⟨ret_int ((wrap_in _ (by omega) (by omega)).trans E.out), B2.out⟩
theorem Ar.get_low {A : Ar} {s g : Int} (h : s < 1) : A.get s g = none := by unfold Ar.get; rw [if_neg (by omega)]
theorem Ar.get_high {A : Ar} {s g : Int} (h : (A.sl.length : Int) < s) : A.get s g = none := by
  unfold Ar.get
  rw [if_pos (by omega), List.getElem?_eq_none (by omega)]
theorem Ar.get_at {A : Ar} {k : Nat} (h : k < A.sl.length) (g : Int) : A.get ((k : Int) + 1) g = if (A.sl[k].gen : Int) = g then A.sl[k].it else none := by
  unfold Ar.get
  rw [if_pos (by omega), show ((k : Int) + 1).toNat - 1 = k by omega, List.getElem?_eq_getElem h]
theorem Am.nine {w : World} {g most : Nat} {b c : Nat} {vf : Value} {A : Ar} (h : Am w g most (.slice (some ⟨b, 0, none⟩) A.sl.length c) vf A) (k : Nat) (hk : k < A.sl.length) (i : Nat) (hi : i < 9) : w.cell? ⟨b, k * 9 + i, none⟩ = (slc A.sl[k])[i]? := by
  rw [h.sl.cellAt (k * 9 + i) (by omega), slcs_get A.sl k i hk hi]
theorem Am.two {w : World} {g most : Nat} {b c : Nat} {vf : Value} {A : Ar} (h : Am w g most (.slice (some ⟨b, 0, none⟩) A.sl.length c) vf A) (k : Nat) (hk : k < A.sl.length) :
    w.cell? ⟨b, k * 9 + 7, none⟩ = some (.bool A.sl[k].it.isSome) ∧ w.cell? ⟨b, k * 9 + 8, none⟩ = some (.int .i64 (A.sl[k].gen : Int)) := ⟨h.nine k hk 7 (by omega), h.nine k hk 8 (by omega)⟩
theorem Am.seven {w : World} {g most : Nat} {b c : Nat} {vf : Value} {A : Ar} (h : Am w g most (.slice (some ⟨b, 0, none⟩) A.sl.length c) vf A) (k : Nat) (hk : k < A.sl.length) {n : Nd} (hn : A.sl[k].it = some n) :
    w.cell? ⟨b, k * 9, none⟩ = some (.int .i64 n.k) ∧ w.cell? ⟨b, k * 9 + 1, none⟩ = some (.int .i64 n.v) ∧ w.cell? ⟨b, k * 9 + 2, none⟩ = some (.int .i64 n.l.1) ∧ w.cell? ⟨b, k * 9 + 3, none⟩ = some (.int .i64 n.l.2) ∧ w.cell? ⟨b, k * 9 + 4, none⟩ = some (.int .i64 n.r.1) ∧ w.cell? ⟨b, k * 9 + 5, none⟩ = some (.int .i64 n.r.2) ∧ w.cell? ⟨b, k * 9 + 6, none⟩ = some (.int .i64 n.h) := by
  have h0 := h.nine k hk
  unfold slc at h0
  rw [hn] at h0
  exact ⟨h0 0 (by omega), h0 1 (by omega), h0 2 (by omega), h0 3 (by omega), h0 4 (by omega), h0 5 (by omega), h0 6 (by omega)⟩
theorem Am.form {w : World} {g most : Nat} {vs vf : Value} {A : Ar} (h : Am w g most vs vf A) (hn : 0 < A.sl.length) : ∃ b c, vs = .slice (some ⟨b, 0, none⟩) A.sl.length c ∧ b ≠ g := by
  obtain ⟨b, c, rfl, _, _⟩ := h.sl.form hn
  exact ⟨b, c, rfl, fun e => h.neS (by rw [e]; rfl)⟩
set_option maxHeartbeats 1000000 in
theorem alies_any (g most U : Nat) (A : Ar) (fs : List Nat) (s t : Int) (hs : i64B s) (ht : i64B t) (hU : U ≤ 1000000000) (w : World) (h : An w g most U A fs) : Calls Try.prog 46 #[.pointer (some ⟨g, 0, none⟩), .agg #[.int .i64 s, .int .i64 t]] w (BoolRet (A.get s t).isSome w) := by
  have hl := h.len
  obtain ⟨vs, vf, M, rfl⟩ := h.mem
  have B := hide ((Below.refl w.heap.size w).alloc (Nat.le_refl _) (.cells #[.int .i64 s, .int .i64 t] 28))
  have bx := heap_alloc_new w (.cells #[.int .i64 s, .int .i64 t] 28)
  have MX := hide (M.alloc (.cells #[.int .i64 s, .int .i64 t] 28))
  clear h M
  by_cases h0 : s < 1
  · have E := hide (show (A.get s t).isSome = false by rw [Ar.get_low h0]; rfl)
    have d0 : decide (s < 1) = true := by simpa using h0
    rw [E.out]
    clear E MX
    go_enter Try.func46, Try.ntmps46
    go_upto_region 1 with (fail)
    generalize w.alloc (.cells #[.int .i64 s, .int .i64 t] 28) = w1 at B bx ⊢
    have x0 := cell_of_row _ _ 0 _ _ (0, 0) bx
    simp at x0
    clear bx
    go_wp2_with fail
    go_quiet (fail)
    go_wp2
    go_ret
    exact ⟨rfl, below_q B.out _⟩
  · by_cases h1 : (A.sl.length : Int) < s
    · have E := hide (show (A.get s t).isSome = false by rw [Ar.get_high h1]; rfl)
      have d0 : decide (s < 1) = false := by simpa using h0
      have d1 : decide (s > (A.sl.length : Int)) = true := by simpa using h1
      rw [E.out]
      have c1 := MX.out.cell1
      obtain ⟨a1, e1, rfl⟩ := row_form MX.out.sl
      generalize A.sl.length = n at *
      clear E MX
      go_enter Try.func46, Try.ntmps46
      go_upto_region 1 with (fail)
      generalize w.alloc (.cells #[.int .i64 s, .int .i64 t] 28) = w1 at B bx c1 ⊢
      have x0 := cell_of_row _ _ 0 _ _ (0, 0) bx
      simp at x0
      clear bx
      go_wp2_with fail
      go_quiet (fail)
      go_wp2
      go_ret
      exact ⟨rfl, below_q B.out _⟩
    · obtain ⟨k, rfl⟩ : ∃ k : Nat, s = (k : Int) + 1 := ⟨(s - 1).toNat, by omega⟩
      have hk : k < A.sl.length := by omega
      have E := hide (congrArg Option.isSome (Ar.get_at hk t))
      obtain ⟨b, c, rfl, hbg⟩ := MX.out.form (by omega)
      have c1 := MX.out.cell1
      obtain ⟨z1, z2⟩ := MX.out.two k hk
      generalize (A.get ((k : Int) + 1) t).isSome = r at E ⊢
      generalize A.sl[k] = x at *
      generalize A.sl.length = n at *
      have d0 : decide ((k : Int) + 1 < 1) = false := by simp; omega
      have d1 : decide ((k : Int) + 1 > (n : Int)) = false := by simp; omega
      have wk : IntKind.i64.wrap ((k : Int) + 1 - 1) = (k : Int) := (wrap_in _ (by omega) (by omega)).trans (by omega)
      have i0 : (0 : Int) ≤ (k : Int) := by omega
      have i1 : (k : Int) < (n : Int) := by omega
      clear MX h0 h1 hs ht
      go_enter Try.func46, Try.ntmps46
      go_upto_region 1 with (fail)
      generalize w.alloc (.cells #[.int .i64 ((k : Int) + 1), .int .i64 t] 28) = w1 at B bx c1 z1 z2 ⊢
      have x0 := cell_of_row _ _ 0 _ _ (0, 0) bx
      have x1 := cell_of_row _ _ 1 _ _ (0, 0) bx
      simp at x0 x1
      clear bx
      cases hu : x.it with
      | none =>
        rw [hu] at z1 E
        have E1 := hide (show r = false by rw [E.out]; split <;> rfl)
        simp only [Option.isSome_none] at z1
        clear E hu
        go_wp2_with fail
        go_quiet (fail)
        go_wp2
        go_quiet (fail)
        go_wp2
        go_quiet (fail)
        go_wp2
        go_ret
        exact ⟨by rw [E1.out]; rfl, below_q (below_q (below_q B.out _) _) _⟩
      | some v =>
        rw [hu] at z1 E
        have E1 := hide (show r = ((x.gen : Int) == t) by rw [E.out]; by_cases e : (x.gen : Int) = t <;> simp [e])
        simp only [Option.isSome_some] at z1
        clear E hu
        go_wp2_with fail
        go_quiet (fail)
        go_wp2
        go_quiet (fail)
        go_wp2
        go_quiet (fail)
        go_wp2
        go_ret
        exact ⟨by rw [E1.out]; rfl, below_q (below_q (below_q B.out _) _) _⟩
/-- A node as a value. -/
def ndv (n : Nd) : Value := .agg #[.int .i64 n.k, .int .i64 n.v, .int .i64 n.l.1, .int .i64 n.l.2, .int .i64 n.r.1, .int .i64 n.r.2, .int .i64 n.h]
/-- What Get answers. -/
def GetRet (o : Option Nd) (w : World) (e : Ending) (w' : World) : Prop := e = .returned (.tuple #[ndv (o.getD ndz), .bool o.isSome]) ∧ Below w.heap.size w w'
theorem nd_cells {w : World} {b : Nat} {u0 u1 u2 u3 u4 u5 u6 : Value} (h : w.heap[b]? = some (.cells #[u0, u1, u2, u3, u4, u5, u6] 60 (0, 0))) :
    w.cell? ⟨b, 0, none⟩ = some u0 ∧ w.cell? ⟨b, 1, none⟩ = some u1 ∧ w.cell? ⟨b, 2, none⟩ = some u2 ∧ w.cell? ⟨b, 3, none⟩ = some u3 ∧ w.cell? ⟨b, 4, none⟩ = some u4 ∧ w.cell? ⟨b, 5, none⟩ = some u5 ∧ w.cell? ⟨b, 6, none⟩ = some u6 ∧
    w.frozen? ⟨b, 0, none⟩ = false ∧ w.frozen? ⟨b, 1, none⟩ = false ∧ w.frozen? ⟨b, 2, none⟩ = false ∧ w.frozen? ⟨b, 3, none⟩ = false ∧ w.frozen? ⟨b, 4, none⟩ = false ∧ w.frozen? ⟨b, 5, none⟩ = false ∧ w.frozen? ⟨b, 6, none⟩ = false :=
  ⟨cell_of_row w b 0 _ _ (0, 0) h, cell_of_row w b 1 _ _ (0, 0) h, cell_of_row w b 2 _ _ (0, 0) h, cell_of_row w b 3 _ _ (0, 0) h, cell_of_row w b 4 _ _ (0, 0) h, cell_of_row w b 5 _ _ (0, 0) h, cell_of_row w b 6 _ _ (0, 0) h, Joins.unfrozen_of_block h 0, Joins.unfrozen_of_block h 1, Joins.unfrozen_of_block h 2, Joins.unfrozen_of_block h 3, Joins.unfrozen_of_block h 4, Joins.unfrozen_of_block h 5, Joins.unfrozen_of_block h 6⟩
/-- But for one block the world is as it was. -/
structure But (b : Nat) (w w' : World) : Prop where
  os : w'.os = w.os
  tape : w'.tape = w.tape
  output : w'.output = w.output
  size : w'.heap.size = w.heap.size
  block : ∀ k, k ≠ b → w'.heap[k]? = w.heap[k]?
theorem But.refl (b : Nat) (w : World) : But b w w := ⟨rfl, rfl, rfl, rfl, fun _ _ => rfl⟩
theorem But.set {b : Nat} {w w' : World} (h : But b w w') (i : Nat) (v : Value) : But b w (w'.setCell ⟨b, i, none⟩ v) :=
  ⟨h.os, h.tape, h.output, by rw [← h.size]; simp [World.setCell], fun k hk => (Below.heap_setCell _ _ _ _ hk).trans (h.block k hk)⟩
theorem But.below {b B : Nat} {W w w' : World} (h : But b w w') (hb : Below B W w) (hB : W.heap.size ≤ b) (hBB : B = W.heap.size := by rfl) : Below B W w' := by
  subst hBB
  exact ⟨h.os.trans hb.os, h.tape.trans hb.tape, h.output.trans hb.output, by rw [h.size]; exact hb.size, fun k hk => (h.block k (by omega)).trans (hb.block k hk)⟩
/-- A node is stored in a block of its own. -/
theorem nd_stored {w : World} {b : Nat} {u0 u1 u2 u3 u4 u5 u6 : Value} (h : w.heap[b]? = some (.cells #[u0, u1, u2, u3, u4, u5, u6] 60 (0, 0))) (n : Nd) :
    (((((((w.setCell ⟨b, 0, none⟩ (.int .i64 n.k)).setCell ⟨b, 1, none⟩ (.int .i64 n.v)).setCell ⟨b, 2, none⟩ (.int .i64 n.l.1)).setCell ⟨b, 3, none⟩ (.int .i64 n.l.2)).setCell ⟨b, 4, none⟩ (.int .i64 n.r.1)).setCell ⟨b, 5, none⟩ (.int .i64 n.r.2)).setCell ⟨b, 6, none⟩ (.int .i64 n.h)).heap[b]? = some (.cells #[.int .i64 n.k, .int .i64 n.v, .int .i64 n.l.1, .int .i64 n.l.2, .int .i64 n.r.1, .int .i64 n.r.2, .int .i64 n.h] 60 (0, 0)) ∧
    But b w (((((((w.setCell ⟨b, 0, none⟩ (.int .i64 n.k)).setCell ⟨b, 1, none⟩ (.int .i64 n.v)).setCell ⟨b, 2, none⟩ (.int .i64 n.l.1)).setCell ⟨b, 3, none⟩ (.int .i64 n.l.2)).setCell ⟨b, 4, none⟩ (.int .i64 n.r.1)).setCell ⟨b, 5, none⟩ (.int .i64 n.r.2)).setCell ⟨b, 6, none⟩ (.int .i64 n.h)) := by
  have h0 := Joins.block_setCell (i := 0) h (.int .i64 n.k)
  have h1 := Joins.block_setCell (i := 1) h0 (.int .i64 n.v)
  have h2 := Joins.block_setCell (i := 2) h1 (.int .i64 n.l.1)
  have h3 := Joins.block_setCell (i := 3) h2 (.int .i64 n.l.2)
  have h4 := Joins.block_setCell (i := 4) h3 (.int .i64 n.r.1)
  have h5 := Joins.block_setCell (i := 5) h4 (.int .i64 n.r.2)
  have h6 := Joins.block_setCell (i := 6) h5 (.int .i64 n.h)
  exact ⟨by simpa using h6, (((((((But.refl b w).set 0 _).set 1 _).set 2 _).set 3 _).set 4 _).set 5 _).set 6 _⟩
set_option maxHeartbeats 2000000 in
theorem aget_any (g most U : Nat) (A : Ar) (fs : List Nat) (s t : Int) (hs : i64B s) (ht : i64B t) (hU : U ≤ 1000000000) (w : World) (h : An w g most U A fs) : Calls Try.prog 38 #[.pointer (some ⟨g, 0, none⟩), .agg #[.int .i64 s, .int .i64 t]] w (GetRet (A.get s t) w) := by
  have hl := h.len
  have Bz := ((Below.refl w.heap.size w).alloc (Nat.le_refl _) (.cells #[.int .i64 s, .int .i64 t] 28)).alloc (by simp) (.cells #[.int .i64 0, .int .i64 0, .int .i64 0, .int .i64 0, .int .i64 0, .int .i64 0, .int .i64 0] 60)
  have bx : ((w.alloc (.cells #[.int .i64 s, .int .i64 t] 28)).alloc (.cells #[.int .i64 0, .int .i64 0, .int .i64 0, .int .i64 0, .int .i64 0, .int .i64 0, .int .i64 0] 60)).heap[w.heap.size]? = some (.cells #[.int .i64 s, .int .i64 t] 28 (0, 0)) := (((Below.refl _ (w.alloc (.cells #[.int .i64 s, .int .i64 t] 28))).alloc (Nat.le_refl _) (.cells #[.int .i64 0, .int .i64 0, .int .i64 0, .int .i64 0, .int .i64 0, .int .i64 0, .int .i64 0] 60)).block _ (by simp)).trans (heap_alloc_new w _)
  have by' := heap_alloc_new (w.alloc (.cells #[.int .i64 s, .int .i64 t] 28)) (.cells #[.int .i64 0, .int .i64 0, .int .i64 0, .int .i64 0, .int .i64 0, .int .i64 0, .int .i64 0] 60)
  have hA := h.below Bz
  have K := hide (alies_any g most U A fs s t hs ht hU _ hA)
  have HA := hide hA
  have B := hide Bz
  have HX := hide bx
  have HY := hide by'
  clear Bz hA h bx by'
  go_enter Try.func38, Try.ntmps38
  go_upto_region 1 with (fail)
  have lx : w.heap.size < ((w.alloc (.cells #[.int .i64 s, .int .i64 t] 28)).alloc (.cells #[.int .i64 0, .int .i64 0, .int .i64 0, .int .i64 0, .int .i64 0, .int .i64 0, .int .i64 0] 60)).heap.size := by simp; omega
  have ly : w.heap.size + 1 < ((w.alloc (.cells #[.int .i64 s, .int .i64 t] 28)).alloc (.cells #[.int .i64 0, .int .i64 0, .int .i64 0, .int .i64 0, .int .i64 0, .int .i64 0, .int .i64 0] 60)).heap.size := by simp
  rw [show (w.alloc (.cells #[.int .i64 s, .int .i64 t] 28)).heap.size = w.heap.size + 1 by simp] at HY
  generalize (w.alloc (.cells #[.int .i64 s, .int .i64 t] 28)).alloc (.cells #[.int .i64 0, .int .i64 0, .int .i64 0, .int .i64 0, .int .i64 0, .int .i64 0, .int .i64 0] 60) = w1 at *
  have x0 := cell_of_row _ _ 0 _ _ (0, 0) HX.out
  have x1 := cell_of_row _ _ 1 _ _ (0, 0) HX.out
  simp at x0 x1
  go_wp2_with fail
  refine K.out.mono ?_
  rintro e w2 ⟨rfl, hb⟩
  have B2 := hide (B.out.trans (hb.mono B.out.size))
  have A2 := HA.out.below hb
  have HX2 := (hb.block _ lx).trans HX.out
  have HY2 := hide ((hb.block _ ly).trans HY.out)
  have x0 := cell_of_row _ _ 0 _ _ (0, 0) HX2
  simp at x0
  obtain ⟨hy0, hy1, hy2, hy3, hy4, hy5, hy6, fy0, fy1, fy2, fy3, fy4, fy5, fy6⟩ := nd_cells HY2.out
  have ly2 : w.heap.size + 1 < w2.heap.size := Nat.lt_of_lt_of_le ly hb.size
  unfold GetRet
  cases hg : A.get s t with
  | none =>
    have HGT := hide hg
    clear hb K HA HX A2 HX2 x1 hg
    go_upto_region 3 with (fail)
    have D := (Below.refl w2.heap.size w2).alloc (Nat.le_refl _) (.cells #[.int .i64 0, .int .i64 0, .int .i64 0, .int .i64 0, .int .i64 0, .int .i64 0, .int .i64 0] 60)
    have HZ := heap_alloc_new w2 (.cells #[.int .i64 0, .int .i64 0, .int .i64 0, .int .i64 0, .int .i64 0, .int .i64 0, .int .i64 0] 60)
    have HY3 := hide ((D.block _ ly2).trans HY2.out)
    have B3 := hide (B2.out.trans (D.mono B2.out.size))
    clear hy0 hy1 hy2 hy3 hy4 hy5 hy6 fy0 fy1 fy2 fy3 fy4 fy5 fy6 HY HY2 B2 D x0 lx ly
    generalize w2.alloc (.cells #[.int .i64 0, .int .i64 0, .int .i64 0, .int .i64 0, .int .i64 0, .int .i64 0, .int .i64 0] 60) = w3 at *
    obtain ⟨hz0, hz1, hz2, hz3, hz4, hz5, hz6, -⟩ := nd_cells HZ
    obtain ⟨hy0, hy1, hy2, hy3, hy4, hy5, hy6, fy0, fy1, fy2, fy3, fy4, fy5, fy6⟩ := nd_cells HY3.out
    clear HZ
    go_wp2_with fail
    have E := nd_stored HY3.out ndz
    simp only [ndz] at E
    have B4 := hide (E.2.below B3.out (by omega))
    have HY4 := E.1
    clear E hy0 hy1 hy2 hy3 hy4 hy5 hy6 fy0 fy1 fy2 fy3 fy4 fy5 fy6 hz0 hz1 hz2 hz3 hz4 hz5 hz6 HY3 B3
    generalize ((((((w3.setCell ⟨w.heap.size + 1, 0, none⟩ (.int .i64 0)).setCell ⟨w.heap.size + 1, 1, none⟩ (.int .i64 0)).setCell ⟨w.heap.size + 1, 2, none⟩ (.int .i64 0)).setCell ⟨w.heap.size + 1, 3, none⟩ (.int .i64 0)).setCell ⟨w.heap.size + 1, 4, none⟩ (.int .i64 0)).setCell ⟨w.heap.size + 1, 5, none⟩ (.int .i64 0)).setCell ⟨w.heap.size + 1, 6, none⟩ (.int .i64 0) = w4 at *
    obtain ⟨hy0, hy1, hy2, hy3, hy4, hy5, hy6, -⟩ := nd_cells HY4
    refine bodyPost_ret (v := .tuple #[ndv ndz, .bool false]) ?_ rfl ⟨by rw [HGT.out]; rfl, B4.out⟩
    rw [results_cell_tmp rfl]
    simp only [ndv, ndz]
    go_simp
  | some n =>
    obtain ⟨h1, k, hk, hkg, hki⟩ := get_some hg
    obtain ⟨j, rfl⟩ : ∃ j : Nat, s = (j : Int) + 1 := ⟨(s - 1).toNat, by omega⟩
    rw [show ((j : Int) + 1).toNat - 1 = j by omega] at hk
    obtain ⟨hj, hk⟩ := List.getElem?_eq_some_iff.1 hk
    have i1 : j < A.sl.length := hj
    have i0 : (0 : Int) ≤ (j : Int) := by omega
    have i2 : (j : Int) < (A.sl.length : Int) := by omega
    have wk : IntKind.i64.wrap ((j : Int) + 1 - 1) = (j : Int) := (wrap_in _ (by omega) (by omega)).trans (by omega)
    obtain ⟨vs, vf, M, _⟩ := A2.mem
    obtain ⟨b, c, rfl, hbg⟩ := M.form (by omega)
    have c1 := M.cell1
    rw [← hk] at hki
    obtain ⟨z0, z1, z2, z3, z4, z5, z6⟩ := M.seven j hj hki
    have hbne : b ≠ w.heap.size + 1 := by
      rintro rfl
      obtain ⟨cur, h2⟩ := row_block M.sl rfl
      rw [HY2.out] at h2
      simp at h2
    have HGT := hide hg
    clear h1 hs M A2 hb K HA HX x1 B hk hki hkg HX2 hg hj i1
    generalize A.sl.length = m at *
    go_upto_region 4 with (fail)
    go_region
    all_goals
      have E := nd_stored HY2.out n
      have B4 := hide (below_q (E.2.below B2.out (by omega)) 1)
      have HY4 := E.1
      clear E hy0 hy1 hy2 hy3 hy4 hy5 hy6 fy0 fy1 fy2 fy3 fy4 fy5 fy6 HY2 B2 z0 z1 z2 z3 z4 z5 z6 x0 c1 HY lx ly
      generalize ((((((w2.setCell ⟨w.heap.size + 1, 0, none⟩ (.int .i64 n.k)).setCell ⟨w.heap.size + 1, 1, none⟩ (.int .i64 n.v)).setCell ⟨w.heap.size + 1, 2, none⟩ (.int .i64 n.l.1)).setCell ⟨w.heap.size + 1, 3, none⟩ (.int .i64 n.l.2)).setCell ⟨w.heap.size + 1, 4, none⟩ (.int .i64 n.r.1)).setCell ⟨w.heap.size + 1, 5, none⟩ (.int .i64 n.r.2)).setCell ⟨w.heap.size + 1, 6, none⟩ (.int .i64 n.h) = w4 at *
      obtain ⟨hy0, hy1, hy2, hy3, hy4, hy5, hy6, -⟩ := nd_cells HY4
      go_wp2_with fail
      refine bodyPost_ret (v := .tuple #[ndv n, .bool true]) ?_ rfl ⟨by rw [HGT.out]; rfl, B4.out⟩
      rw [results_cell_tmp rfl]
      simp only [ndv]
      go_simp
end Go.Proofs.Ytcckamajiebgeaa
