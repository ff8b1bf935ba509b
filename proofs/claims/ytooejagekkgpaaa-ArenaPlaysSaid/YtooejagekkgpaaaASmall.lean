/-
  Contracts of package arena, of numbers: New, Live, Room. Conditions: the arena is one, in memory.
-/
import Derived.Test.YtooejagekkgpaaaAMem
import Derived.LoopTactic
import Derived.Laws.ResultCell
import Derived.Deep.QuietTactic
import Derived.BigQuiet
import Derived.Deep.CutRange
import Derived.Deep.RegionLaw
import Derived.Deep.RegionHeld3
import Derived.Deep.DeepCutAuto
namespace Go.Proofs.Ytooejagekkgpaaa
open Go.RowKit
set_option linter.unusedVariables false
set_option linter.unusedSimpArgs false
set_option maxRecDepth 100000

theorem An.new (w : World) (most : Nat) (hm : most ≤ 1048576) : An (w.alloc (.cells #[.int .i64 (most : Int), .slice none 0 0, .slice none 0 0] 57)) w.heap.size most 0 ⟨[], []⟩ [w.heap.size] := by
  refine ⟨Arw.start, rfl, Nat.zero_le _, hm, by simp, Nat.le_refl _, .slice none 0 0, .slice none 0 0, ⟨heap_alloc_new w _, ?_, ?_⟩, rfl⟩
  · exact World.ownsRow_nil ..
  · exact World.ownsRow_nil ..
def NewRet (n : Int) (w : World) (e : Ending) (w' : World) : Prop :=
  Below w.heap.size w w' ∧ if 0 ≤ n ∧ n ≤ 1048576 then e = .returned (.pointer (some ⟨w.heap.size, 0, none⟩)) ∧ An w' w.heap.size n.toNat 0 ⟨[], []⟩ [w.heap.size] else e = .returned (.pointer none)
theorem anew_any (n : Int) (hn : i64B n) (w : World) : Calls Try.prog 9 #[.int .i64 n] w (NewRet n w) := by
  by_cases h0 : n < 0
  · have hif : ¬ (0 ≤ n ∧ n ≤ 1048576) := by omega
    unfold NewRet
    simp only [if_neg hif]
    have B := hide (Below.refl w.heap.size w)
    clear hif
    go_enter Try.func9, Try.ntmps9
    go_wp2
    go_ret
    exact ⟨B.out, rfl⟩
  · by_cases h1 : 1048576 < n
    · have hif : ¬ (0 ≤ n ∧ n ≤ 1048576) := by omega
      unfold NewRet
      simp only [if_neg hif]
      have B := hide (Below.refl w.heap.size w)
      clear hif
      go_enter Try.func9, Try.ntmps9
      go_wp2
      go_ret
      exact ⟨B.out, rfl⟩
    · obtain ⟨m, rfl⟩ : ∃ m : Nat, n = m := ⟨n.toNat, by omega⟩
      have hif : 0 ≤ (m : Int) ∧ (m : Int) ≤ 1048576 := by omega
      unfold NewRet
      simp only [if_pos hif]
      have B := hide ((Below.refl w.heap.size w).alloc (Nat.le_refl _) (.cells #[.int .i64 (m : Int), .slice none 0 0, .slice none 0 0] 57))
      have T := hide (An.new w m (by omega))
      clear hif
      go_enter Try.func9, Try.ntmps9
      go_wp2
      go_ret
      exact ⟨B.out, rfl, T.out⟩
theorem alive_any (g most U : Nat) (A : Ar) (fs : List Nat) (hU : U ≤ 1000000000) (w : World) (h : An w g most U A fs) : Calls Try.prog 16 #[.pointer (some ⟨g, 0, none⟩)] w (IntRet .i64 A.live w) := by
  have hc := h.cnt
  have hl := h.len
  obtain ⟨vs, vf, M, rfl⟩ := h.mem
  obtain ⟨a1, d1, rfl⟩ := row_form M.sl
  obtain ⟨a2, d2, rfl⟩ := row_form M.fr
  have c1 := M.cell1
  have c2 := M.cell2
  generalize A.sl.length = n1 at *
  generalize A.fr.length = n2 at *
  have E := hide (show ((n1 : Int) - (n2 : Int)) = (A.live : Int) by omega)
  have B := hide (Below.refl w.heap.size w)
  have b1 : n1 ≤ 1000000000 := by omega
  have b2 : n2 ≤ 1000000000 := by omega
  clear h M hc hl
  go_enter Try.func16, Try.ntmps16
  go_wp2_with fail
  go_quiet (fail)
  go_wp2
  go_ret
  exact ⟨ret_int E.out, below_q B.out _⟩
theorem aroom_any (g most U : Nat) (A : Ar) (fs : List Nat) (hU : U ≤ 1000000000) (w : World) (h : An w g most U A fs) : Calls Try.prog 18 #[.pointer (some ⟨g, 0, none⟩)] w (IntRet .i64 (most - A.live) w) := by
  have hl := h.le
  have hm := h.mle
  have K := hide (fun W (hb : Below w.heap.size w W) => alive_any g most U A fs hU W (h.below hb))
  have B := hide (Below.refl w.heap.size w)
  obtain ⟨vs, vf, M, rfl⟩ := h.mem
  have c0 := M.cell0
  generalize A.live = n at *
  have E := hide (show ((most : Int) - (n : Int)) = ((most - n : Nat) : Int) by omega)
  clear h M
  go_enter Try.func18, Try.ntmps18
  go_wp2_with fail
  go_region_held3 (fun w' => w'.cell? ⟨g, 0, none⟩ = some (.int .i64 (most : Int)))
    (first | with_reducible exact hS1 | with_reducible exact c0 | go_keep)
    (first
      | (go_at_call 16
         (with_reducible refine (K.out _ (Below.refl _ w).drew).mono ?_)
         rintro e w2 ⟨rfl, hb⟩
         have hb' : Below w.heap.size w w2 := ⟨hb.os, hb.tape, hb.output, hb.size, hb.block⟩
         have hS1 := cell_b hb' c0
         have B2 := hide hb'
         clear hb hb'))
  go_wp2
  go_ret
  exact ⟨ret_int ((wrap_in _ (by omega) (by omega)).trans E.out), B2.out⟩
theorem Ar.get_low {A : Ar} {s g : Int} (h : s < 1) : A.get s g = none := by unfold Ar.get; rw [if_neg (by omega)]
theorem Ar.get_high {A : Ar} {s g : Int} (h : (A.sl.length : Int) < s) : A.get s g = none := by
  unfold Ar.get
  rw [if_pos (by omega), List.getElem?_eq_none (by omega)]
theorem Ar.get_at {A : Ar} {k : Nat} (h : k < A.sl.length) (g : Int) : A.get ((k : Int) + 1) g = if (A.sl[k].gen : Int) = g then A.sl[k].it else none := by
  unfold Ar.get
  rw [if_pos (by omega), show ((k : Int) + 1).toNat - 1 = k by omega, List.getElem?_eq_getElem h]
theorem Am.three {w : World} {g most : Nat} {b c : Nat} {vf : Value} {A : Ar} (h : Am w g most (.slice (some ⟨b, 0, none⟩) A.sl.length c) vf A) (k : Nat) (hk : k < A.sl.length) :
    w.cell? ⟨b, k * 3, none⟩ = some (.int .i64 (A.sl[k].it.getD 0)) ∧ w.cell? ⟨b, k * 3 + 1, none⟩ = some (.bool A.sl[k].it.isSome) ∧ w.cell? ⟨b, k * 3 + 2, none⟩ = some (.int .i64 (A.sl[k].gen : Int)) := by
  have hc : ∀ i, i < 3 → w.cell? ⟨b, k * 3 + i, none⟩ = (slc A.sl[k])[i]? := by
    intro i hi
    rw [h.sl.cellAt (k * 3 + i) (by omega), slcs_get A.sl k i hk hi]
  exact ⟨hc 0 (by omega), hc 1 (by omega), hc 2 (by omega)⟩
theorem Am.form {w : World} {g most : Nat} {vs vf : Value} {A : Ar} (h : Am w g most vs vf A) (hn : 0 < A.sl.length) : ∃ b c, vs = .slice (some ⟨b, 0, none⟩) A.sl.length c ∧ b ≠ g := by
  obtain ⟨b, c, rfl, _, _⟩ := h.sl.form hn
  exact ⟨b, c, rfl, fun e => h.neS (by rw [e]; rfl)⟩
set_option maxHeartbeats 1000000 in
theorem alies_any (g most U : Nat) (A : Ar) (fs : List Nat) (s t : Int) (hs : i64B s) (ht : i64B t) (hU : U ≤ 1000000000) (w : World) (h : An w g most U A fs) : Calls Try.prog 27 #[.pointer (some ⟨g, 0, none⟩), .agg #[.int .i64 s, .int .i64 t]] w (BoolRet (A.get s t).isSome w) := by
  have hl := h.len
  obtain ⟨vs, vf, M, rfl⟩ := h.mem
  have B := hide ((Below.refl w.heap.size w).alloc (Nat.le_refl _) (.cells #[.int .i64 s, .int .i64 t] 31))
  have bx := heap_alloc_new w (.cells #[.int .i64 s, .int .i64 t] 31)
  have MX := hide (M.alloc (.cells #[.int .i64 s, .int .i64 t] 31))
  clear h M
  by_cases h0 : s < 1
  · have E := hide (show (A.get s t).isSome = false by rw [Ar.get_low h0]; rfl)
    have d0 : decide (s < 1) = true := by simpa using h0
    rw [E.out]
    clear E MX
    go_enter Try.func27, Try.ntmps27
    go_upto_region 1 with (fail)
    generalize w.alloc (.cells #[.int .i64 s, .int .i64 t] 31) = w1 at B bx ⊢
    have x0 := cell_of_row _ _ 0 _ _ (0, 0) bx
    simp at x0
    clear bx
    go_wp2_with fail
    go_quiet (fail)
    go_wp2
    go_ret
    exact ⟨rfl, below_q B.out _⟩
  · by_cases h1 : (A.sl.length : Int) < s
    · have E := hide (show (A.get s t).isSome = false by rw [Ar.get_high h1]; rfl)
      have d0 : decide (s < 1) = false := by simpa using h0
      have d1 : decide (s > (A.sl.length : Int)) = true := by simpa using h1
      rw [E.out]
      have c1 := MX.out.cell1
      obtain ⟨a1, e1, rfl⟩ := row_form MX.out.sl
      generalize A.sl.length = n at *
      clear E MX
      go_enter Try.func27, Try.ntmps27
      go_upto_region 1 with (fail)
      generalize w.alloc (.cells #[.int .i64 s, .int .i64 t] 31) = w1 at B bx c1 ⊢
      have x0 := cell_of_row _ _ 0 _ _ (0, 0) bx
      simp at x0
      clear bx
      go_wp2_with fail
      go_quiet (fail)
      go_wp2
      go_ret
      exact ⟨rfl, below_q B.out _⟩
    · obtain ⟨k, rfl⟩ : ∃ k : Nat, s = (k : Int) + 1 := ⟨(s - 1).toNat, by omega⟩
      have hk : k < A.sl.length := by omega
      have E := hide (congrArg Option.isSome (Ar.get_at hk t))
      obtain ⟨b, c, rfl, hbg⟩ := MX.out.form (by omega)
      have c1 := MX.out.cell1
      obtain ⟨z0, z1, z2⟩ := MX.out.three k hk
      generalize (A.get ((k : Int) + 1) t).isSome = r at E ⊢
      generalize A.sl[k] = x at *
      generalize A.sl.length = n at *
      have d0 : decide ((k : Int) + 1 < 1) = false := by simp; omega
      have d1 : decide ((k : Int) + 1 > (n : Int)) = false := by simp; omega
      have wk : IntKind.i64.wrap ((k : Int) + 1 - 1) = (k : Int) := (wrap_in _ (by omega) (by omega)).trans (by omega)
      have i0 : (0 : Int) ≤ (k : Int) := by omega
      have i1 : (k : Int) < (n : Int) := by omega
      clear MX h0 h1 hs ht
      go_enter Try.func27, Try.ntmps27
      go_upto_region 1 with (fail)
      generalize w.alloc (.cells #[.int .i64 ((k : Int) + 1), .int .i64 t] 31) = w1 at B bx c1 z0 z1 z2 ⊢
      have x0 := cell_of_row _ _ 0 _ _ (0, 0) bx
      have x1 := cell_of_row _ _ 1 _ _ (0, 0) bx
      simp at x0 x1
      clear bx
      cases hu : x.it with
      | none =>
        rw [hu] at z0 z1 E
        have E1 := hide (show r = false by rw [E.out]; split <;> rfl)
        simp only [Option.isSome_none] at z1
        clear E hu
        go_wp2_with fail
        go_quiet (fail)
        go_wp2
        go_quiet (fail)
        go_wp2
        go_quiet (fail)
        go_wp2
        go_ret
        exact ⟨by rw [E1.out]; rfl, below_q (below_q (below_q B.out _) _) _⟩
      | some v =>
        rw [hu] at z0 z1 E
        have E1 := hide (show r = ((x.gen : Int) == t) by rw [E.out]; by_cases e : (x.gen : Int) = t <;> simp [e])
        simp only [Option.isSome_some] at z1
        clear E hu
        go_wp2_with fail
        go_quiet (fail)
        go_wp2
        go_quiet (fail)
        go_wp2
        go_quiet (fail)
        go_wp2
        go_ret
        exact ⟨by rw [E1.out]; rfl, below_q (below_q (below_q B.out _) _) _⟩
/-- What Get answers. -/
def GetRet (o : Option Int) (w : World) (e : Ending) (w' : World) : Prop := e = .returned (.tuple #[.int .i64 (o.getD 0), .bool o.isSome]) ∧ Below w.heap.size w w'
set_option maxHeartbeats 1000000 in
theorem aget_any (g most U : Nat) (A : Ar) (fs : List Nat) (s t : Int) (hs : i64B s) (ht : i64B t) (hU : U ≤ 1000000000) (w : World) (h : An w g most U A fs) : Calls Try.prog 14 #[.pointer (some ⟨g, 0, none⟩), .agg #[.int .i64 s, .int .i64 t]] w (GetRet (A.get s t) w) := by
  have hl := h.len
  have Bz := (Below.refl w.heap.size w).alloc (Nat.le_refl _) (.cells #[.int .i64 s, .int .i64 t] 31)
  have BR := (Below.refl w.heap.size w).alloc (Nat.le_refl _) (.cells #[.int .i64 s, .int .i64 t] 31)
  have hA := h.below BR
  have bx := heap_alloc_new w (.cells #[.int .i64 s, .int .i64 t] 31)
  have lx : w.heap.size < (w.alloc (.cells #[.int .i64 s, .int .i64 t] 31)).heap.size := by simp
  have K := hide (alies_any g most U A fs s t hs ht hU _ hA)
  have HA := hide hA
  have B := hide Bz
  clear Bz BR hA h
  have HX := hide bx
  unfold GetRet
  cases hg : A.get s t with
  | none =>
    rw [hg] at K
    clear bx
    go_enter Try.func14, Try.ntmps14
    go_wp2_with fail
    refine K.out.mono ?_
    rintro e w2 ⟨rfl, hb⟩
    have B2 := hide (B.out.trans (hb.mono (by simp)))
    clear hb K
    go_wp2
    go_ret2
    exact ⟨rfl, B2.out⟩
  | some v =>
    obtain ⟨h1, k, hk, hkg, hki⟩ := get_some hg
    rw [hg] at K
    clear hg bx
    obtain ⟨j, rfl⟩ : ∃ j : Nat, s = (j : Int) + 1 := ⟨(s - 1).toNat, by omega⟩
    rw [show ((j : Int) + 1).toNat - 1 = j by omega] at hk
    obtain ⟨hj, hk⟩ := List.getElem?_eq_some_iff.1 hk
    have i1 : j < A.sl.length := hj
    have i0 : (0 : Int) ≤ (j : Int) := by omega
    have i2 : (j : Int) < (A.sl.length : Int) := by omega
    have wk : IntKind.i64.wrap ((j : Int) + 1 - 1) = (j : Int) := (wrap_in _ (by omega) (by omega)).trans (by omega)
    clear h1 hs
    go_enter Try.func14, Try.ntmps14
    go_upto_region 1 with (fail)
    generalize w.alloc (.cells #[.int .i64 ((j : Int) + 1), .int .i64 t] 31) = w1 at K HA B HX lx ⊢
    have x0 := cell_of_row _ _ 0 _ _ (0, 0) HX.out
    have x1 := cell_of_row _ _ 1 _ _ (0, 0) HX.out
    simp at x0 x1
    go_wp2_with fail
    refine K.out.mono ?_
    rintro e w2 ⟨rfl, hb⟩
    have B2 := hide (B.out.trans (hb.mono B.out.size))
    have A2 := HA.out.below hb
    have y0 := cell_of_row _ _ 0 _ _ (0, 0) ((hb.block _ lx).trans HX.out)
    simp at y0
    obtain ⟨vs, vf, M, _⟩ := A2.mem
    obtain ⟨b, c, rfl, hbg⟩ := M.form (by omega)
    have c1 := M.cell1
    obtain ⟨z0, z1, z2⟩ := M.three j hj
    rw [hk, hki] at z0
    simp only [Option.getD_some] at z0
    clear z1 z2 M A2 hb K HA HX x0 x1 B hk hki hkg
    generalize A.sl.length = n at *
    go_wp2_with fail
    go_quiet (fail)
    go_wp2
    go_ret2
    exact ⟨rfl, below_q B2.out _⟩
end Go.Proofs.Ytooejagekkgpaaa
