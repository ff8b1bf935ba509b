/-
  The document's arena: contracts of find, Get. Conditions: the arena is one, in memory, of not more than a million puts.
-/
import Derived.Test.YtooejagekkgpaaaARef2
import Derived.Test.YtooejagekkgpaaaAIn
namespace Go.Proofs.Ytooejagekkgpaaa
open Go.RowKit
set_option linter.unusedVariables false
set_option linter.unusedSimpArgs false
set_option maxRecDepth 100000

/-- Is this what has the handle, and lies there? -/
def hitB (s g : Int) (e : En) : Bool := decide (((e.s : Int), (e.g : Int)) = (s, g)) && e.lies
theorem hitB_iff {s g : Int} {e : En} : hitB s g e = true ↔ (e.s : Int) = s ∧ (e.g : Int) = g ∧ e.lies = true := by
  unfold hitB
  simp [and_assoc]
def FdRel (w : World) (L : List En) (s g : Int) (vi : Value) (wr : World) : Prop := ∃ k : Nat, k ≤ L.length ∧ vi = .int .i64 (k : Int) ∧ (∀ e ∈ L.take k, hitB s g e = false) ∧ Below w.heap.size w wr
def FindRet (L : List En) (s g : Int) (w : World) (e : Ending) (w' : World) : Prop := Below w.heap.size w w' ∧ ((e = .returned (.int .i64 (-1)) ∧ ∀ e ∈ L, hitB s g e = false) ∨ ∃ (i : Nat) (h : i < L.length), e = .returned (.int .i64 (i : Int)) ∧ hitB s g L[i] = true)
set_option maxHeartbeats 2000000 in
theorem rfind_any (g most N : Nat) (v : Value) (L : List En) (s t : Int) (hL : L.length ≤ 1000000) (w : World) (h : Dm w g most v L N) : Calls Try.prog 28 #[.pointer (some ⟨g, 0, none⟩), .agg #[.int .i64 s, .int .i64 t]] w (FindRet L s t w) := by
  have D := (Below.refl w.heap.size w).alloc (Nat.le_refl _) (.cells #[.int .i64 s, .int .i64 t] 31)
  have H := hide (h.below D)
  have X1 := hide (Hb.new w s t)
  have B1 := hide D
  obtain ⟨a1, c, rfl⟩ := row_form h.row
  clear D h
  go_enter Try.func28, Try.ntmps28
  go_upto_region 1 with (fail)
  generalize hkk : w.heap.size = kk at X1 ⊢
  generalize w.alloc (.cells #[.int .i64 s, .int .i64 t] 31) = w1 at H X1 B1 ⊢
  go_wp2_with fail
  go_loopw [5] (FdRel w1 L s t) (fun i _ => L.length - (intOf i).toNat)
  case atStart => exact ⟨0, Nat.zero_le _, rfl, by simp, Below.refl _ _⟩
  case round =>
    obtain ⟨k, hk, rfl, hno, hb⟩ := hrel
    have HB := hide hb
    have HN := hide hno
    have hM := H.out.below hb
    obtain ⟨-, y1, -⟩ := hM.cells
    obtain ⟨x0, x1⟩ := (X1.out.below hb).two
    by_cases hlt : k < L.length
    · obtain ⟨b, c', e, hbg⟩ := hM.head (by omega)
      injection e with e1 e2 e3
      subst e1 e3
      obtain ⟨z0, z1, -, z3, -⟩ := hM.five k hlt
      have i0 : (0 : Int) ≤ (k : Int) := by omega
      have i1 : (k : Int) < (L.length : Int) := by omega
      have hTk := List.take_succ_eq_append_getElem hlt
      obtain ⟨E0, hE0⟩ : ∃ E0, L[k] = E0 := ⟨_, rfl⟩
      rw [hE0] at z0 z1 z3 hTk
      have HE0 := hide hE0
      have HTk := hide hTk
      have hq := fun V => handle_eql (E0.s : Int) (E0.g : Int) s t V
      obtain ⟨bb, hbb⟩ : ∃ bb, hitB s t E0 = bb := ⟨_, rfl⟩
      have HBB := hide hbb
      have hh : bb = (decide (((E0.s : Int), (E0.g : Int)) = (s, t)) && E0.lies) := by rw [← hbb]; rfl
      have HK := hide hlt
      clear hb hno hM e2 hE0 hTk hbb
      generalize decide (((E0.s : Int), (E0.g : Int)) = (s, t)) = dd at hh hq
      generalize E0.lies = ll at hh z3
      generalize (E0.s : Int) = p at *
      generalize (E0.g : Int) = q at *
      have HH := hide hh
      clear hh
      cases dd with
      | false =>
        have E := hide (show bb = false by rw [HH.out]; rfl)
        clear HH
        go_wp2_with fail
        go_quiet (fail)
        go_wp2
        go_roundw
        case rel =>
          refine ⟨k + 1, by omega, by go_num, fun e he => ?_, below_q HB.out _⟩
          rw [HTk.out] at he
          rcases List.mem_append.1 he with he | he
          · exact HN.out e he
          · rw [List.mem_singleton.1 he, HBB.out, E.out]
        case measure => simp [intOf]; omega
      | true =>
        cases ll with
        | false =>
          have E := hide (show bb = false by rw [HH.out]; rfl)
          clear HH
          go_wp2_with fail
          go_quiet (fail)
          go_wp2
          go_roundw
          case rel =>
            refine ⟨k + 1, by omega, by go_num, fun e he => ?_, below_q HB.out _⟩
            rw [HTk.out] at he
            rcases List.mem_append.1 he with he | he
            · exact HN.out e he
            · rw [List.mem_singleton.1 he, HBB.out, E.out]
          case measure => simp [intOf]; omega
        | true =>
          have E := hide (show bb = true by rw [HH.out]; rfl)
          clear HH
          go_wp2_with fail
          go_quiet (fail)
          go_wp2
          go_ret
          exact ⟨below_q (B1.out.trans (HB.out.mono B1.out.size)) _, .inr ⟨k, HK.out, rfl, by rw [HE0.out, HBB.out, E.out]⟩⟩
    · obtain rfl : k = L.length := by omega
      clear hb hno hM
      go_wp2
      go_ret
      refine ⟨B1.out.trans (HB.out.mono B1.out.size), .inl ⟨rfl, fun e he => HN.out e (by rw [List.take_length]; exact he)⟩⟩
end Go.Proofs.Ytooejagekkgpaaa
