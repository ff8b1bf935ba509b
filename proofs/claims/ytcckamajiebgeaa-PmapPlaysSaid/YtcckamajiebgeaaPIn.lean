/-
  The contract of the document's In: is a handle in a list? Conditions: the list can be read, and isn't longer than a million.
-/
import Derived.Test.YtcckamajiebgeaaEHand
import Derived.Test.YtcckamajiebgeaaPRow
import Derived.Laws.StructEq
namespace Go.Proofs.Ytcckamajiebgeaa
open Go.RowKit Go.Maps
set_option linter.unusedVariables false
set_option linter.unusedSimpArgs false
set_option maxRecDepth 100000

def InRel (w : World) (h : Int × Int) (l : List (Int × Int)) (i : Value) (wr : World) : Prop := ∃ k : Nat, k ≤ l.length ∧ i = .int .i64 (k : Int) ∧ h ∉ l.take k ∧ Below w.heap.size w wr
set_option maxHeartbeats 1000000 in
theorem rin_any (A : Option Addr) (c : Nat) (l : List (Int × Int)) (s t : Int) (hn : l.length ≤ 1000000) (w : World) (hl : Hs w A c l) :
    Calls Try.prog 34 #[.slice A l.length c, .agg #[.int .i64 s, .int .i64 t]] w (BoolRet (decide ((s, t) ∈ l)) w) := by
  have D := (Below.refl w.heap.size w).alloc (Nat.le_refl _) (.cells #[.int .i64 s, .int .i64 t] 28)
  have HL := hide (hl.below D)
  have X1 := hide (Hb.new w s t)
  have B1 := hide D
  clear D hl
  go_enter Try.func34, Try.ntmps34
  go_upto_region 1 with (fail)
  generalize hkk : w.heap.size = kk at X1 ⊢
  generalize w.alloc (.cells #[.int .i64 s, .int .i64 t] 28) = w1 at HL X1 B1 ⊢
  go_wp2_with fail
  go_loopw [5] (InRel w1 (s, t) l) (fun i _ => l.length - (intOf i).toNat)
  case atStart => exact ⟨0, Nat.zero_le _, rfl, by simp, Below.refl _ _⟩
  case round =>
    obtain ⟨k, hk, rfl, hno, hb⟩ := hrel
    have HB := hide hb
    have HN := hide hno
    by_cases hlt : k < l.length
    · obtain ⟨b, o, rfl, hat⟩ := (HL.out.below hb).lit (by omega)
      obtain ⟨y0, y1⟩ := hat.two k hlt
      obtain ⟨x0, x1⟩ := (X1.out.below hb).two
      have i0 : (0 : Int) ≤ (k : Int) := by omega
      have i1 : (k : Int) < (l.length : Int) := by omega
      obtain ⟨⟨p, q⟩, hpq⟩ : ∃ pq, l[k] = pq := ⟨_, rfl⟩
      rw [hpq] at y0 y1
      have HPQ := hide hpq
      have hq := fun V => handle_eql p q s t V
      simp only at y0 y1
      clear hb hno hat hpq
      by_cases e : (p, q) = (s, t)
      · have hd : decide ((p, q) = (s, t)) = true := by simpa using e
        have HY := hide (show decide ((s, t) ∈ l) = true by
          rw [decide_eq_true_eq, ← e, ← HPQ.out]
          exact List.getElem_mem hlt)
        simp only [hd] at hq
        clear e
        go_wp2_with fail
        go_quiet (fail)
        go_wp2
        go_ret
        exact ⟨by rw [HY.out]; rfl, (by rw [← hkk] at *; exact below_q (B1.out.trans (HB.out.mono B1.out.size)) _)⟩
      · have hd : decide ((p, q) = (s, t)) = false := by simpa using e
        have HY := hide (show (s, t) ∉ l.take (k + 1) by
          rw [List.take_succ_eq_append_getElem hlt, HPQ.out]
          intro hm
          rcases List.mem_append.1 hm with hm | hm
          · exact HN.out hm
          · exact e (List.mem_singleton.1 hm).symm)
        simp only [hd] at hq
        clear e
        go_wp2_with fail
        go_quiet (fail)
        go_wp2
        go_roundw
        case rel => exact ⟨k + 1, by omega, by go_num, HY.out, below_q HB.out _⟩
        case measure => simp [intOf]; omega
    · obtain rfl : k = l.length := by omega
      have HY := hide (show decide ((s, t) ∈ l) = false by
        have := HN.out
        rw [List.take_length] at this
        simpa using this)
      clear hb hno
      go_wp2
      go_ret
      exact ⟨by rw [HY.out]; rfl, B1.out.trans (HB.out.mono B1.out.size)⟩
end Go.Proofs.Ytcckamajiebgeaa
