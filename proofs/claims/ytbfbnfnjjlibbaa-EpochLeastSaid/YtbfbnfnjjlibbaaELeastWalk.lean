/-
  EpochLeast returns true. No conditions.
-/
import Derived.Test.YtbfbnfnjjlibbaaEInts
import Derived.Test.YtbfbnfnjjlibbaaEAwake
namespace Go.Proofs.Ytbfbnfnjjlibbaa
open Go.RowKit
set_option linter.unusedVariables false
set_option linter.unusedSimpArgs false
set_option maxRecDepth 100000

def anyP (l : List Int) : Bool := l.any fun x => decide (0 < x)
def isP (n : Int) (l : List Int) : Bool := l.any fun x => decide (0 < x) && decide (x - 1 = n)
theorem anyP_take (l : List Int) (k : Nat) (h : k < l.length) : anyP (l.take (k + 1)) = (anyP (l.take k) || decide (0 < l[k])) := by
  unfold anyP
  rw [List.take_succ_eq_append_getElem h, List.any_append]
  simp
theorem isP_take (n : Int) (l : List Int) (k : Nat) (h : k < l.length) : isP n (l.take (k + 1)) = (isP n (l.take k) || (decide (0 < l[k]) && decide (l[k] - 1 = n))) := by
  unfold isP
  rw [List.take_succ_eq_append_getElem h, List.any_append]
  simp
theorem isP_all {l : List Int} (h : lst l ≠ 4611686018427387904) : isP (lst l) l = true := by
  rcases lst_is l with e | ⟨p, hp, h0, e⟩
  · exact absurd e h
  · exact List.any_eq_true.2 ⟨p, hp, by simp [h0, e]⟩
theorem anyP_none {l : List Int} (h : anyP l = false) : lst l = 4611686018427387904 := lst_free fun p hp h0 => by
  have := List.any_eq_false.1 h p hp
  simp at this
  omega
def EL1 (W1 : World) (l : List Int) (vi : Value) (wr : World) : Prop := ∃ k : Nat, k ≤ l.length ∧ vi = .int .i64 (k : Int) ∧ (∀ i (h : i < l.length), i < k → l[i] ≤ 4611686018427387904) ∧ wr = W1
def EL2 (W1 : World) (l : List Int) (vs vq vi : Value) (wr : World) : Prop := ∃ k : Nat, k ≤ l.length ∧ vi = .int .i64 (k : Int) ∧ vs = .bool (anyP (l.take k)) ∧ vq = .bool (isP (lst l) (l.take k)) ∧ wr = W1
set_option maxHeartbeats 2000000 in
theorem epochLeast_walk (a : Option Addr) (len cap : Nat) (zs : List Int) (W : World) (h : IsRow .i64 W a len cap zs) :
    Calls Try.prog 4 #[.slice a len cap] W (TrueRet W) := by
  obtain ⟨l, rfl, hI, hbd⟩ := h.is
  have m1 := hI.le
  have m2 := hI.most
  unfold maxLen at m2
  have HI := hide hI
  have HBd := hide hbd
  clear h hI hbd zs
  go_enter Try.func4, Try.ntmps4
  go_wp2_with fail
  refine (awake_any W).mono ?_
  rintro e w1 ⟨rfl, hb⟩
  have HB := hide hb
  have HI := hide (HI.out.below hb)
  clear hb
  by_cases hlen : l.length ≤ 40
  · have d0 : decide ((l.length : Int) > 40) = false := decide_eq_false (by omega)
    go_wp2_with fail
    go_loopw [4] (EL1 w1 l) (fun i _ => l.length - (intOf i).toNat)
    case atStart => exact ⟨0, Nat.zero_le _, rfl, fun i _ h => absurd h (Nat.not_lt_zero _), rfl⟩
    case round =>
      obtain ⟨k, hk, rfl, hle, rfl⟩ := hrel
      have HLE := hide hle
      clear hle d0
      by_cases hlt : k < l.length
      · obtain ⟨b, o, rfl, hat⟩ := HI.out.lit (by omega)
        have z0 := hat k hlt
        have i0 : (0 : Int) ≤ (k : Int) := by omega
        have i1 : (k : Int) < (l.length : Int) := by omega
        by_cases hp : l[k] ≤ 4611686018427387904
        · have HN := hide (show ∀ i (h : i < l.length), i < k + 1 → l[i] ≤ 4611686018427387904 from fun i h hi => by
            by_cases e : i = k
            · subst e; exact hp
            · exact HLE.out i h (by omega))
          clear hat
          generalize l[k] = p at *
          have d1 : decide (p > 4611686018427387904) = false := decide_eq_false (by omega)
          have d2 : ¬ 4611686018427387904 < p := by omega
          clear hp
          go_wp2_with fail
          go_roundw
          case rel => exact ⟨k + 1, by omega, by go_num, HN.out, rfl⟩
          case measure => simp [intOf]; omega
        · clear hat
          generalize l[k] = p at *
          have d1 : decide (p > 4611686018427387904) = true := decide_eq_true (by omega)
          have d2 : 4611686018427387904 < p := by omega
          clear hp
          go_wp2_with fail
          go_ret
          exact ⟨rfl, HB.out⟩
      · obtain rfl : k = l.length := by omega
        have KL := hide (least_any a cap l HBd.out wr HI.out)
        go_wp2_with fail
        refine KL.out.mono ?_
        rintro e w2 ⟨rfl, hb⟩
        have HB := hide (HB.out.trans (hb.mono HB.out.size))
        have HI := hide (HI.out.below hb)
        clear hb KL
        have HLS := hide (lst_none l)
        obtain ⟨n, hn⟩ : ∃ n, lst l = n := ⟨_, rfl⟩
        have HN := hide hn
        rw [hn]
        clear hn
        go_wp2_with fail
        go_loopw [6, 7, 8] (EL2 w2 l) (fun _ _ i _ => l.length - (intOf i).toNat)
        case atStart => exact ⟨0, Nat.zero_le _, rfl, rfl, rfl, rfl⟩
        case round =>
          obtain ⟨k, hk, rfl, rfl, rfl, rfl⟩ := hrel
          by_cases hlt : k < l.length
          · obtain ⟨b, o, rfl, hat⟩ := HI.out.lit (by omega)
            have z0 := hat k hlt
            have i0 : (0 : Int) ≤ (k : Int) := by omega
            have i1 : (k : Int) < (l.length : Int) := by omega
            have HT1 := hide (anyP_take l k hlt)
            have HT2 := hide (isP_take (lst l) l k hlt)
            have hp1 := HBd.out _ (List.getElem_mem hlt)
            unfold i64B at hp1
            have hp3 : 0 < l[k] → n ≤ l[k] - 1 := fun h0 => by rw [← HN.out]; exact lst_le (List.getElem_mem hlt) h0
            clear hat
            generalize l[k] = p at *
            generalize anyP (l.take k) = s1 at *
            rw [HN.out] at HT2 ⊢
            generalize isP n (l.take k) = s2 at *
            by_cases hp : 0 < p
            · have we : IntKind.i64.wrap (p - 1) = p - 1 := wrap_in _ (by omega) (by omega)
              have d1 : decide (p > 0) = true := decide_eq_true hp
              have d3 : decide (p - 1 < n) = false := decide_eq_false (by have := hp3 hp; omega)
              have hp0 := hp
              clear hp3 hp1
              by_cases hq : p - 1 = n
              · have d2 : (p - 1 == n) = true := by simpa using hq
                have HR := hide (show anyP (l.take (k + 1)) = true ∧ isP n (l.take (k + 1)) = true by rw [HT1.out, HT2.out]; simp [hp, hq])
                have HQ := hide hq
                clear hq hp
                go_wp2_with fail
                go_roundw
                case rel => exact ⟨k + 1, by omega, by go_num, by rw [HR.out.1], by rw [HN.out, HR.out.2], rfl⟩
                case measure => simp [intOf]; omega
              · have d2 : (p - 1 == n) = false := by simpa using hq
                have HR := hide (show anyP (l.take (k + 1)) = true ∧ isP n (l.take (k + 1)) = s2 by rw [HT1.out, HT2.out]; simp [hp, hq])
                clear hq hp
                go_wp2_with fail
                go_roundw
                case rel => exact ⟨k + 1, by omega, by go_num, by rw [HR.out.1], by rw [HN.out, HR.out.2], rfl⟩
                case measure => simp [intOf]; omega
            · have d1 : decide (p > 0) = false := decide_eq_false hp
              have hp0 := hp
              have HR := hide (show anyP (l.take (k + 1)) = s1 ∧ isP n (l.take (k + 1)) = s2 by rw [HT1.out, HT2.out]; simp [hp])
              clear hp hp3 hp1
              go_wp2_with fail
              go_roundw
              case rel => exact ⟨k + 1, by omega, by go_num, by rw [HR.out.1], by rw [HN.out, HR.out.2], rfl⟩
              case measure => simp [intOf]; omega
          · obtain rfl : k = l.length := by omega
            have HA := hide (fun h : anyP l = false => HN.out ▸ anyP_none h)
            have HS := hide (fun h : n ≠ 4611686018427387904 => show isP n l = true by rw [← HN.out] at h ⊢; exact isP_all h)
            rw [List.take_length, HN.out]
            generalize anyP l = s1 at *
            generalize isP n l = s2 at *
            by_cases h1 : n = 4611686018427387904
            · have d1 : (n == 4611686018427387904) = true := by simpa using h1
              clear h1
              cases s1
              · go_wp2_with fail
                go_ret
                exact ⟨rfl, HB.out⟩
              · go_wp2_with fail
                go_ret
                exact ⟨rfl, HB.out⟩
            · have d1 : (n == 4611686018427387904) = false := by simpa using h1
              obtain rfl := HS.out h1
              cases s1
              · exact absurd (HA.out rfl) h1
              · clear h1
                go_wp2_with fail
                go_ret
                exact ⟨rfl, HB.out⟩
  · have d0 : decide ((l.length : Int) > 40) = true := decide_eq_true (by omega)
    go_wp2_with fail
    go_ret
    exact ⟨rfl, HB.out⟩
end Go.Proofs.Ytbfbnfnjjlibbaa
