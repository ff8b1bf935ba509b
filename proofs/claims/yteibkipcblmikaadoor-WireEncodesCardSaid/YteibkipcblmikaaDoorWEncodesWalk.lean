/-
  The walk of WireEncodes. Conditions: those of the statement.
-/
import Derived.Test.YteibkipcblmikaaDoorM8
import Derived.Test.YteibkipcblmikaaDoorWArg
import Derived.LoopTactic
namespace Go.Proofs.YteibkipcblmikaaDoor
open Go.RowKit
set_option linter.unusedVariables false
set_option maxRecDepth 100000

def shO (os : List O5) : Bool := os.all fun x => decide (x.l.length ≤ 60)
def ShortORel (os : List O5) (i : Value) : Prop := ∃ k : Nat, k ≤ os.length ∧ i = .int .i64 (k : Int) ∧ shO (os.drop k) = shO os
theorem shO_step (os : List O5) (k : Nat) (h : k < os.length) : shO (os.drop k) = (decide (os[k].l.length ≤ 60) && shO (os.drop (k + 1))) := by
  unfold shO
  rw [List.drop_eq_getElem_cons h]
  rfl
set_option maxHeartbeats 1000000 in
theorem shortOps_any (A : Option Addr) (c : Nat) (os : List O5) (w : World) (hn : os.length ≤ 9223372036854775807) (hm : ∀ o ∈ os, o.l.length ≤ maxLen) (h : Ops w A c os) :
    Calls Tryd.prog 10 #[.slice A os.length c] w (fun e w' => e = .returned (.bool (shO os)) ∧ w' = w) := by
  have HM := hide hm
  have HC := hide h
  clear hm h
  go_enter Tryd.func10, Tryd.ntmps10
  go_wp2_with fail
  go_loop [3] (ShortORel os) (fun i => os.length - (intOf i).toNat)
  case atStart => exact ⟨0, Nat.zero_le _, rfl, rfl⟩
  case round =>
    obtain ⟨k, hk, rfl, hs⟩ := hrel
    have HS := hide hs
    clear hs
    by_cases hlt : k < os.length
    · obtain ⟨b, o, rfl, hat⟩ := HC.out.lit (by omega)
      have cN := (hat.five k hlt).2.2.2.2
      have hm := HM.out _ (List.getElem_mem hlt)
      have ST := hide (shO_step os k hlt)
      have hsz : (bs os[k].l).size = os[k].l.length := bs_size _
      have SZ := hide hsz
      have hm2 : (bs os[k].l).size ≤ 9223372036854775807 := by rw [hsz]; unfold maxLen at hm; exact hm
      clear hm hsz hat
      by_cases hb : 60 < (bs os[k].l).size
      · have E := hide (show shO os = false by
          rw [← HS.out, ST.out, decide_eq_false (by rw [← SZ.out]; omega)]
          rfl)
        generalize bs os[k].l = s at cN hm2 hb
        go_wp2
        go_ret
        rw [E.out]
        exact ⟨rfl, rfl⟩
      · have E := hide (show shO (os.drop (k + 1)) = shO os by
          rw [← HS.out, ST.out, decide_eq_true (by rw [← SZ.out]; omega)]
          rfl)
        generalize bs os[k].l = s at cN hm2 hb
        go_wp2
        refine ⟨⟨k + 1, by omega, by go_num, E.out⟩, by simp [intOf]; omega⟩
    · obtain rfl : k = os.length := by omega
      have E := hide (show shO os = true by rw [← HS.out, List.drop_length]; rfl)
      go_wp2
      go_ret
      rw [E.out]
      exact ⟨rfl, rfl⟩
theorem shO_all {os : List O5} (h : shO os = true) : ∀ o ∈ os, o.l.length ≤ 60 := by
  simpa [shO] using h
set_option maxHeartbeats 1000000 in
theorem wireEncodes_walk (a : Option Addr) (len cap : Nat) (os : List O5) (w : World) (h : IsOps w a len cap os) (hE : Env w) :
    Calls Tryd.prog 3 #[.slice a len cap] w (TrueRet w) := by
  obtain ⟨rfl, hops, hnm⟩ := h
  have HO := hide hops
  have HE := hide hE
  have HN := hide hnm
  have hle : os.length ≤ 9223372036854775807 := by
    have h1 := hops.le
    have h2 := hops.most
    unfold maxLen at h2
    omega
  clear hops hE hnm
  go_enter Tryd.func3, Tryd.ntmps3
  go_wp2_with fail
  refine (wAwake_any w HE.out).mono ?_
  rintro e w1 ⟨rfl, hb⟩
  have B1 := hide hb
  clear hb
  go_wp2_with fail
  refine (shortOps_any a cap os w1 hle HN.out (HO.out.below B1.out)).mono ?_
  rintro e w2 ⟨rfl, h2⟩
  rw [h2]
  clear h2 w2
  have hfin : ∀ (P : Prop), P → P := fun _ h => h
  clear hfin
  by_cases h70 : os.length ≤ 70
  · have d1 : decide ((os.length : Int) > 70) = false := by simp; omega
    cases hs : shO os with
    | true =>
      have HS := hide (shO_all hs)
      clear hs
      go_wp2_with fail
      clear d1
      refine (encode_any a cap os w1 (by omega) HN.out (HE.out.below B1.out) (HO.out.below B1.out)).mono ?_
      rintro e w3 ⟨v3, rfl, hown, hb⟩
      have B3 := hide (B1.out.trans (hb.mono B1.out.size))
      have R3 := hide (RSl.of_own hown)
      clear hown hb
      go_wp2_with fail
      refine (refEncode_any a cap os w3 (by omega) (fun o ho => by have := HS.out o ho; omega) (HO.out.below B3.out)).mono ?_
      rintro e w4 ⟨v4, rfl, hown, hb⟩
      have B4 := hide (B3.out.trans (hb.mono B3.out.size))
      have R4 := hide (RSl.of_own hown)
      have R5 := hide (R3.out.below hb)
      clear hown hb
      generalize encE os = q
      have dq : ((q : Int) == (q : Int)) = true := by simp
      go_wp2_with fail
      refine (same_rows v3 v4 (encB os) w4 R5.out R4.out).mono ?_
      rintro e w5 ⟨rfl, h5⟩
      rw [← h5]
      clear h5 w5
      go_wp2
      go_ret
      exact ⟨rfl, B4.out⟩
    | false =>
      go_wp2
      go_ret
      exact ⟨rfl, B1.out⟩
  · have d1 : decide ((os.length : Int) > 70) = true := by simp; omega
    generalize shO os = q
    go_wp2
    go_ret
    exact ⟨rfl, B1.out⟩
end Go.Proofs.YteibkipcblmikaaDoor
