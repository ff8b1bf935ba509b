/-
  The document's Short over a slice of operations. No conditions but that they can be read.
-/
import Derived.Test.YtlcmkikjgelfaaaDoorWOps
import Derived.LoopTactic
namespace Go.Proofs.YtlcmkikjgelfaaaDoor
set_option maxRecDepth 100000
open Go.RowKit
set_option linter.unusedVariables false
set_option maxRecDepth 100000

def shO (os : List O5) : Bool := os.all fun x => decide (x.l.length ≤ 60)
def ShortORel (os : List O5) (i : Value) : Prop := ∃ k : Nat, k ≤ os.length ∧ i = .int .i64 (k : Int) ∧ shO (os.drop k) = shO os
theorem shO_step (os : List O5) (k : Nat) (h : k < os.length) : shO (os.drop k) = (decide (os[k].l.length ≤ 60) && shO (os.drop (k + 1))) := by
  unfold shO
  rw [List.drop_eq_getElem_cons h]
  rfl
set_option maxHeartbeats 1000000 in
theorem shortOps_any (A : Option Addr) (c : Nat) (os : List O5) (w : World) (hn : os.length ≤ 9223372036854775807) (hm : ∀ o ∈ os, o.l.length ≤ maxLen) (h : Ops w A c os) :
    Calls Tryd.prog 12 #[.slice A os.length c] w (fun e w' => e = .returned (.bool (shO os)) ∧ w' = w) := by
  have HM := hide hm
  have HC := hide h
  clear hm h
  go_enter Tryd.func12, Tryd.ntmps12
  go_wp2_with fail
  go_loop [3] (ShortORel os) (fun i => os.length - (intOf i).toNat)
  case atStart => exact ⟨0, Nat.zero_le _, rfl, rfl⟩
  case round =>
    obtain ⟨k, hk, rfl, hs⟩ := hrel
    have HS := hide hs
    clear hs
    by_cases hlt : k < os.length
    · obtain ⟨b, o, rfl, hat⟩ := HC.out.lit (by omega)
      have cN := (hat.five k hlt).2.2.2.2
      have hm := HM.out _ (List.getElem_mem hlt)
      have ST := hide (shO_step os k hlt)
      have hsz : (bs os[k].l).size = os[k].l.length := bs_size _
      have SZ := hide hsz
      have hm2 : (bs os[k].l).size ≤ 9223372036854775807 := by rw [hsz]; unfold maxLen at hm; exact hm
      clear hm hsz hat
      by_cases hb : 60 < (bs os[k].l).size
      · have E := hide (show shO os = false by
          rw [← HS.out, ST.out, decide_eq_false (by rw [← SZ.out]; omega)]
          rfl)
        generalize bs os[k].l = s at cN hm2 hb
        go_wp2
        go_ret
        rw [E.out]
        exact ⟨rfl, rfl⟩
      · have E := hide (show shO (os.drop (k + 1)) = shO os by
          rw [← HS.out, ST.out, decide_eq_true (by rw [← SZ.out]; omega)]
          rfl)
        generalize bs os[k].l = s at cN hm2 hb
        go_wp2
        refine ⟨⟨k + 1, by omega, by go_num, E.out⟩, by simp [intOf]; omega⟩
    · obtain rfl : k = os.length := by omega
      have E := hide (show shO os = true by rw [← HS.out, List.drop_length]; rfl)
      go_wp2
      go_ret
      rw [E.out]
      exact ⟨rfl, rfl⟩
end Go.Proofs.YtlcmkikjgelfaaaDoor
