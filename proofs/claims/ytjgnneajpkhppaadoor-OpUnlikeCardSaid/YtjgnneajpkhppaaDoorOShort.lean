/-
  The contract of the document's Short: have operations names that aren't too long? Conditions: the names can be read.
-/
import Derived.Test.YtjgnneajpkhppaaDoorOPure
import Derived.LoopTactic
namespace Go.Proofs.YtjgnneajpkhppaaDoor
open Go.RowKit
set_option linter.unusedVariables false

def shB (ns : List (List UInt8)) : Bool := ns.all fun x => decide (x.length ≤ 60)
def ShortRel (ns : List (List UInt8)) (i : Value) : Prop := ∃ k : Nat, k ≤ ns.length ∧ i = .int .i64 (k : Int) ∧ shB (ns.drop k) = shB ns
theorem shB_step (ns : List (List UInt8)) (k : Nat) (h : k < ns.length) : shB (ns.drop k) = (decide (ns[k].length ≤ 60) && shB (ns.drop (k + 1))) := by
  unfold shB
  rw [List.drop_eq_getElem_cons h]
  rfl
set_option maxHeartbeats 2000000 in
set_option maxRecDepth 100000 in
theorem oshort_any (g c : Nat) (ns : List (List UInt8)) (w : World) (hn : ns.length ≤ 1000) (hm : ∀ j (h : j < ns.length), ns[j].length ≤ maxLen) (hc : ∀ j (h : j < ns.length), w.cell? ⟨g, j * 5 + 4, none⟩ = some (.string (bs ns[j]))) :
    Calls Tryd.prog 9 #[.slice (some ⟨g, 0, none⟩) ns.length c] w (fun e w' => e = .returned (.bool (shB ns)) ∧ w' = w) := by
  have HM := hide hm
  have HC := hide hc
  clear hm hc
  go_enter Tryd.func9, Tryd.ntmps9
  go_wp2_with fail
  go_loop [3] (ShortRel ns) (fun i => ns.length - (intOf i).toNat)
  case atStart => exact ⟨0, Nat.zero_le _, rfl, rfl⟩
  case round =>
    obtain ⟨k, hk, rfl, hs⟩ := hrel
    have HS := hide hs
    clear hs
    by_cases hlt : k < ns.length
    · have cN := HC.out k hlt
      have hm := HM.out k hlt
      have ST := hide (shB_step ns k hlt)
      have hsz : (bs ns[k]).size = ns[k].length := bs_size _
      have SZ := hide hsz
      have hm2 : (bs ns[k]).size ≤ 9223372036854775807 := by rw [hsz]; unfold maxLen at hm; exact hm
      clear hm hsz
      by_cases hb : 60 < (bs ns[k]).size
      · have E := hide (show shB ns = false by
          rw [← HS.out, ST.out, decide_eq_false (by rw [← SZ.out]; omega)]
          rfl)
        generalize bs ns[k] = b at cN hm2 hb
        go_wp2
        go_ret
        rw [E.out]
        exact ⟨rfl, rfl⟩
      · have E := hide (show shB (ns.drop (k + 1)) = shB ns by
          rw [← HS.out, ST.out, decide_eq_true (by rw [← SZ.out]; omega)]
          rfl)
        generalize bs ns[k] = b at cN hm2 hb
        go_wp2
        refine ⟨⟨k + 1, by omega, by go_num, E.out⟩, by simp [intOf]; omega⟩
    · obtain rfl : k = ns.length := by omega
      have E := hide (show shB ns = true by rw [← HS.out, List.drop_length]; rfl)
      go_wp2
      go_ret
      rw [E.out]
      exact ⟨rfl, rfl⟩
end Go.Proofs.YtjgnneajpkhppaaDoor
