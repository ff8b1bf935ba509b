/-
  Contracts of slices.Grow at nil, and of slices.Concat over rows of bytes that can be read. Conditions: together they are no longer than a million.
-/
import Derived.Test.YtjgnneajpkhppaaDoorAppendB
import Derived.Lib.AppendZerosOnto
import Derived.Lib.SliceRun
import Derived.Lib.Walk
import Derived.LoopTactic
namespace Go.Proofs.YtjgnneajpkhppaaDoor
open Go.RowKit
set_option linter.unusedVariables false

set_option maxHeartbeats 2000000 in
set_option maxRecDepth 100000 in
theorem grow_none (n : Nat) (w : World) (hn : n ≤ 1000000) : Calls Tryd.prog 52 #[.slice none 0 0, .int .i64 n] w (OwnRet w []) := by
  obtain ⟨i0, hi0, hz0, hz1, hz2⟩ := info_parts u8info
  by_cases h0 : n = 0
  · subst h0
    go_enter Tryd.func52, Tryd.ntmps52
    go_wp2
    go_ret
    exact ⟨_, rfl, World.ownsRow_nil _ _ _ _, Below.refl _ _⟩
  · have hrz : ∀ ty, (Builtin.append_ #[33, 3] ty #[.slice none 0 0, .int .i64 (n : Int)]).run Tryd.prog w =
        .ok (.slice (some ⟨w.heap.size, 0, none⟩) n (grownCap w n 0 5)) (w.drew.alloc (.cells (#[] ++ Builtin.zeroCells (Value.int .u8 0).cells n ++ Builtin.zeroCells (Value.int .u8 0).cells (grownCap w n 0 5 - n)) 5)) := fun ty => by
      have h := Lib.run_append_grow_zeros w 33 3 ty 5 i0 (.int .u8 0) .i64 .i64 Tryd.underlying33 Tryd.underlying3 hi0 hz0 none 0 0 [] (run_firstCells_none w.drew i0.size 0 0 0) n (by omega) (by omega) (by omega) (by omega) (by rw [hz2]; omega) (by rw [hz2]; exact growslice_fits (by omega) (by omega))
      simpa using h
    have hG := grownCap_ge w n 0 5
    have hM := grownCap_le_maxLen w n 0 5 (by unfold maxLen; omega)
    have d0 : decide ((n : Int) < 0) = false := by simp
    have d1 : decide ((n : Int) > 0) = true := by simp; omega
    generalize grownCap w n 0 5 = G at hrz hG hM
    have hM2 : G ≤ 9223372036854775807 := by unfold maxLen at hM; omega
    go_enter Tryd.func52, Tryd.ntmps52
    go_wp2_with (at_builtin; refine Lib.wpList_append_run _ rfl _ _ _ _ rfl _ _ rfl rfl _ _ (hrz _) ?_)
    all_goals (go_ret; refine ⟨_, rfl, ?_, ?_⟩)
    · refine ⟨rfl, .inr ⟨w.heap.size, G, Builtin.zeroCells #[.int .u8 0] n ++ Builtin.zeroCells #[.int .u8 0] (G - n), rfl, Nat.le_refl _, ?_, Nat.zero_le _, hM, ?_, by simp [bc]⟩⟩
      · exact heap_alloc_new w _
      · simp [Builtin.zeroCells]
        omega
    · exact ⟨rfl, rfl, rfl, by simp, fun k hk => Below.heap_alloc w _ k hk⟩
/-- Rows of bytes whose slices lie in a block. -/
def RowsIn (w : World) (g : Nat) (ls : List (List UInt8)) : Prop := ∃ vs : List Value, vs.length = ls.length ∧ ∀ j (h : j < ls.length) (h' : j < vs.length), w.cell? ⟨g, j, none⟩ = some vs[j] ∧ RSl w vs[j] ls[j]
theorem RowsIn.at {w : World} {g : Nat} {ls : List (List UInt8)} (h : RowsIn w g ls) (j : Nat) (hj : j < ls.length) : ∃ v, w.cell? ⟨g, j, none⟩ = some v ∧ RSl w v ls[j] := by
  obtain ⟨vs, hl, h⟩ := h
  exact ⟨vs[j]'(by omega), h j hj (by omega)⟩
theorem RSl.form {w : World} {v : Value} {l : List UInt8} (h : RSl w v l) : ∃ A c, v = .slice A l.length c ∧ (A = none → c = 0) ∧ l.length ≤ c ∧ c ≤ maxLen := by
  rcases h with ⟨rfl, rfl⟩ | ⟨g, o, c, cur, rfl, h1, h2, _⟩
  · exact ⟨none, 0, rfl, fun _ => rfl, Nat.le_refl _, Nat.zero_le _⟩
  · exact ⟨_, c, rfl, (by intro h; cases h), h1, h2⟩
def tot (ls : List (List UInt8)) (i : Nat) : Nat := (ls.take i).flatten.length
theorem tot_step (ls : List (List UInt8)) (i : Nat) (h : i < ls.length) : tot ls (i + 1) = tot ls i + ls[i].length ∧ (ls.take (i + 1)).flatten = (ls.take i).flatten ++ ls[i] := by
  have e : (ls.take (i + 1)).flatten = (ls.take i).flatten ++ ls[i] := by
    rw [List.take_succ_eq_append_getElem h, List.flatten_append]
    simp
  refine ⟨?_, e⟩
  unfold tot
  rw [e, List.length_append]
theorem tot_le (ls : List (List UInt8)) (i : Nat) : tot ls i ≤ ls.flatten.length := by
  unfold tot
  conv => rhs; rw [← List.take_append_drop i ls, List.flatten_append, List.length_append]
  omega
def SizeRel (ls : List (List UInt8)) (sz i : Value) : Prop := ∃ k : Nat, k ≤ ls.length ∧ i = .int .i64 (k : Int) ∧ sz = .int .i64 (tot ls k : Int)
def ConRel (w : World) (ls : List (List UInt8)) (v i : Value) (w' : World) : Prop :=
  ∃ k : Nat, k ≤ ls.length ∧ i = .int .i64 (k : Int) ∧ w'.ownsRow w.heap.size 5 1 v (tot ls k) (bc (ls.take k).flatten) ∧ Below w.heap.size w w'
set_option maxHeartbeats 2000000 in
set_option maxRecDepth 100000 in
theorem concat_any (g c : Nat) (ls : List (List UInt8)) (w : World) (hR : RowsIn w g ls) (hls : ls.length ≤ 1000) (hlen : ls.flatten.length ≤ 1000000) :
    Calls Tryd.prog 34 #[.slice (some ⟨g, 0, none⟩) ls.length c] w (OwnRet w ls.flatten) := by
  have HR := hide hR
  clear hR
  go_enter Tryd.func34, Tryd.ntmps34
  go_wp2_with fail
  go_loop [3, 11] (SizeRel ls) (fun _ i => ls.length - (intOf i).toNat)
  case atStart => exact ⟨0, Nat.zero_le _, rfl, rfl⟩
  case round =>
    obtain ⟨k, hk, rfl, rfl⟩ := hrel
    have ht := tot_le ls k
    by_cases hlt : k < ls.length
    · obtain ⟨v, hc, hr⟩ := HR.out.at k hlt
      have hts := (tot_step ls k hlt).1
      have ht2 := tot_le ls (k + 1)
      have hls1 : ls[k].length ≤ 1000000 := by omega
      obtain ⟨A, c1, rfl, hA, h1, h2⟩ := hr.form
      have HTS := hide hts
      rw [HTS.out] at ht2
      clear hr hts hA h1 h2
      generalize hm : ls[k].length = m at HTS ht2 hls1 hc
      generalize hT : tot ls k = T at HTS ht2 ht
      have HT := hide hT
      clear hT hm
      go_wp2
      refine ⟨⟨k + 1, by omega, by go_num, ?_⟩, ?_⟩
      · rw [HTS.out]
        go_num
      · simp [intOf]
        omega
    · obtain rfl : k = ls.length := by omega
      have hfl : tot ls ls.length = ls.flatten.length := by unfold tot; rw [List.take_length]
      generalize hT : tot ls ls.length = T at hfl ht ⊢
      have HT := hide hT
      have hT2 : T ≤ 1000000 := by omega
      have HFL := hide hfl
      clear hT hlt hk hfl ht
      go_wp2_with fail
      refine (grow_none T w hT2).mono ?_
      rintro e w1 ⟨v1, rfl, ho1, hb1⟩
      have O1 := hide ho1
      have B1 := hide hb1
      clear ho1 hb1
      go_wp2_with fail
      go_loopw [6, 27] (ConRel w ls) (fun _ i _ => ls.length - (intOf i).toNat)
      case atStart => exact ⟨0, Nat.zero_le _, rfl, O1.out, B1.out⟩
      case round =>
        obtain ⟨k, hk, rfl, ho, hb⟩ := hrel
        have O := hide ho
        have B := hide hb
        have sz := hb.size
        have htk := tot_le ls k
        by_cases hlt : k < ls.length
        · obtain ⟨v, hc, hr⟩ := HR.out.at k hlt
          have hc' := (hb.cell (World.block_lt_of_cell? w _ hc)).trans hc
          have hr' := hr.below hb
          obtain ⟨A, c1, rfl, hA, h1, h2⟩ := hr.form
          have TS := hide (tot_step ls k hlt)
          have ht2 := tot_le ls (k + 1)
          rw [TS.out.1] at ht2
          have HN := hide (Hnd.of_RSl hr')
          have HA := hide hA
          clear ho hb hc hr hr' hA h1 h2
          go_wp2_with (at_builtin; refine wpList_append_b _ rfl _ _ rfl w.heap.size _ (tot ls k) (ls.take k).flatten rfl O.out A ls[k].length c1 ls[k] rfl rfl HA.out HN.out (by omega) sz ?_)
          intro v' w' ho' hg' _
          have O2 := hide ho'
          have B2 := hide (B.out.grown hg' sz (fun q hq => (O.out.lt q hq).1))
          clear ho' hg' hc'
          go_wp2
          refine ⟨⟨k + 1, by omega, by go_num, ?_, B2.out⟩, by simp [intOf]; omega⟩
          rw [TS.out.1, TS.out.2]
          exact O2.out
        · obtain rfl : k = ls.length := by omega
          go_wp2
          go_ret
          refine ⟨_, rfl, ?_, B.out⟩
          have := O.out
          unfold tot at this
          rw [List.take_length] at this
          exact this
end Go.Proofs.YtjgnneajpkhppaaDoor
