/-
  The contracts of slices.Concat over bytes that were handed in, and of wire.Cut. Conditions: the bytes can be read, and are not longer than a million.
-/
import Derived.Test.YteibkipcblmikaaDoorM8
import Derived.Test.YteibkipcblmikaaDoorM5
import Derived.Lib.AppendZerosOnto
import Derived.Lib.SliceRun
import Derived.Lib.Walk
import Derived.LoopTactic
namespace Go.Proofs.YteibkipcblmikaaDoor
open Go.RowKit
set_option linter.unusedVariables false
set_option maxRecDepth 100000

/-- Bytes that can be read, by a slice with an address or nil. -/
def HRow (w : World) (v : Value) (l : List UInt8) : Prop := Hnd w v l ∧ ∃ A c, v = .slice A l.length c ∧ (A = none → c = 0) ∧ l.length ≤ c ∧ c ≤ maxLen
theorem HRow.below {w w' : World} {v : Value} {l : List UInt8} (h : HRow w v l) (hb : Below w.heap.size w w') : HRow w' v l := ⟨h.1.below hb, h.2⟩
def RowsInH (w : World) (g : Nat) (ls : List (List UInt8)) : Prop := ∃ vs : List Value, vs.length = ls.length ∧ ∀ j (h : j < ls.length) (h' : j < vs.length), w.cell? ⟨g, j, none⟩ = some vs[j] ∧ HRow w vs[j] ls[j]
theorem RowsInH.at {w : World} {g : Nat} {ls : List (List UInt8)} (h : RowsInH w g ls) (j : Nat) (hj : j < ls.length) : ∃ v, w.cell? ⟨g, j, none⟩ = some v ∧ HRow w v ls[j] := by
  obtain ⟨vs, hl, h⟩ := h
  exact ⟨vs[j]'(by omega), h j hj (by omega)⟩
set_option maxHeartbeats 2000000 in
set_option maxRecDepth 100000 in
theorem concatH_any (g c : Nat) (ls : List (List UInt8)) (w : World) (hR : RowsInH w g ls) (hls : ls.length ≤ 1000) (hlen : ls.flatten.length ≤ 1000000) :
    Calls Tryd.prog 39 #[.slice (some ⟨g, 0, none⟩) ls.length c] w (OwnRet w ls.flatten) := by
  have HR := hide hR
  clear hR
  go_enter Tryd.func39, Tryd.ntmps39
  go_wp2_with fail
  go_loop [3, 11] (SizeRel ls) (fun _ i => ls.length - (intOf i).toNat)
  case atStart => exact ⟨0, Nat.zero_le _, rfl, rfl⟩
  case round =>
    obtain ⟨k, hk, rfl, rfl⟩ := hrel
    have ht := tot_le ls k
    by_cases hlt : k < ls.length
    · obtain ⟨v, hc, hr⟩ := HR.out.at k hlt
      have hts := (tot_step ls k hlt).1
      have ht2 := tot_le ls (k + 1)
      have hls1 : ls[k].length ≤ 1000000 := by omega
      obtain ⟨A, c1, rfl, hA, h1, h2⟩ := hr.2
      have HTS := hide hts
      rw [HTS.out] at ht2
      clear hr hts hA h1 h2
      generalize hm : ls[k].length = m at HTS ht2 hls1 hc
      generalize hT : tot ls k = T at HTS ht2 ht
      have HT := hide hT
      clear hT hm
      go_wp2
      refine ⟨⟨k + 1, by omega, by go_num, ?_⟩, ?_⟩
      · rw [HTS.out]
        go_num
      · simp [intOf]
        omega
    · obtain rfl : k = ls.length := by omega
      have hfl : tot ls ls.length = ls.flatten.length := by unfold tot; rw [List.take_length]
      generalize hT : tot ls ls.length = T at hfl ht ⊢
      have HT := hide hT
      have hT2 : T ≤ 1000000 := by omega
      have HFL := hide hfl
      clear hT hlt hk hfl ht
      go_wp2_with fail
      refine (grow_none T w hT2).mono ?_
      rintro e w1 ⟨v1, rfl, ho1, hb1⟩
      have O1 := hide ho1
      have B1 := hide hb1
      clear ho1 hb1
      go_wp2_with fail
      go_loopw [6, 27] (ConRel w ls) (fun _ i _ => ls.length - (intOf i).toNat)
      case atStart => exact ⟨0, Nat.zero_le _, rfl, O1.out, B1.out⟩
      case round =>
        obtain ⟨k, hk, rfl, ho, hb⟩ := hrel
        have O := hide ho
        have B := hide hb
        have sz := hb.size
        have htk := tot_le ls k
        by_cases hlt : k < ls.length
        · obtain ⟨v, hc, hr⟩ := HR.out.at k hlt
          have hc' := (hb.cell (World.block_lt_of_cell? w _ hc)).trans hc
          have hr' := hr.below hb
          obtain ⟨A, c1, rfl, hA, h1, h2⟩ := hr.2
          have TS := hide (tot_step ls k hlt)
          have ht2 := tot_le ls (k + 1)
          rw [TS.out.1] at ht2
          have HN := hide (hr'.1)
          have HA := hide hA
          clear ho hb hc hr hr' hA h1 h2
          go_wp2_with (at_builtin; refine wpList_append_b _ rfl _ _ rfl w.heap.size _ (tot ls k) (ls.take k).flatten rfl O.out A ls[k].length c1 ls[k] rfl rfl HA.out HN.out (by omega) sz ?_)
          intro v' w' ho' hg' _
          have O2 := hide ho'
          have B2 := hide (B.out.grown hg' sz (fun q hq => (O.out.lt q hq).1))
          clear ho' hg' hc'
          go_wp2
          refine ⟨⟨k + 1, by omega, by go_num, ?_, B2.out⟩, by simp [intOf]; omega⟩
          rw [TS.out.1, TS.out.2]
          exact O2.out
        · obtain rfl : k = ls.length := by omega
          go_wp2
          go_ret
          refine ⟨_, rfl, ?_, B.out⟩
          have := O.out
          unfold tot at this
          rw [List.take_length] at this
          exact this

/-- What Cut answers: two rows and an error. -/
def cutF (l : List UInt8) : List UInt8 := if spE l = 0 then l.take (spK l + spN l) else []
def cutR (l : List UInt8) : List UInt8 := if spE l = 0 then l.drop (spK l + spN l) else []
def CutRet6 (w : World) (l : List UInt8) (e : Ending) (w' : World) : Prop :=
  ∃ v1 v2, e = .returned (.tuple #[v1, v2, .int .i64 (spE l)]) ∧ w'.ownsRow w.heap.size 5 1 v1 (cutF l).length (bc (cutF l)) ∧ w'.ownsRow w.heap.size 5 1 v2 (cutR l).length (bc (cutR l)) ∧ Below w.heap.size w w'
theorem cut_two (g : Nat) (v1 v2 : Value) (a b : List UInt8) (W : World) (hc : W.heap[g]? = some (.cells #[v1, v2] 25 (0, 0))) (h1 : HRow W v1 a) (h2 : HRow W v2 b) (hl : a.length + b.length ≤ 1000000) :
    Calls Tryd.prog 39 #[.slice (some ⟨g, 0, none⟩) 2 2] W (OwnRet W (a ++ b)) := by
  have h := concatH_any g 2 [a, b] W ⟨[v1, v2], rfl, fun j hj hj' => ?_⟩ (by simp) (by simpa using hl)
  · simpa using h
  · have hj2 : j = 0 ∨ j = 1 := by simp at hj; omega
    rcases hj2 with rfl | rfl
    · exact ⟨cell_of_row W g 0 _ _ (0, 0) hc, h1⟩
    · exact ⟨cell_of_row W g 1 _ _ (0, 0) hc, h2⟩
set_option maxHeartbeats 1000000 in
theorem cut6_any (A : Option Addr) (c : Nat) (l : List UInt8) (w : World) (hl : l.length ≤ 1000000) (hc : l.length ≤ c) (hm : c ≤ maxLen) (h : Hnd w (.slice A l.length c) l) :
    Calls Tryd.prog 16 #[.slice A l.length c] w (CutRet6 w l) := by
  have hmf : ∀ (fn : Fn) (first cap : Array Value) (w : World), (Instr.makeFunc fn first cap).run Tryd.prog w = .ok (.func fn first cap) w := fun _ _ _ _ => rfl
  have B1 := hide ((Below.refl w.heap.size w).alloc (Nat.le_refl _) (.cells #[.int .i64 0] 26))
  have C1 := hide (ECell.new w)
  have S1 := hide (show w.heap.size + 1 ≤ (w.alloc (.cells #[.int .i64 0] 26)).heap.size by simp)
  have HH := hide h
  have HL := hide hl
  have HC := hide hc
  have HM := hide hm
  clear h hl hc hm
  go_enter_defers Tryd.func16, Tryd.ntmps16
  go_wp2_with fail
  generalize w.alloc (.cells #[.int .i64 0] 26) = w1 at B1 C1 S1 ⊢
  refine (split_any A c l w1 (by have := HL.out; omega) HC.out HM.out (HH.out.below B1.out)).mono ?_
  rintro e w2 ⟨hb, hno, hyes⟩
  have z1 := S1.out
  have B2 := hide (B1.out.trans (hb.mono (by omega)))
  have C2 := hide (C1.out.below hb)
  have z2 := hb.size
  clear hb B1 C1 S1
  by_cases h0 : spE l = 0
  · obtain ⟨hle, rfl⟩ := hyes h0
    have hne : A ≠ none := by
      rintro rfl
      obtain ⟨A', c', he, hn, _⟩ := HH.out
      injection he with e1 e2 e3
      have := hn e1.symm
      subst this
      have : spE [] = 2 := by decide
      omega
    have HF := hide (show cutF l = l.take (spK l) ++ (l.drop (spK l)).take (spN l) by
      unfold cutF
      rw [if_pos h0, List.take_add])
    have HR := hide (show cutR l = (l.drop (spK l + spN l)).take (l.length - (spK l + spN l)) by
      unfold cutR
      rw [if_pos h0, List.take_of_length_le]
      rw [List.length_drop]
      omega)
    have H1 := hide (show HRow w2 (.slice A (spK l) c) (l.take (spK l)) from ⟨(HH.out.below B2.out).head (spK l) (by omega), A, c, by rw [List.length_take, Nat.min_eq_left (by omega)], (fun h => absurd h hne), (by have := HC.out; rw [List.length_take]; omega), HM.out⟩)
    have H2 := hide (show HRow w2 (.slice (cutB A c (spK l)) (spN l) (c - spK l)) ((l.drop (spK l)).take (spN l)) from ⟨(HH.out.below B2.out).mid (spK l) (spN l) hle HC.out, cutB A c (spK l), c - spK l, (by rw [List.length_take, List.length_drop, Nat.min_eq_left (by omega)]), (fun h => by
      exfalso
      unfold cutB at h
      split at h
      · exact hne h
      · cases A with
        | none => exact hne rfl
        | some x => cases h), (by have := HC.out; rw [List.length_take, List.length_drop]; omega), (by have := HM.out; omega)⟩)
    have H3 := hide (show Hnd w2 (.slice (cutB A c (spK l + spN l)) (l.length - (spK l + spN l)) (c - (spK l + spN l))) ((l.drop (spK l + spN l)).take (l.length - (spK l + spN l))) from (HH.out.below B2.out).mid (spK l + spN l) (l.length - (spK l + spN l)) (by omega) HC.out)
    have HX := hide h0
    have L12 := hide (show (l.take (spK l)).length + ((l.drop (spK l)).take (spN l)).length ≤ 1000000 by have := HL.out; simp only [List.length_take, List.length_drop]; omega)
    have L3 := hide (show ((l.drop (spK l + spN l)).take (l.length - (spK l + spN l))).length ≤ 1000000 by have := HL.out; simp only [List.length_take, List.length_drop]; omega)
    generalize (l.drop (spK l + spN l)).take (l.length - (spK l + spN l)) = x3 at HR H3 L3
    generalize (l.drop (spK l)).take (spN l) = x2 at HF H2 L12
    generalize l.take (spK l) = x1 at HF H1 L12
    generalize (Value.slice (cutB A c (spK l + spN l)) (l.length - (spK l + spN l)) (c - (spK l + spN l))) = v3 at H3 ⊢
    generalize (Value.slice (cutB A c (spK l)) (spN l) (c - spK l)) = v2 at H2 ⊢
    generalize (Value.slice A (spK l) c) = v1 at H1 ⊢
    obtain ⟨A1, c1, e1, _⟩ := H1.out.2
    obtain ⟨A2, c2, e2, _⟩ := H2.out.2
    subst e1 e2
    clear hno hyes hle hne h0
    go_wp2_with fail
    have bz := (Below.refl w2.heap.size w2).alloc (Nat.le_refl _) (.cells #[.slice A1 x1.length c1, .slice A2 x2.length c2] 25)
    have B3 := hide (B2.out.alloc (by omega) (.cells #[.slice A1 x1.length c1, .slice A2 x2.length c2] 25))
    have C3 := hide (C2.out.below bz)
    have G1 := hide (H1.out.below bz)
    have G2 := hide (H2.out.below bz)
    have G3 := hide (H3.out.below bz)
    have HC3 := hide (heap_alloc_new w2 (.cells #[.slice A1 x1.length c1, .slice A2 x2.length c2] 25))
    have z3 := bz.size
    clear bz B2 C2 H1 H2 H3
    generalize w2.alloc (.cells #[.slice A1 x1.length c1, .slice A2 x2.length c2] 25) = w3 at B3 C3 G1 G2 G3 HC3 z3 ⊢
    refine (cut_two w2.heap.size _ _ x1 x2 w3 HC3.out G1.out G2.out L12.out).mono ?_
    rintro e w4 ⟨v4, rfl, hown, hb⟩
    have B4 := hide (B3.out.trans (hb.mono (by omega)))
    have C4 := hide (C3.out.below hb)
    have G4 := hide (G3.out.below hb)
    have O4 := hide hown
    have z4 := hb.size
    clear hown hb B3 C3 G1 G2 G3 HC3
    go_wp2_with fail
    refine (clone_any v3 x3 w4 (by have := L3.out; omega) G4.out).mono ?_
    rintro e w5 ⟨v5, rfl, hown, hb⟩
    have B5 := hide (B4.out.trans (hb.mono (by omega)))
    have C5 := hide (C4.out.below hb)
    have O5' := hide (own_base (own_below O4.out hb) (show w.heap.size + 1 ≤ w3.heap.size by omega))
    have O6 := hide (own_base hown (show w.heap.size + 1 ≤ w4.heap.size by omega))
    clear hown hb B4 C4 G4 O4
    have c5 := C5.out.cell
    have z5 := C5.out.froz
    go_wp2_with fail
    have C6 := C5.out.set0
    refine leaves_cons (f := 38) (args := #[.pointer (some ⟨w.heap.size, 0, none⟩)]) (by simp) (by simp [go_sem]) ?_
    refine (cut_idle ⟨w.heap.size, 0, none⟩ 0 _ C6.cell C6.froz).mono ?_
    rintro e u' w'' ⟨rfl, rfl, rfl⟩
    have ce := C6.set 0
    simp [Leaves, settle, results, Tryd.results16, go_sem, ce]
    refine ⟨v4, v5, by rw [HX.out]; rfl, ?_, ?_, (B5.out.setCell (Nat.le_refl _) _).setCell (Nat.le_refl _) _⟩
    · rw [HF.out]; exact own_base (own_set (own_set O5'.out (Nat.lt_succ_self _) _) (Nat.lt_succ_self _) _) (Nat.le_succ _)
    · rw [HR.out]; exact own_base (own_set (own_set O6.out (Nat.lt_succ_self _) _) (Nat.lt_succ_self _) _) (Nat.le_succ _)
  · obtain rfl := hno h0
    have HF := hide (show cutF l = [] from if_neg h0)
    have HR := hide (show cutR l = [] from if_neg h0)
    clear hno hyes h0
    go_wp2_with fail
    refine leaves_cons (f := 38) (args := #[.pointer (some ⟨w.heap.size, 0, none⟩)]) (by simp) (by simp [go_sem]) ?_
    refine (cut_caught ⟨w.heap.size, 0, none⟩ 0 _ _ C2.out.cell C2.out.froz).mono ?_
    rintro e u' w'' ⟨rfl, rfl, rfl⟩
    have ce := C2.out.set (spE l)
    simp [Leaves, settle, results, Tryd.results16, go_sem, pe, ce]
    refine ⟨_, _, rfl, ?_, ?_, B2.out.setCell (Nat.le_refl _) _⟩
    · rw [HF.out]; exact World.ownsRow_nil _ _ _ _
    · rw [HR.out]; exact World.ownsRow_nil _ _ _ _
end Go.Proofs.YteibkipcblmikaaDoor
