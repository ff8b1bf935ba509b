/-
  Bytes that were handed in are appended to a row of the program's own: nil, or not. Conditions: both can be read, and are together no longer than a million.
  Contracts of slices.Grow at nil, and of slices.Concat over rows of bytes that can be read. Conditions: together they are no longer than a million.
  The contract of package op's Put. Conditions: the two tables of unicode/utf8 as the program's text lays them.
  The contract of package op's Take. Conditions: the two tables of unicode/utf8 as the program's text lays them.
  The chapter's example, as the laws of layer 5 try it. Conditions: the two tables of unicode/utf8 as the program's text lays them.
  The contract of the document's Short: have operations names that aren't too long? Conditions: the names can be read.
  The contract of the document's Put. Conditions: the name is no longer than a thousand bytes.
  The walk of the law OpTells: it answers true at every input, and changes nothing that was there. Conditions: the two tables of unicode/utf8 as the program's text lays them.
  What is put is taken, whatever is behind it; what is taken, put again, is the same bytes. No conditions.
  The walk of the law OpBack: it answers true at every input, and changes nothing that was there. Conditions: the two tables of unicode/utf8 as the program's text lays them.
-/
import Derived.Test.YteibkipcblmikaaDoorM1
import Derived.Laws.AppendOwn
import Derived.Laws.OwnMore
import Derived.OwnWalk
import Derived.Lib.AppendZerosOnto
import Derived.Lib.SliceRun
import Derived.Lib.Walk
import Derived.LoopTactic
import Derived.Test.YteibkipcblmikaaDoorM4
import Derived.Test.YteibkipcblmikaaDoorM2
import Derived.Deep.RegionHeld3
import Derived.Laws.ResultCell
import Derived.Lib.SmallJoins
import Derived.Deep.CutRange
import Derived.Test.YteibkipcblmikaaDoorM3
import Derived.Deep.AppendLies
namespace Go.Proofs.YteibkipcblmikaaDoor
set_option maxRecDepth 100000
open Go.RowKit
set_option linter.unusedVariables false

theorem wpList_append_b (w : World) {ops : Array Oper} {rest : List Oper} {o : Oper} {a : Act} {Q : Exit → Act → World → Prop} (hgd : o.guard = none) (s x : Operand)
    (ho : o.op = .call { callee := .builtin .append, args := #[s, x], argTypes := #[25, 25] })
    (base : Nat) (v : Value) (n : Nat) (L : List UInt8) (hs : a.eval s = v) (hown : w.ownsRow base 5 1 v n (bc L))
    (A : Option Addr) (m c : Nat) (l : List UInt8) (hx : a.eval x = .slice A m c) (hl : l.length = m) (hA : A = none → c = 0) (hh : Hnd w (.slice A m c) l)
    (h63 : n + m ≤ 1000000) (hbase : base ≤ w.heap.size)
    (h : ∀ v' w', w'.ownsRow base 5 1 v' (n + m) (bc (L ++ l)) → w.grownBy w' v.ownBlock → (v' = .slice none 0 0 → v = .slice none 0 0) → wpList Tryd.prog ops Q rest (a.put o.dst v') w') : wpList Tryd.prog ops Q (o :: rest) a w := by
  obtain ⟨i0, hi0, hz0, hz1, hz2⟩ := info_parts u8info
  have hm : maxLen = 9223372036854775807 := rfl
  subst hl
  rcases A with _ | ad
  · obtain ⟨A', c', he, hA', _⟩ := hh
    have e := hA rfl
    injection he with e1 e2 e3
    have el := hA' e1.symm
    subst e el
    refine wpList_plain hgd fun _ hK => ?_
    unfold Oper.wp execOp
    simp only [ho, resolve, invoke, builtin, Sem.run_bind, Sem.run_pure, Result.andThen_ok, List.map_toArray, List.map_cons, List.map_nil, hs, hx, List.length_nil,
      run_append_owned_none (P := Tryd.prog) w base 25 o.type 5 i0 1 Tryd.underlying25 hi0 v n (bc L) hown]
    exact hK _ _ (h v w (by rw [List.append_nil]; exact hown) (World.grownBy.refl _ _) id)
  · obtain ⟨A', c', he, _, hc⟩ := hh
    injection he with e1 e2 e3
    refine wpList_append_own w hgd s x 25 ho base 5 i0 (.int .u8 0) 1 1 Tryd.underlying25 hi0 hz0 hz1 hz2 rfl (by decide) v n (bc L) hs hown ad l.length c (bc l) hx (by simp [bc_length]) (hc ad e1.symm) (bc_one _) (by omega) (by omega) hbase ?_
    intro v' w' h1 h2 h3
    exact h v' w' (by rw [bc_append]; exact h1) h2 (fun e => (h3.1 e).1)
theorem ByteArg.nilcap {k : IntKind} {w : World} {a : Option Addr} {len cap : Nat} {zs : List Int} (h : IsRow k w a len cap zs) : a = none → cap = 0 := by
  intro ha
  rcases h with ⟨_, _, h, _⟩ | ⟨x, h, _⟩
  · exact h
  · rw [ha] at h; cases h
/-- A row that holds nothing yet. -/
theorem own_new0 (w : World) (B : Nat) (hB : B ≤ w.heap.size) : (w.alloc (.cells #[] 5)).ownsRow B 5 1 (.slice (some ⟨w.heap.size, 0, none⟩) 0 0) 0 (bc []) :=
  ⟨rfl, .inr ⟨w.heap.size, 0, _, rfl, hB, heap_alloc_new w _, Nat.le_refl _, by decide, rfl, rfl⟩⟩
/-- A row that is not nil has a block. -/
theorem own_form {w : World} {base : Nat} {v : Value} {n : Nat} {xs : List Value} (h : w.ownsRow base 5 1 v n xs) (hv : v ≠ .slice none 0 0) :
    ∃ g cap, v = .slice (some ⟨g, 0, none⟩) n cap ∧ base ≤ g ∧ g < w.heap.size := by
  rcases h.2 with ⟨h0, _⟩ | ⟨g, cap, cur, h1, hb, hg, _⟩
  · exact absurd h0 hv
  · exact ⟨g, cap, h1, hb, (Array.getElem?_eq_some_iff.1 hg).1⟩
/-- A slice's head, nil or not. -/
theorem run_head_any (A : Option Addr) (n c q : Nat) (hq : q ≤ c) (w : World) :
    (Instr.slice 25 (.slice A n c) none (some (.int .i64 (q : Int))) none).run Tryd.prog w = .ok (.slice A q c) w := by
  have hz : (Go.sizeOf 5).run Tryd.prog w = .ok 1 w := by
    obtain ⟨i0, hi0, _, hz1, _⟩ := info_parts u8info
    simp [Go.sizeOf, typeInfo, hi0, hz1]
  have ht' : Tryd.prog.underlying 25 = some (.slice (Tryd.prog.elem 25)) := by simp [Program.elem, Tryd.underlying25]
  have he : Tryd.prog.elem 25 = 5 := by simp [Program.elem, Tryd.underlying25]
  rw [run_slice_h w _ _ _ _ ht' .i64 _ (by omega) (by omega), he, hz]
  rcases A with _ | ad
  · simp [Result.andThen, sliced]
  · simp [Result.andThen, sliced, Addr.add]
theorem Hnd.head {w : World} {A : Option Addr} {n c : Nat} {l : List UInt8} (h : Hnd w (.slice A n c) l) (q : Nat) (hq : q ≤ n) : Hnd w (.slice A q c) (l.take q) := by
  obtain ⟨A', c', he, h1, h2⟩ := h
  injection he with e1 e2 e3
  subst e1 e2 e3
  refine ⟨A, c, by rw [List.length_take, Nat.min_eq_left hq], fun h => by rw [h1 h]; simp, fun ad had j u hu => ?_⟩
  refine h2 ad had j u ?_
  unfold bc at hu ⊢
  rw [List.map_take, List.getElem?_take] at hu
  split at hu
  · exact hu
  · cases hu
/-- A byte is stored in a row of the program's own. -/
theorem own_stored {w : World} {base g n cap : Nat} {l : List UInt8} (h : w.ownsRow base 5 1 (.slice (some ⟨g, 0, none⟩) n cap) n (bc l)) (j : Nat) (b : UInt8) (x : Int) (hx : x = (b.toNat : Int)) :
    (w.setCell ⟨g, j, none⟩ (.int .u8 x)).ownsRow base 5 1 (.slice (some ⟨g, 0, none⟩) n cap) n (bc (l.set j b)) ∧ w.grownBy (w.setCell ⟨g, j, none⟩ (.int .u8 x)) (some g) := by
  have := h.stored j (.int .u8 x)
  rw [show (bc l).set j (.int .u8 x) = bc (l.set j b) by unfold bc; rw [List.map_set, hx]] at this
  exact this
end Go.Proofs.YteibkipcblmikaaDoor
namespace Go.Proofs.YteibkipcblmikaaDoor
set_option maxRecDepth 100000
open Go.RowKit
set_option linter.unusedVariables false

set_option maxHeartbeats 2000000 in
set_option maxRecDepth 100000 in
theorem grow_none (n : Nat) (w : World) (hn : n ≤ 1000000) : Calls Tryd.prog 58 #[.slice none 0 0, .int .i64 n] w (OwnRet w []) := by
  obtain ⟨i0, hi0, hz0, hz1, hz2⟩ := info_parts u8info
  by_cases h0 : n = 0
  · subst h0
    go_enter Tryd.func58, Tryd.ntmps58
    go_wp2
    go_ret
    exact ⟨_, rfl, World.ownsRow_nil _ _ _ _, Below.refl _ _⟩
  · have hrz : ∀ ty, (Builtin.append_ #[25, 3] ty #[.slice none 0 0, .int .i64 (n : Int)]).run Tryd.prog w =
        .ok (.slice (some ⟨w.heap.size, 0, none⟩) n (grownCap w n 0 5)) (w.drew.alloc (.cells (#[] ++ Builtin.zeroCells (Value.int .u8 0).cells n ++ Builtin.zeroCells (Value.int .u8 0).cells (grownCap w n 0 5 - n)) 5)) := fun ty => by
      have h := Lib.run_append_grow_zeros w 25 3 ty 5 i0 (.int .u8 0) .i64 .i64 Tryd.underlying25 Tryd.underlying3 hi0 hz0 none 0 0 [] (run_firstCells_none w.drew i0.size 0 0 0) n (by omega) (by omega) (by omega) (by omega) (by rw [hz2]; omega) (by rw [hz2]; exact growslice_fits (by omega) (by omega))
      simpa using h
    have hG := grownCap_ge w n 0 5
    have hM := grownCap_le_maxLen w n 0 5 (by unfold maxLen; omega)
    have d0 : decide ((n : Int) < 0) = false := by simp
    have d1 : decide ((n : Int) > 0) = true := by simp; omega
    generalize grownCap w n 0 5 = G at hrz hG hM
    have hM2 : G ≤ 9223372036854775807 := by unfold maxLen at hM; omega
    go_enter Tryd.func58, Tryd.ntmps58
    go_wp2_with (at_builtin; refine Lib.wpList_append_run _ rfl _ _ _ _ rfl _ _ rfl rfl _ _ (hrz _) ?_)
    all_goals (go_ret; refine ⟨_, rfl, ?_, ?_⟩)
    · refine ⟨rfl, .inr ⟨w.heap.size, G, Builtin.zeroCells #[.int .u8 0] n ++ Builtin.zeroCells #[.int .u8 0] (G - n), rfl, Nat.le_refl _, ?_, Nat.zero_le _, hM, ?_, by simp [bc]⟩⟩
      · exact heap_alloc_new w _
      · simp [Builtin.zeroCells]
        omega
    · exact ⟨rfl, rfl, rfl, by simp, fun k hk => Below.heap_alloc w _ k hk⟩
/-- Rows of bytes whose slices lie in a block. -/
def RowsIn (w : World) (g : Nat) (ls : List (List UInt8)) : Prop := ∃ vs : List Value, vs.length = ls.length ∧ ∀ j (h : j < ls.length) (h' : j < vs.length), w.cell? ⟨g, j, none⟩ = some vs[j] ∧ RSl w vs[j] ls[j]
theorem RowsIn.at {w : World} {g : Nat} {ls : List (List UInt8)} (h : RowsIn w g ls) (j : Nat) (hj : j < ls.length) : ∃ v, w.cell? ⟨g, j, none⟩ = some v ∧ RSl w v ls[j] := by
  obtain ⟨vs, hl, h⟩ := h
  exact ⟨vs[j]'(by omega), h j hj (by omega)⟩
theorem RSl.form {w : World} {v : Value} {l : List UInt8} (h : RSl w v l) : ∃ A c, v = .slice A l.length c ∧ (A = none → c = 0) ∧ l.length ≤ c ∧ c ≤ maxLen := by
  rcases h with ⟨rfl, rfl⟩ | ⟨g, o, c, cur, rfl, h1, h2, _⟩
  · exact ⟨none, 0, rfl, fun _ => rfl, Nat.le_refl _, Nat.zero_le _⟩
  · exact ⟨_, c, rfl, (by intro h; cases h), h1, h2⟩
def tot (ls : List (List UInt8)) (i : Nat) : Nat := (ls.take i).flatten.length
theorem tot_step (ls : List (List UInt8)) (i : Nat) (h : i < ls.length) : tot ls (i + 1) = tot ls i + ls[i].length ∧ (ls.take (i + 1)).flatten = (ls.take i).flatten ++ ls[i] := by
  have e : (ls.take (i + 1)).flatten = (ls.take i).flatten ++ ls[i] := by
    rw [List.take_succ_eq_append_getElem h, List.flatten_append]
    simp
  refine ⟨?_, e⟩
  unfold tot
  rw [e, List.length_append]
theorem tot_le (ls : List (List UInt8)) (i : Nat) : tot ls i ≤ ls.flatten.length := by
  unfold tot
  conv => rhs; rw [← List.take_append_drop i ls, List.flatten_append, List.length_append]
  omega
def SizeRel (ls : List (List UInt8)) (sz i : Value) : Prop := ∃ k : Nat, k ≤ ls.length ∧ i = .int .i64 (k : Int) ∧ sz = .int .i64 (tot ls k : Int)
def ConRel (w : World) (ls : List (List UInt8)) (v i : Value) (w' : World) : Prop :=
  ∃ k : Nat, k ≤ ls.length ∧ i = .int .i64 (k : Int) ∧ w'.ownsRow w.heap.size 5 1 v (tot ls k) (bc (ls.take k).flatten) ∧ Below w.heap.size w w'
set_option maxHeartbeats 2000000 in
set_option maxRecDepth 100000 in
theorem concat_any (g c : Nat) (ls : List (List UInt8)) (w : World) (hR : RowsIn w g ls) (hls : ls.length ≤ 1000) (hlen : ls.flatten.length ≤ 1000000) :
    Calls Tryd.prog 39 #[.slice (some ⟨g, 0, none⟩) ls.length c] w (OwnRet w ls.flatten) := by
  have HR := hide hR
  clear hR
  go_enter Tryd.func39, Tryd.ntmps39
  go_wp2_with fail
  go_loop [3, 11] (SizeRel ls) (fun _ i => ls.length - (intOf i).toNat)
  case atStart => exact ⟨0, Nat.zero_le _, rfl, rfl⟩
  case round =>
    obtain ⟨k, hk, rfl, rfl⟩ := hrel
    have ht := tot_le ls k
    by_cases hlt : k < ls.length
    · obtain ⟨v, hc, hr⟩ := HR.out.at k hlt
      have hts := (tot_step ls k hlt).1
      have ht2 := tot_le ls (k + 1)
      have hls1 : ls[k].length ≤ 1000000 := by omega
      obtain ⟨A, c1, rfl, hA, h1, h2⟩ := hr.form
      have HTS := hide hts
      rw [HTS.out] at ht2
      clear hr hts hA h1 h2
      generalize hm : ls[k].length = m at HTS ht2 hls1 hc
      generalize hT : tot ls k = T at HTS ht2 ht
      have HT := hide hT
      clear hT hm
      go_wp2
      refine ⟨⟨k + 1, by omega, by go_num, ?_⟩, ?_⟩
      · rw [HTS.out]
        go_num
      · simp [intOf]
        omega
    · obtain rfl : k = ls.length := by omega
      have hfl : tot ls ls.length = ls.flatten.length := by unfold tot; rw [List.take_length]
      generalize hT : tot ls ls.length = T at hfl ht ⊢
      have HT := hide hT
      have hT2 : T ≤ 1000000 := by omega
      have HFL := hide hfl
      clear hT hlt hk hfl ht
      go_wp2_with fail
      refine (grow_none T w hT2).mono ?_
      rintro e w1 ⟨v1, rfl, ho1, hb1⟩
      have O1 := hide ho1
      have B1 := hide hb1
      clear ho1 hb1
      go_wp2_with fail
      go_loopw [6, 27] (ConRel w ls) (fun _ i _ => ls.length - (intOf i).toNat)
      case atStart => exact ⟨0, Nat.zero_le _, rfl, O1.out, B1.out⟩
      case round =>
        obtain ⟨k, hk, rfl, ho, hb⟩ := hrel
        have O := hide ho
        have B := hide hb
        have sz := hb.size
        have htk := tot_le ls k
        by_cases hlt : k < ls.length
        · obtain ⟨v, hc, hr⟩ := HR.out.at k hlt
          have hc' := (hb.cell (World.block_lt_of_cell? w _ hc)).trans hc
          have hr' := hr.below hb
          obtain ⟨A, c1, rfl, hA, h1, h2⟩ := hr.form
          have TS := hide (tot_step ls k hlt)
          have ht2 := tot_le ls (k + 1)
          rw [TS.out.1] at ht2
          have HN := hide (Hnd.of_RSl hr')
          have HA := hide hA
          clear ho hb hc hr hr' hA h1 h2
          go_wp2_with (at_builtin; refine wpList_append_b _ rfl _ _ rfl w.heap.size _ (tot ls k) (ls.take k).flatten rfl O.out A ls[k].length c1 ls[k] rfl rfl HA.out HN.out (by omega) sz ?_)
          intro v' w' ho' hg' _
          have O2 := hide ho'
          have B2 := hide (B.out.grown hg' sz (fun q hq => (O.out.lt q hq).1))
          clear ho' hg' hc'
          go_wp2
          refine ⟨⟨k + 1, by omega, by go_num, ?_, B2.out⟩, by simp [intOf]; omega⟩
          rw [TS.out.1, TS.out.2]
          exact O2.out
        · obtain rfl : k = ls.length := by omega
          go_wp2
          go_ret
          refine ⟨_, rfl, ?_, B.out⟩
          have := O.out
          unfold tot at this
          rw [List.take_length] at this
          exact this
end Go.Proofs.YteibkipcblmikaaDoor
namespace Go.Proofs.YteibkipcblmikaaDoor
set_option maxRecDepth 100000
open Go.RowKit
set_option linter.unusedVariables false

theorem num_le (n : Int) : (num n).length ≤ 5 := by
  unfold num
  split
  · simp
  · rw [form_length]
    have := ext_le n.toNat
    omega
theorem txt_le (l : List UInt8) : (txt l).length ≤ 4101 := by
  unfold txt
  split
  · simp
  · rw [List.length_append, form_length]
    have := ext_le l.length
    omega
theorem opB_le (n r d t : Int) (l : List UInt8) : (opB n r d t l).length ≤ 5000 := by
  unfold opB
  split
  · have h1 := num_le n
    have h2 := num_le r
    have h3 := num_le d
    have h4 := num_le t
    have h5 := txt_le l
    simp only [List.length_append]
    omega
  · simp
theorem keep5 {w w' : World} {g : Nat} {n r d t : Int} {l : List UInt8} (h : Bo w g n r d t l) (hb : Below w.heap.size w w') : Bo w' g n r d t l := h.below hb h.lt
theorem concat5 (g : Nat) (v1 v2 v3 v4 v5 : Value) (N1 N2 N3 N4 N5 : List UInt8) (W : World) (hc : W.heap[g]? = some (.cells #[v1, v2, v3, v4, v5] 25 (0, 0)))
    (h1 : RSl W v1 N1) (h2 : RSl W v2 N2) (h3 : RSl W v3 N3) (h4 : RSl W v4 N4) (h5 : RSl W v5 N5) (hlen : [N1, N2, N3, N4, N5].flatten.length ≤ 5000) :
    Calls Tryd.prog 39 #[.slice (some ⟨g, 0, none⟩) 5 5] W (OwnRet W [N1, N2, N3, N4, N5].flatten) := by
  refine concat_any g 5 [N1, N2, N3, N4, N5] W ⟨[v1, v2, v3, v4, v5], rfl, ?_⟩ (by simp) (by omega)
  intro j hj hj'
  rw [cell_of_row W g j _ _ (0, 0) hc]
  match j, hj with
  | 0, _ => exact ⟨rfl, h1⟩
  | 1, _ => exact ⟨rfl, h2⟩
  | 2, _ => exact ⟨rfl, h3⟩
  | 3, _ => exact ⟨rfl, h4⟩
  | 4, _ => exact ⟨rfl, h5⟩
set_option maxHeartbeats 4000000 in
set_option maxRecDepth 100000 in
theorem oput_any (n r d t : Int) (l : List UInt8) (w : World) (hl : l.length ≤ maxLen) (hE : Env w) : Calls Tryd.prog 43 #[opv n r d t l] w (OwnRet w (opB n r d t l)) := by
  have K0 := hide (fun w => oright_any n r d t l w hl)
  have HE := hide (hE.alloc (.cells #[.int .i64 n, .int .i64 r, .int .i64 d, .int .i64 t, .string (bs l)] 48))
  clear hE
  have HA := hide (Bo.new w n r d t l 48)
  have EB := hide (show opR n r d t l = false → opB n r d t l = [] from fun h => by unfold opB; rw [h]; rfl)
  have ET := hide (show opR n r d t l = true → opB n r d t l = [num n, num r, num d, num t, txt l].flatten from fun h => by unfold opB; rw [if_pos h]; simp)
  have HL := hide (opB_le n r d t l)
  unfold opv at K0
  unfold opv
  generalize opB n r d t l = R at EB ET HL
  generalize opR n r d t l = q at K0 EB ET
  go_enter Tryd.func43, Tryd.ntmps43
  go_wp2_with fail
  refine (K0.out _ HE.out).mono ?_
  rintro e w1 ⟨rfl, hb⟩
  have HB1 := hide (HA.out.below hb (by simp))
  have B1 := hide ((Below.refl w.heap.size w).alloc (Nat.le_refl _) _ |>.trans (hb.mono (by simp)))
  have s1 := B1.out.size
  clear hb K0 HA HE
  cases q with
  | false =>
    go_wp2
    go_ret
    rw [EB.out (by simp)]
    exact ⟨_, rfl, World.ownsRow_nil _ _ _ _, B1.out⟩
  | true =>
    have KN := hide (num_any n)
    have KR := hide (num_any r)
    have KD := hide (num_any d)
    have KT := hide (num_any t)
    have KL := hide (Text_any (bs l))
    rw [bs_data] at KL
    have RE := hide (ET.out (by simp))
    clear EB ET
    generalize num n = N1 at KN RE
    generalize num r = N2 at KR RE
    generalize num d = N3 at KD RE
    generalize num t = N4 at KT RE
    generalize txt l = N5 at KL RE
    obtain ⟨a0, a1, a2, a3, a4⟩ := HB1.out
    go_wp2_with fail
    go_region_held3 (fun w' => w'.cell? ⟨w.heap.size, 0, none⟩ = some (.int .i64 n) ∧ w'.cell? ⟨w.heap.size, 1, none⟩ = some (.int .i64 r) ∧ w'.cell? ⟨w.heap.size, 2, none⟩ = some (.int .i64 d) ∧ w'.cell? ⟨w.heap.size, 3, none⟩ = some (.int .i64 t) ∧ w'.cell? ⟨w.heap.size, 4, none⟩ = some (.string (bs l)))
      (first | exact hSF | exact hSE | exact hSD | exact hSC | exact hSB | exact hSA | exact HB1.out | go_keep)
      (first
        | (go_at_call 25
           (with_reducible refine (KN.out _).mono ?_)
           rintro e wA ⟨vA, rfl, hoA, hbA⟩
           have hbA' : Below w1.heap.size w1 wA := ⟨hbA.os, hbA.tape, hbA.output, hbA.size, hbA.block⟩
           have hoA' : wA.ownsRow w1.heap.size 5 1 vA N1.length (bc N1) := hoA
           have BA := hide (B1.out.trans (hbA'.mono s1))
           have sA := BA.out.size
           have hSA : Bo wA w.heap.size n r d t l := keep5 HB1.out hbA'
           obtain ⟨fA, cA, rfl, _, _, _⟩ := (RSl.of_own hoA').form
           have RA1 := hide (RSl.of_own hoA')
           clear hbA hbA' hoA hoA')
        | (go_at_call 25
           (with_reducible refine (KR.out _).mono ?_)
           rintro e wB ⟨vB, rfl, hoB, hbB⟩
           have hbB' : Below wA.heap.size wA wB := ⟨hbB.os, hbB.tape, hbB.output, hbB.size, hbB.block⟩
           have hoB' : wB.ownsRow wA.heap.size 5 1 vB N2.length (bc N2) := hoB
           have BB := hide (BA.out.trans (hbB'.mono sA))
           have sB := BB.out.size
           have hSB : Bo wB w.heap.size n r d t l := keep5 hSA hbB'
           obtain ⟨fB, cB, rfl, _, _, _⟩ := (RSl.of_own hoB').form
           have RB2 := hide (RSl.of_own hoB')
           have RB1 := hide (RA1.out.below hbB')
           clear hbB hbB' hoB hoB' RA1)
        | (go_at_call 25
           (with_reducible refine (KD.out _).mono ?_)
           rintro e wC ⟨vC, rfl, hoC, hbC⟩
           have hbC' : Below wB.heap.size wB wC := ⟨hbC.os, hbC.tape, hbC.output, hbC.size, hbC.block⟩
           have hoC' : wC.ownsRow wB.heap.size 5 1 vC N3.length (bc N3) := hoC
           have BC := hide (BB.out.trans (hbC'.mono sB))
           have sC := BC.out.size
           have hSC : Bo wC w.heap.size n r d t l := keep5 hSB hbC'
           obtain ⟨fC, cC, rfl, _, _, _⟩ := (RSl.of_own hoC').form
           have RC3 := hide (RSl.of_own hoC')
           have RC1 := hide (RB1.out.below hbC')
           have RC2 := hide (RB2.out.below hbC')
           clear hbC hbC' hoC hoC' RB1 RB2)
        | (go_at_call 25
           (with_reducible refine (KT.out _).mono ?_)
           rintro e wD ⟨vD, rfl, hoD, hbD⟩
           have hbD' : Below wC.heap.size wC wD := ⟨hbD.os, hbD.tape, hbD.output, hbD.size, hbD.block⟩
           have hoD' : wD.ownsRow wC.heap.size 5 1 vD N4.length (bc N4) := hoD
           have BD := hide (BC.out.trans (hbD'.mono sC))
           have sD := BD.out.size
           have hSD : Bo wD w.heap.size n r d t l := keep5 hSC hbD'
           obtain ⟨fD, cD, rfl, _, _, _⟩ := (RSl.of_own hoD').form
           have RD4 := hide (RSl.of_own hoD')
           have RD1 := hide (RC1.out.below hbD')
           have RD2 := hide (RC2.out.below hbD')
           have RD3 := hide (RC3.out.below hbD')
           clear hbD hbD' hoD hoD' RC1 RC2 RC3)
        | (go_at_call 65
           (with_reducible refine (KL.out _).mono ?_)
           rintro e wE ⟨vE, rfl, hoE, hbE⟩
           have hbE' : Below wD.heap.size wD wE := ⟨hbE.os, hbE.tape, hbE.output, hbE.size, hbE.block⟩
           have hoE' : wE.ownsRow wD.heap.size 5 1 vE N5.length (bc N5) := hoE
           have BE := hide (BD.out.trans (hbE'.mono sD))
           have sE := BE.out.size
           have hSE : Bo wE w.heap.size n r d t l := keep5 hSD hbE'
           obtain ⟨fE, cE, rfl, _, _, _⟩ := (RSl.of_own hoE').form
           have RE5 := hide (RSl.of_own hoE')
           have RE1 := hide (RD1.out.below hbE')
           have RE2 := hide (RD2.out.below hbE')
           have RE3 := hide (RD3.out.below hbE')
           have RE4 := hide (RD4.out.below hbE')
           clear hbE hbE' hoE hoE' RD1 RD2 RD3 RD4)
        | (go_at_call 39
           (with_reducible refine (concat5 wE.heap.size (.slice fA N1.length cA) (.slice fB N2.length cB) (.slice fC N3.length cC) (.slice fD N4.length cD) (.slice fE N5.length cE) N1 N2 N3 N4 N5 _ ?hc ?h1 ?h2 ?h3 ?h4 ?h5 ?hlen).mono ?_)
           (case hc => exact heap_alloc_new wE _)
           (case h1 => exact RE1.out.alloc _)
           (case h2 => exact RE2.out.alloc _)
           (case h3 => exact RE3.out.alloc _)
           (case h4 => exact RE4.out.alloc _)
           (case h5 => exact RE5.out.alloc _)
           (case hlen => rw [← RE.out]; exact HL.out)
           rintro e wF ⟨vF, rfl, hoF, hbF⟩
           have hbF' : Below (wE.heap.size + 1) (wE.alloc (.cells #[.slice fA N1.length cA, .slice fB N2.length cB, .slice fC N3.length cC, .slice fD N4.length cD, .slice fE N5.length cE] 25)) wF := ⟨hbF.os, hbF.tape, hbF.output, by have := hbF.size; simpa using this, fun k hk => hbF.block k (by simpa using hk)⟩
           have BF := hide ((BE.out.alloc sE (.cells #[.slice fA N1.length cA, .slice fB N2.length cB, .slice fC N3.length cC, .slice fD N4.length cD, .slice fE N5.length cE] 25)).trans (hbF'.mono (by omega)))
           have OF := hide (own_base hoF (by simp; omega : w.heap.size ≤ _))
           have hSF : Bo wF w.heap.size n r d t l := (hSE.alloc (.cells #[.slice fA N1.length cA, .slice fB N2.length cB, .slice fC N3.length cC, .slice fD N4.length cD, .slice fE N5.length cE] 25)).below hbF' (by have := hSE.lt; omega)
           clear hbF hbF' hoF))
    go_wp2
    go_ret
    rw [RE.out]
    exact ⟨_, rfl, OF.out, BF.out⟩
end Go.Proofs.YteibkipcblmikaaDoor
namespace Go.Proofs.YteibkipcblmikaaDoor
set_option maxRecDepth 100000
open Go.RowKit
set_option linter.unusedVariables false

/-- A reader's block is none of the two tables. -/
theorem Env.grown {w w' : World} {g e : Nat} {l : List UInt8} (hE : Env w) (hr : Rd w g l e) (gr : w.grownBy w' (some g)) : Env w' := by
  obtain ⟨sv, hc, hs⟩ := hr
  have h0 := hc.c0
  have hsv : ∃ A n c, sv = .slice A n c := by
    obtain ⟨A, c, h, _⟩ := hs.form
    exact ⟨A, _, c, h⟩
  obtain ⟨A, n, c, rfl⟩ := hsv
  have key : ∀ (b : Nat) (x : Int), w.cell? ⟨b, 0, none⟩ = some (.int .u8 x) → ∀ j u, w.cell? ⟨b, j, none⟩ = some u → w'.cell? ⟨b, j, none⟩ = some u := by
    intro b x hx j u hu
    have hne : b ≠ g := by
      rintro rfl
      rw [h0] at hx
      cases hx
    have hlt : b < w.heap.size := World.block_lt_of_cell? w ⟨b, j, none⟩ hu
    rw [← hu]
    exact World.cell?_of_block (gr.block b hlt (by intro h; injection h with h; exact hne h))
  obtain ⟨t1, t2⟩ := hE.tabs
  exact ⟨fun c hc => key _ _ (t1 0 (by omega)) _ _ (t1 c hc), fun i hi => ⟨key _ _ (t2 0 (by omega)).1 _ _ (t2 i hi).1, key _ _ (t2 0 (by omega)).1 _ _ (t2 i hi).2⟩⟩

/-- What is taken: the four numbers, the name, what is left, the error. -/
def tk1 (l : List UInt8) (e : Nat) : Nat × List UInt8 × Nat := rNum 16777215 l e
def tk2 (l : List UInt8) (e : Nat) : Nat × List UInt8 × Nat := rNum 255 (tk1 l e).2.1 (tk1 l e).2.2
def tk3 (l : List UInt8) (e : Nat) : Nat × List UInt8 × Nat := rNum 4294967295 (tk2 l e).2.1 (tk2 l e).2.2
def tk4 (l : List UInt8) (e : Nat) : Nat × List UInt8 × Nat := rNum 4294967295 (tk3 l e).2.1 (tk3 l e).2.2
def tk5 (l : List UInt8) (e : Nat) : List UInt8 × List UInt8 × Nat := rTxt 20 (tk4 l e).2.1 (tk4 l e).2.2
/-- Whether there is one. -/
def tkR (l : List UInt8) (e : Nat) : Bool := opR (tk1 l e).1 (tk2 l e).1 (tk3 l e).1 (tk4 l e).1 (tk5 l e).1
/-- What is answered. -/
def tkV (l : List UInt8) (e : Nat) : Value := if tkR l e = true then opv (tk1 l e).1 (tk2 l e).1 (tk3 l e).1 (tk4 l e).1 (tk5 l e).1 else opv 0 0 0 0 []
def TakeRet (w : World) (g : Nat) (l : List UInt8) (e : Nat) (ed : Ending) (w' : World) : Prop :=
  ed = .returned (.tuple #[tkV l e, .bool (tkR l e)]) ∧ Rd w' g (tk5 l e).2.1 (tk5 l e).2.2 ∧ w.grownBy w' (some g)
/-- Where Take stands: the reader, the answer's block, the block of what was read by now. -/
structure TkS (w : World) (g : Nat) (l : List UInt8) (e : Nat) (cs : Array Value) (wk : World) : Prop where
  rd : Rd wk g l e
  res : wk.heap[w.heap.size]? = some (.cells #[.int .i64 0, .int .i64 0, .int .i64 0, .int .i64 0, .string (bs [])] 48 (0, 0))
  opb : wk.heap[w.heap.size + 1]? = some (.cells cs 48 (0, 0))
  gr : w.grownBy wk (some g)
  sz : wk.heap.size = w.heap.size + 2
theorem TkS.num {w wk w' : World} {g e e' : Nat} {l l' : List UInt8} {cs : Array Value} (h : TkS w g l e cs wk) (hg : g < w.heap.size) (hr : Rd w' g l' e') (ho : Only g wk w') : TkS w g l' e' cs w' := by
  have s := h.sz
  refine ⟨hr, ?_, ?_, ⟨ho.grown.os.trans h.gr.os, ho.grown.tape.trans h.gr.tape, ho.grown.output.trans h.gr.output, Nat.le_trans h.gr.size ho.grown.size, fun k hk hne => ?_⟩, by rw [ho.size, s]⟩
  · rw [ho.grown.block _ (by omega) (by intro hh; injection hh with hh; omega)]
    exact h.res
  · rw [ho.grown.block _ (by omega) (by intro hh; injection hh with hh; omega)]
    exact h.opb
  · rw [ho.grown.block _ (by omega) hne]
    exact h.gr.block k hk hne
theorem TkS.set {w wk : World} {g e : Nat} {l : List UInt8} {cs : Array Value} (h : TkS w g l e cs wk) (hg : g < w.heap.size) (j : Nat) (v : Value) : TkS w g l e (cs.setIfInBounds j v) (wk.setCell ⟨w.heap.size + 1, j, none⟩ v) := by
  obtain ⟨sv, hc, hs⟩ := h.rd
  have ok : ∀ k, k ≠ w.heap.size + 1 → (wk.setCell ⟨w.heap.size + 1, j, none⟩ v).heap[k]? = wk.heap[k]? := fun k hk => Below.heap_setCell wk _ v k hk
  refine ⟨⟨sv, (ok g (by omega)).trans hc, hs.keep fun k cur hk => ok k ?_⟩, (ok _ (by omega)).trans h.res, Joins.block_setCell h.opb v, ⟨h.gr.os, h.gr.tape, h.gr.output, ?_, fun k hk hne => (ok k (by omega)).trans (h.gr.block k hk hne)⟩, ?_⟩
  · rintro rfl
    have := h.opb
    rw [hk] at this
    injection this with this
    injection this with _ ht
    exact absurd ht (by decide)
  · have := h.sz
    simp [World.setCell]
    omega
  · have := h.sz
    simp [World.setCell]
    omega
theorem TkS.c {w wk : World} {g e : Nat} {l : List UInt8} {cs : Array Value} (h : TkS w g l e cs wk) (j : Nat) (v : Value) (hj : cs[j]? = some v) : wk.cell? ⟨w.heap.size + 1, j, none⟩ = some v := by
  rw [cell_of_row wk _ j _ _ (0, 0) h.opb]
  simpa using hj
theorem TkS.z {w wk : World} {g e : Nat} {l : List UInt8} {cs : Array Value} (h : TkS w g l e cs wk) (j : Nat) : wk.frozen? ⟨w.heap.size + 1, j, none⟩ = false := Joins.unfrozen_of_block h.opb j
theorem TkS.start {w : World} {g e : Nat} {l : List UInt8} (hr : Rd w g l e) :
    TkS w g l e #[.int .i64 0, .int .i64 0, .int .i64 0, .int .i64 0, .string (bs [])] ((w.alloc (.cells #[.int .i64 0, .int .i64 0, .int .i64 0, .int .i64 0, .string (bs [])] 48)).alloc (.cells #[.int .i64 0, .int .i64 0, .int .i64 0, .int .i64 0, .string (bs [])] 48)) := by
  have b := below_two w (.cells #[.int .i64 0, .int .i64 0, .int .i64 0, .int .i64 0, .string (bs [])] 48) (.cells #[.int .i64 0, .int .i64 0, .int .i64 0, .int .i64 0, .string (bs [])] 48)
  refine ⟨hr.below b, ?_, ?_, ⟨b.os, b.tape, b.output, b.size, fun k hk _ => b.block k hk⟩, by simp⟩
  · rw [Below.heap_alloc _ _ _ (by simp)]
    exact heap_alloc_new w _
  · have := heap_alloc_new (w.alloc (.cells #[.int .i64 0, .int .i64 0, .int .i64 0, .int .i64 0, .string (bs [])] 48)) (.cells #[.int .i64 0, .int .i64 0, .int .i64 0, .int .i64 0, .string (bs [])] 48)
    rwa [show (w.alloc (.cells #[.int .i64 0, .int .i64 0, .int .i64 0, .int .i64 0, .string (bs [])] 48)).heap.size = w.heap.size + 1 by simp] at this
/-- Where Take ends: the reader, the answer's block. -/
structure TkE (w : World) (g : Nat) (l : List UInt8) (e : Nat) (cs : Array Value) (wk : World) : Prop where
  rd : Rd wk g l e
  res : wk.heap[w.heap.size]? = some (.cells cs 48 (0, 0))
  gr : w.grownBy wk (some g)
theorem TkE.set {w wk : World} {g e : Nat} {l : List UInt8} {cs : Array Value} (h : TkE w g l e cs wk) (hg : g < w.heap.size) (j : Nat) (v : Value) : TkE w g l e (cs.setIfInBounds j v) (wk.setCell ⟨w.heap.size, j, none⟩ v) := by
  obtain ⟨sv, hc, hs⟩ := h.rd
  have ok : ∀ k, k ≠ w.heap.size → (wk.setCell ⟨w.heap.size, j, none⟩ v).heap[k]? = wk.heap[k]? := fun k hk => Below.heap_setCell wk _ v k hk
  refine ⟨⟨sv, (ok g (by omega)).trans hc, hs.keep fun k cur hk => ok k ?_⟩, Joins.block_setCell h.res v, ⟨h.gr.os, h.gr.tape, h.gr.output, ?_, fun k hk hne => (ok k (by omega)).trans (h.gr.block k hk hne)⟩⟩
  · rintro rfl
    have := h.res
    rw [hk] at this
    injection this with this
    injection this with _ ht
    exact absurd ht (by decide)
  · have := h.gr.size
    simpa [World.setCell] using this
theorem TkE.c {w wk : World} {g e : Nat} {l : List UInt8} {cs : Array Value} (h : TkE w g l e cs wk) (j : Nat) (v : Value) (hj : cs[j]? = some v) : wk.cell? ⟨w.heap.size, j, none⟩ = some v := by
  rw [cell_of_row wk _ j _ _ (0, 0) h.res]
  simpa using hj
theorem rNum_most (most : Int) (l : List UInt8) (e : Nat) (h : 0 ≤ most) : ((rNum most l e).1 : Int) ≤ most := by
  unfold rNum
  split
  · simpa using h
  · split
    · simpa using h
    · split
      · simpa using h
      · simp only
        omega
theorem rTxt_20 (l : List UInt8) (e : Nat) : (rTxt 20 l e).1.length ≤ 20 := by
  have h := rNum_most 20 l e (by omega)
  unfold rTxt
  generalize rNum 20 l e = p at h ⊢
  obtain ⟨n, l1, e1⟩ := p
  simp only at h ⊢
  split
  · simp
  · split
    · simp
    · simp only [List.length_take]
      omega
set_option maxHeartbeats 4000000 in
set_option maxRecDepth 100000 in
theorem otake_any (g e : Nat) (l : List UInt8) (w : World) (h : Rd w g l e) (hE : Env w) : Calls Tryd.prog 55 #[.pointer (some ⟨g, 0, none⟩)] w (TakeRet w g l e) := by
  have T0 := hide (TkS.start h)
  have hg : g < w.heap.size := h.lt
  have HE := hide hE
  have HR := hide h
  clear h hE
  go_enter Tryd.func55, Tryd.ntmps55
  go_wp2_with fail
  refine (number_any g e l 16777215 _ T0.out.rd).mono ?_
  rintro ed w1 ⟨rfl, hr1, ho1⟩
  have T1 := hide (T0.out.num hg hr1 ho1)
  clear hr1 ho1 T0
  change Hid (TkS w g (tk1 l e).2.1 (tk1 l e).2.2 _ w1) at T1
  have e1 : (rNum 16777215 l e).1 = (tk1 l e).1 := rfl
  rw [e1]
  clear e1
  have Q2 : Hid (rNum 255 (tk1 l e).2.1 (tk1 l e).2.2 = tk2 l e) := hide rfl
  have Q3 : Hid (rNum 4294967295 (tk2 l e).2.1 (tk2 l e).2.2 = tk3 l e) := hide rfl
  have Q4 : Hid (rNum 4294967295 (tk3 l e).2.1 (tk3 l e).2.2 = tk4 l e) := hide rfl
  have Q5 : Hid (rTxt 20 (tk4 l e).2.1 (tk4 l e).2.2 = tk5 l e) := hide rfl
  have hlen : (tk5 l e).1.length ≤ maxLen := by
    have := rTxt_20 (tk4 l e).2.1 (tk4 l e).2.2
    rw [Q5.out] at this
    exact Nat.le_trans this (by decide)
  have RV : Hid (∀ ed w', ed = .returned (.tuple #[if tkR l e = true then opv (tk1 l e).1 (tk2 l e).1 (tk3 l e).1 (tk4 l e).1 (tk5 l e).1 else opv 0 0 0 0 [], .bool (tkR l e)]) → Rd w' g (tk5 l e).2.1 (tk5 l e).2.2 → w.grownBy w' (some g) → TakeRet w g l e ed w') := hide fun ed w' h1 h2 h3 => ⟨h1, h2, h3⟩
  have RR : Hid (tkR l e = opR (tk1 l e).1 (tk2 l e).1 (tk3 l e).1 (tk4 l e).1 (tk5 l e).1) := hide rfl
  generalize tkR l e = R at RV RR
  generalize tk5 l e = p5 at *
  generalize tk4 l e = p4 at *
  generalize tk3 l e = p3 at *
  generalize tk2 l e = p2 at *
  generalize tk1 l e = p1 at *
  obtain ⟨n1, l1, x1⟩ := p1
  obtain ⟨n2, l2, x2⟩ := p2
  obtain ⟨n3, l3, x3⟩ := p3
  obtain ⟨n4, l4, x4⟩ := p4
  obtain ⟨s5, l5, x5⟩ := p5
  simp only at *
  have c0 := T1.out.c 0 _ rfl
  have z0 := T1.out.z 0
  go_wp2_with fail
  refine (number_any g x1 l1 255 _ (T1.out.set hg 0 _).rd).mono ?_
  rw [Q2.out]
  rintro ed w2 ⟨rfl, hr2, ho2⟩
  have T2 := hide ((T1.out.set hg 0 (.int .i64 n1)).num hg hr2 ho2)
  clear hr2 ho2 T1 c0 z0
  have c1 := T2.out.c 1 _ rfl
  have z1 := T2.out.z 1
  go_wp2_with fail
  refine (number_any g x2 l2 4294967295 _ (T2.out.set hg 1 _).rd).mono ?_
  rw [Q3.out]
  rintro ed w3 ⟨rfl, hr3, ho3⟩
  have T3 := hide ((T2.out.set hg 1 (.int .i64 n2)).num hg hr3 ho3)
  clear hr3 ho3 T2 c1 z1
  have c2 := T3.out.c 2 _ rfl
  have z2 := T3.out.z 2
  go_wp2_with fail
  refine (number_any g x3 l3 4294967295 _ (T3.out.set hg 2 _).rd).mono ?_
  rw [Q4.out]
  rintro ed w4 ⟨rfl, hr4, ho4⟩
  have T4 := hide ((T3.out.set hg 2 (.int .i64 n3)).num hg hr4 ho4)
  clear hr4 ho4 T3 c2 z2
  have c3 := T4.out.c 3 _ rfl
  have z3 := T4.out.z 3
  go_wp2_with fail
  refine (text_any g x4 l4 20 _ (T4.out.set hg 3 _).rd).mono ?_
  rw [Q5.out]
  rintro ed w5 ⟨rfl, hr5, ho5⟩
  have T5 := hide ((T4.out.set hg 3 (.int .i64 n4)).num hg hr5 ho5)
  clear hr5 ho5 T4 c3 z3
  have c4 := T5.out.c 4 _ rfl
  have z4 := T5.out.z 4
  have T6 : Hid (TkS w g l5 x5 #[.int .i64 n1, .int .i64 n2, .int .i64 n3, .int .i64 n4, .string (bs s5)] (w5.setCell ⟨w.heap.size + 1, 4, none⟩ (.string (bs s5)))) := hide (T5.out.set hg 4 (.string (bs s5)))
  go_upto_region 7 with (fail)
  clear c4 z4 T5
  generalize w5.setCell ⟨w.heap.size + 1, 4, none⟩ (.string (bs s5)) = w6 at T6 ⊢
  have c0 := T6.out.c 0 _ rfl
  have c1 := T6.out.c 1 _ rfl
  have c2 := T6.out.c 2 _ rfl
  have c3 := T6.out.c 3 _ rfl
  have c4 := T6.out.c 4 _ rfl
  simp only [List.getElem_toArray, List.getElem_cons_zero, List.getElem_cons_succ] at c0 c1 c2 c3 c4
  have KR := hide (oright_any n1 n2 n3 n4 s5 w6 hlen (HE.out.grown HR.out T6.out.gr))
  unfold opv at KR
  rw [← RR.out] at KR
  go_wp2_with fail
  refine KR.out.mono ?_
  rintro ed w7 ⟨rfl, hb7⟩
  have hs6 := T6.out.sz
  have d0 := (hb7.cell (p := ⟨w.heap.size + 1, 0, none⟩) (by simp; omega)).trans c0
  have d1 := (hb7.cell (p := ⟨w.heap.size + 1, 1, none⟩) (by simp; omega)).trans c1
  have d2 := (hb7.cell (p := ⟨w.heap.size + 1, 2, none⟩) (by simp; omega)).trans c2
  have d3 := (hb7.cell (p := ⟨w.heap.size + 1, 3, none⟩) (by simp; omega)).trans c3
  have d4 := (hb7.cell (p := ⟨w.heap.size + 1, 4, none⟩) (by simp; omega)).trans c4
  have hres := (hb7.block w.heap.size (by omega)).trans T6.out.res
  have RS := hide hres
  have R7 := hide (T6.out.rd.below hb7)
  have G7 : Hid (w.grownBy w7 (some g)) := hide ⟨hb7.os.trans T6.out.gr.os, hb7.tape.trans T6.out.gr.tape, hb7.output.trans T6.out.gr.output, Nat.le_trans T6.out.gr.size hb7.size, fun k hk hne => (hb7.block k (by omega)).trans (T6.out.gr.block k hk hne)⟩
  clear hb7 KR c0 c1 c2 c3 c4 T6
  have r0 := cell_of_row w7 w.heap.size 0 _ _ (0, 0) hres
  have r1 := cell_of_row w7 w.heap.size 1 _ _ (0, 0) hres
  have r2 := cell_of_row w7 w.heap.size 2 _ _ (0, 0) hres
  have r3 := cell_of_row w7 w.heap.size 3 _ _ (0, 0) hres
  have r4 := cell_of_row w7 w.heap.size 4 _ _ (0, 0) hres
  simp only [List.getElem?_toArray, List.getElem?_cons_zero, List.getElem?_cons_succ] at r0 r1 r2 r3 r4
  have z : ∀ j, w7.frozen? ⟨w.heap.size, j, none⟩ = false := fun j => Joins.unfrozen_of_block hres j
  have z0 := z 0
  have z1 := z 1
  have z2 := z 2
  have z3 := z 3
  have z4 := z 4
  clear z hres
  have E7 : Hid (∀ (a b c d : Int) (s : ByteArray), TkE w g l5 x5 #[.int .i64 a, .int .i64 b, .int .i64 c, .int .i64 d, .string s] (((((w7.setCell ⟨w.heap.size, 0, none⟩ (.int .i64 a)).setCell ⟨w.heap.size, 1, none⟩ (.int .i64 b)).setCell ⟨w.heap.size, 2, none⟩ (.int .i64 c)).setCell ⟨w.heap.size, 3, none⟩ (.int .i64 d)).setCell ⟨w.heap.size, 4, none⟩ (.string s))) :=
    hide fun a b c d s => (((((TkE.mk R7.out RS.out G7.out).set hg 0 (.int .i64 a)).set hg 1 (.int .i64 b)).set hg 2 (.int .i64 c)).set hg 3 (.int .i64 d)).set hg 4 (.string s)
  cases R with
  | false =>
    go_wp2
    (try simp only [Exit.inBlock, Exit.then])
    have E8 := hide (E7.out 0 0 0 0 ⟨#[]⟩)
    generalize ((((w7.setCell ⟨w.heap.size, 0, none⟩ (.int .i64 0)).setCell ⟨w.heap.size, 1, none⟩ (.int .i64 0)).setCell ⟨w.heap.size, 2, none⟩ (.int .i64 0)).setCell ⟨w.heap.size, 3, none⟩ (.int .i64 0)).setCell ⟨w.heap.size, 4, none⟩ (.string ⟨#[]⟩) = w8 at E8 ⊢
    have e0 := E8.out.c 0 _ rfl
    have e1 := E8.out.c 1 _ rfl
    have e2 := E8.out.c 2 _ rfl
    have e3 := E8.out.c 3 _ rfl
    have e4 := E8.out.c 4 _ rfl
    simp only [List.getElem_toArray, List.getElem_cons_zero, List.getElem_cons_succ] at e0 e1 e2 e3 e4
    refine bodyPost_ret (v := .tuple #[.agg #[.int .i64 0, .int .i64 0, .int .i64 0, .int .i64 0, .string ⟨#[]⟩], .bool false]) ?_ rfl (RV.out _ _ ?_ E8.out.rd E8.out.gr)
    · rw [results_cell_tmp rfl]
      go_simp
    · rfl
  | true =>
    go_wp2
    (try simp only [Exit.inBlock, Exit.then])
    have E8 := hide (E7.out n1 n2 n3 n4 (bs s5))
    generalize ((((w7.setCell ⟨w.heap.size, 0, none⟩ (.int .i64 (n1 : Int))).setCell ⟨w.heap.size, 1, none⟩ (.int .i64 (n2 : Int))).setCell ⟨w.heap.size, 2, none⟩ (.int .i64 (n3 : Int))).setCell ⟨w.heap.size, 3, none⟩ (.int .i64 (n4 : Int))).setCell ⟨w.heap.size, 4, none⟩ (.string (bs s5)) = w8 at E8 ⊢
    have e0 := E8.out.c 0 _ rfl
    have e1 := E8.out.c 1 _ rfl
    have e2 := E8.out.c 2 _ rfl
    have e3 := E8.out.c 3 _ rfl
    have e4 := E8.out.c 4 _ rfl
    simp only [List.getElem_toArray, List.getElem_cons_zero, List.getElem_cons_succ] at e0 e1 e2 e3 e4
    refine bodyPost_ret (v := .tuple #[.agg #[.int .i64 n1, .int .i64 n2, .int .i64 n3, .int .i64 n4, .string (bs s5)], .bool true]) ?_ rfl (RV.out _ _ ?_ E8.out.rd E8.out.gr)
    · rw [results_cell_tmp rfl]
      go_simp
    · rfl
end Go.Proofs.YteibkipcblmikaaDoor
namespace Go.Proofs.YteibkipcblmikaaDoor
set_option maxRecDepth 100000
open Go.RowKit
set_option linter.unusedVariables false

/-- Are two operations one? -/
def opE (n r d t : Int) (l : List UInt8) (m s e u : Int) (k : List UInt8) : Bool := decide (n = m ∧ r = s ∧ d = e ∧ t = u ∧ l = k)
set_option maxRecDepth 100000 in
theorem st_eql (dp : Nat) (n r m s : Int) (w : World) :
    (Op.equalIn (dp + 1 + 1) 46 (.agg #[.int .i64 n, .int .i64 r]) (.agg #[.int .i64 m, .int .i64 s])).run Tryd.prog w = .ok (decide (n = m ∧ r = s)) w := by
  have u3 := Tryd.underlying3
  have a3 := Tryd.isAgg3
  have z3 := Tryd.sizeOf3
  rw [run_equalIn_agg w (dp + 1) 46 _ _ (by kernel_rfl) (by kernel_rfl)]
  simp only [Program.fieldsOf, Tryd.underlying46]
  go_simp
  by_cases h1 : n = m <;> by_cases h2 : r = s <;> simp [h1, h2]
set_option maxRecDepth 100000 in
theorem op_eql (n r d t : Int) (l : List UInt8) (m s e u : Int) (k : List UInt8) (w : World) :
    (binOp .eql 48 (opv n r d t l) (opv m s e u k)).run Tryd.prog w = .ok (.bool (opE n r d t l m s e u k)) w := by
  have u3 := Tryd.underlying3
  have a3 := Tryd.isAgg3
  have z3 := Tryd.sizeOf3
  have u9 := Tryd.underlying9
  have a9 := Tryd.isAgg9
  have z9 := Tryd.sizeOf9
  have a23 := Tryd.isAgg46
  have z23 := Tryd.sizeOf46
  have hst := fun dp => st_eql dp n r m s
  unfold opv opE
  rw [run_eql_struct, show (10000 : Nat) = 9997 + 1 + 1 + 1 from rfl, run_equalIn_agg w (9997 + 1 + 1) 48 _ _ (by kernel_rfl) (by kernel_rfl)]
  simp only [Program.fieldsOf, Tryd.underlying48]
  go_simp
  rw [bs_list, bs_list]
  by_cases h1 : n = m <;> by_cases h2 : r = s <;> by_cases h3 : d = e <;> by_cases h4 : t = u <;> by_cases h5 : l = k <;> simp [h1, h2, h3, h4, h5]
theorem ex_b : opB 5 7 1287 0 [97] = [5, 7, 135, 10, 0, 1, 97] := by decide
theorem ex_r : opR 5 7 1287 0 [97] = true := by decide
theorem ex_t : tkR [5, 7, 135, 10, 0, 1, 97] 0 = true := by decide
theorem ex_v : tkV [5, 7, 135, 10, 0, 1, 97] 0 = opv 5 7 1287 0 [97] := by
  unfold tkV
  rw [if_pos ex_t]
  have e : tk1 [5, 7, 135, 10, 0, 1, 97] 0 = (5, [7, 135, 10, 0, 1, 97], 0) ∧ tk2 [5, 7, 135, 10, 0, 1, 97] 0 = (7, [135, 10, 0, 1, 97], 0) ∧ tk3 [5, 7, 135, 10, 0, 1, 97] 0 = (1287, [0, 1, 97], 0) ∧ tk4 [5, 7, 135, 10, 0, 1, 97] 0 = (0, [1, 97], 0) ∧ tk5 [5, 7, 135, 10, 0, 1, 97] 0 = ([97], [], 0) := by decide
  obtain ⟨e1, e2, e3, e4, e5⟩ := e
  rw [e1, e2, e3, e4, e5]
  rfl
theorem ex_c : opC 5 7 1287 0 [97] 0 0 0 0 [] = 1 := by decide
end Go.Proofs.YteibkipcblmikaaDoor
namespace Go.Proofs.YteibkipcblmikaaDoor
set_option maxRecDepth 100000
open Go.RowKit
set_option linter.unusedVariables false

def shB (ns : List (List UInt8)) : Bool := ns.all fun x => decide (x.length ≤ 60)
def ShortRel (ns : List (List UInt8)) (i : Value) : Prop := ∃ k : Nat, k ≤ ns.length ∧ i = .int .i64 (k : Int) ∧ shB (ns.drop k) = shB ns
theorem shB_step (ns : List (List UInt8)) (k : Nat) (h : k < ns.length) : shB (ns.drop k) = (decide (ns[k].length ≤ 60) && shB (ns.drop (k + 1))) := by
  unfold shB
  rw [List.drop_eq_getElem_cons h]
  rfl
set_option maxHeartbeats 2000000 in
set_option maxRecDepth 100000 in
theorem oshort_any (g c : Nat) (ns : List (List UInt8)) (w : World) (hn : ns.length ≤ 1000) (hm : ∀ j (h : j < ns.length), ns[j].length ≤ maxLen) (hc : ∀ j (h : j < ns.length), w.cell? ⟨g, j * 5 + 4, none⟩ = some (.string (bs ns[j]))) :
    Calls Tryd.prog 10 #[.slice (some ⟨g, 0, none⟩) ns.length c] w (fun e w' => e = .returned (.bool (shB ns)) ∧ w' = w) := by
  have HM := hide hm
  have HC := hide hc
  clear hm hc
  go_enter Tryd.func10, Tryd.ntmps10
  go_wp2_with fail
  go_loop [3] (ShortRel ns) (fun i => ns.length - (intOf i).toNat)
  case atStart => exact ⟨0, Nat.zero_le _, rfl, rfl⟩
  case round =>
    obtain ⟨k, hk, rfl, hs⟩ := hrel
    have HS := hide hs
    clear hs
    by_cases hlt : k < ns.length
    · have cN := HC.out k hlt
      have hm := HM.out k hlt
      have ST := hide (shB_step ns k hlt)
      have hsz : (bs ns[k]).size = ns[k].length := bs_size _
      have SZ := hide hsz
      have hm2 : (bs ns[k]).size ≤ 9223372036854775807 := by rw [hsz]; unfold maxLen at hm; exact hm
      clear hm hsz
      by_cases hb : 60 < (bs ns[k]).size
      · have E := hide (show shB ns = false by
          rw [← HS.out, ST.out, decide_eq_false (by rw [← SZ.out]; omega)]
          rfl)
        generalize bs ns[k] = b at cN hm2 hb
        go_wp2
        go_ret
        rw [E.out]
        exact ⟨rfl, rfl⟩
      · have E := hide (show shB (ns.drop (k + 1)) = shB ns by
          rw [← HS.out, ST.out, decide_eq_true (by rw [← SZ.out]; omega)]
          rfl)
        generalize bs ns[k] = b at cN hm2 hb
        go_wp2
        refine ⟨⟨k + 1, by omega, by go_num, E.out⟩, by simp [intOf]; omega⟩
    · obtain rfl : k = ns.length := by omega
      have E := hide (show shB ns = true by rw [← HS.out, List.drop_length]; rfl)
      go_wp2
      go_ret
      rw [E.out]
      exact ⟨rfl, rfl⟩
end Go.Proofs.YteibkipcblmikaaDoor
namespace Go.Proofs.YteibkipcblmikaaDoor
set_option maxRecDepth 100000
open Go.RowKit
set_option linter.unusedVariables false

theorem num_pos (n : Int) (h0 : 0 ≤ n) (h1 : n ≤ 4294967295) : 0 < (num n).length := by rw [num_in n h0 h1, form_length]; omega
set_option maxHeartbeats 4000000 in
set_option maxRecDepth 100000 in
theorem orefPut_any (n r d t : Int) (l : List UInt8) (w : World) (hl : l.length ≤ 1000) : Calls Tryd.prog 28 #[opv n r d t l] w (OwnRet w (opB n r d t l)) := by
  obtain ⟨i0, hi0, hz0, hz1, hz2⟩ := info_parts u8info
  have K0 := hide (fun w => orefRight_any n r d t l w hl)
  have HA := hide (Bo.new w n r d t l 48)
  have EB := hide (show opR n r d t l = false → opB n r d t l = [] from fun h => by unfold opB; rw [h]; rfl)
  have ET := hide (show opR n r d t l = true → opB n r d t l = num n ++ num r ++ num d ++ num t ++ txt l from fun h => by unfold opB; rw [if_pos h])
  have EP := hide (show opR n r d t l = true → 0 < (num n).length ∧ 0 < (num r).length ∧ 0 < (num d).length ∧ 0 < (num t).length ∧ 0 < (txt l).length from fun h => by
    obtain ⟨h1, h2, h3, h4⟩ := opR_t h
    have h1 := stR_t h1
    have h2 := ndB_t h2
    have h3 := toB_t h3
    refine ⟨num_pos n (by omega) (by omega), num_pos r (by omega) (by omega), num_pos d (by omega) (by omega), num_pos t (by omega) (by omega), ?_⟩
    rw [txt_in l (by omega), List.length_append, form_length]
    omega)
  unfold opv at K0
  unfold opv
  generalize opB n r d t l = R at EB ET
  generalize opR n r d t l = q at K0 EB ET EP
  go_enter Tryd.func28, Tryd.ntmps28
  go_wp2_with fail
  refine (K0.out _).mono ?_
  rintro e w1 ⟨rfl, hb⟩
  obtain ⟨a0, a1, a2, a3, a4⟩ := HA.out.below hb (by simp)
  have l1 : w.heap.size < w1.heap.size := World.block_lt_of_cell? w1 _ a0
  have B1 := hide ((Below.refl w.heap.size w).alloc (Nat.le_refl _) _ |>.trans (hb.mono (by simp)))
  clear hb K0 HA
  cases q with
  | false =>
    go_wp2
    go_ret
    rw [EB.out (by simp)]
    exact ⟨_, rfl, World.ownsRow_nil _ _ _ _, B1.out⟩
  | true =>
    have KN := hide (refnum_any n)
    have KR := hide (refnum_any r)
    have KD := hide (refnum_any d)
    have KT := hide (refnum_any t)
    have KL := hide (refText_any (bs l))
    rw [bs_data] at KL
    have RE := hide (ET.out (by simp))
    obtain ⟨p1, p2, p3, p4, p5⟩ := EP.out (by simp)
    have q1 := num_le n
    have q2 := num_le r
    have q3 := num_le d
    have q4 := num_le t
    have q5 := txt_le l
    clear EB ET EP
    generalize num n = N1 at KN RE p1 q1
    generalize num r = N2 at KR RE p2 q2
    generalize num d = N3 at KD RE p3 q3
    generalize num t = N4 at KT RE p4 q4
    generalize txt l = N5 at KL RE p5 q5
    have B0 := hide (Below.refl w1.heap.size w1)
    have s0 : w1.heap.size ≤ w1.heap.size := Nat.le_refl _
    go_wp2_with fail
    go_region_held3 (fun w' => w'.cell? ⟨w.heap.size, 0, none⟩ = some (.int .i64 n) ∧ w'.cell? ⟨w.heap.size, 1, none⟩ = some (.int .i64 r))
      (first | exact ⟨(BC.out.cell (p := ⟨w.heap.size, 0, none⟩) l1).trans a0, (BC.out.cell (p := ⟨w.heap.size, 1, none⟩) l1).trans a1⟩ | exact ⟨(BB.out.cell (p := ⟨w.heap.size, 0, none⟩) l1).trans a0, (BB.out.cell (p := ⟨w.heap.size, 1, none⟩) l1).trans a1⟩ | exact ⟨(BA.out.cell (p := ⟨w.heap.size, 0, none⟩) l1).trans a0, (BA.out.cell (p := ⟨w.heap.size, 1, none⟩) l1).trans a1⟩ | exact ⟨(B0.out.cell (p := ⟨w.heap.size, 0, none⟩) l1).trans a0, (B0.out.cell (p := ⟨w.heap.size, 1, none⟩) l1).trans a1⟩ | go_keep)
      (first
        | (go_at_call 26
           (with_reducible refine (KN.out _).mono ?_)
           rintro e wA ⟨vA, rfl, hoA, hbA⟩
           have hbA' : Below w1.heap.size w1 wA := ⟨hbA.os, hbA.tape, hbA.output, hbA.size, hbA.block⟩
           have hoA' : wA.ownsRow w1.heap.size 5 1 vA N1.length (bc N1) := hoA
           have BA := hide (B0.out.trans (hbA'.mono s0))
           have sA := BA.out.size
           obtain ⟨gA, capA, rfl, hgA, hcA⟩ := own_some hoA' p1
           have CA := hide hcA
           have OA := hide (own_base hoA' s0)
           clear hoA hbA hbA' hcA hgA hoA')
        | (go_at_call 26
           (with_reducible refine (KR.out _).mono ?_)
           rintro e wB ⟨vB, rfl, hoB, hbB⟩
           have hbB' : Below wA.heap.size wA wB := ⟨hbB.os, hbB.tape, hbB.output, hbB.size, hbB.block⟩
           have hoB' : wB.ownsRow wA.heap.size 5 1 vB N2.length (bc N2) := hoB
           have BB := hide (BA.out.trans (hbB'.mono sA))
           have sB := BB.out.size
           obtain ⟨gB, capB, rfl, hgB, hcB⟩ := own_some hoB' p2
           have CB := hide hcB
           have OB := hide (own_below OA.out hbB')
           clear hoB hbB hbB' hcB hgB hoB')
        | (refine step_append_lies _ (by rfl) _ _ _ (by rfl) w1.heap.size 5 i0 _ 1 1 Tryd.underlying25 hi0 hz0 hz1 hz2 rfl (by omega) (.slice (some ⟨gA, 0, none⟩) N1.length capA) (N1.length) (bc N1) (by rfl) OB.out ⟨gB, 0, none⟩ N2.length capB (bc N2) (by rfl) (by simp only [bc_length, Nat.mul_one]) CB.out (bc_one _) p2 (by simp only [maxLen]; omega) (by omega) sB wB.heap.size rfl ?_
           intro gC capC wC hownC hgrowC hatC hltC
           have BC := hide (BB.out.grown hgrowC sB (fun q hq => (OB.out.lt q hq).1))
           have sC : w1.heap.size ≤ wC.heap.size := BC.out.size
           have OC := hide hownC
           clear hownC hgrowC hatC hltC)
)
    clear BA BB OA OB CA CB sA sB
    go_wp2_with fail
    go_region_held3 (fun w' => w'.cell? ⟨w.heap.size, 2, none⟩ = some (.int .i64 d) ∧ w'.cell? ⟨w.heap.size, 3, none⟩ = some (.int .i64 t))
      (first | exact ⟨(BG.out.cell (p := ⟨w.heap.size, 2, none⟩) l1).trans a2, (BG.out.cell (p := ⟨w.heap.size, 3, none⟩) l1).trans a3⟩ | exact ⟨(BF.out.cell (p := ⟨w.heap.size, 2, none⟩) l1).trans a2, (BF.out.cell (p := ⟨w.heap.size, 3, none⟩) l1).trans a3⟩ | exact ⟨(BE.out.cell (p := ⟨w.heap.size, 2, none⟩) l1).trans a2, (BE.out.cell (p := ⟨w.heap.size, 3, none⟩) l1).trans a3⟩ | exact ⟨(BD.out.cell (p := ⟨w.heap.size, 2, none⟩) l1).trans a2, (BD.out.cell (p := ⟨w.heap.size, 3, none⟩) l1).trans a3⟩ | exact ⟨(BC.out.cell (p := ⟨w.heap.size, 2, none⟩) l1).trans a2, (BC.out.cell (p := ⟨w.heap.size, 3, none⟩) l1).trans a3⟩ | go_keep)
      (first
        | (go_at_call 26
           (with_reducible refine (KD.out _).mono ?_)
           rintro e wD ⟨vD, rfl, hoD, hbD⟩
           have hbD' : Below wC.heap.size wC wD := ⟨hbD.os, hbD.tape, hbD.output, hbD.size, hbD.block⟩
           have hoD' : wD.ownsRow wC.heap.size 5 1 vD N3.length (bc N3) := hoD
           have BD := hide (BC.out.trans (hbD'.mono sC))
           have sD := BD.out.size
           obtain ⟨gD, capD, rfl, hgD, hcD⟩ := own_some hoD' p3
           have CD := hide hcD
           have OD := hide (own_below OC.out hbD')
           clear hoD hbD hbD' hcD hgD hoD')
        | (refine step_append_lies _ (by rfl) _ _ _ (by rfl) w1.heap.size 5 i0 _ 1 1 Tryd.underlying25 hi0 hz0 hz1 hz2 rfl (by omega) (.slice (some ⟨gC, 0, none⟩) (N1.length + N2.length) capC) (N1.length + N2.length) (bc N1 ++ bc N2) (by rfl) OD.out ⟨gD, 0, none⟩ N3.length capD (bc N3) (by rfl) (by simp only [bc_length, Nat.mul_one]) CD.out (bc_one _) p3 (by simp only [maxLen]; omega) (by omega) sD wD.heap.size rfl ?_
           intro gE capE wE hownE hgrowE hatE hltE
           have BE := hide (BD.out.grown hgrowE sD (fun q hq => (OD.out.lt q hq).1))
           have sE : w1.heap.size ≤ wE.heap.size := BE.out.size
           have OE := hide hownE
           clear hownE hgrowE hatE hltE)
        | (go_at_call 26
           (with_reducible refine (KT.out _).mono ?_)
           rintro e wF ⟨vF, rfl, hoF, hbF⟩
           have hbF' : Below wE.heap.size wE wF := ⟨hbF.os, hbF.tape, hbF.output, hbF.size, hbF.block⟩
           have hoF' : wF.ownsRow wE.heap.size 5 1 vF N4.length (bc N4) := hoF
           have BF := hide (BE.out.trans (hbF'.mono sE))
           have sF := BF.out.size
           obtain ⟨gF, capF, rfl, hgF, hcF⟩ := own_some hoF' p4
           have CF := hide hcF
           have OF := hide (own_below OE.out hbF')
           clear hoF hbF hbF' hcF hgF hoF')
        | (refine step_append_lies _ (by rfl) _ _ _ (by rfl) w1.heap.size 5 i0 _ 1 1 Tryd.underlying25 hi0 hz0 hz1 hz2 rfl (by omega) (.slice (some ⟨gE, 0, none⟩) (N1.length + N2.length + N3.length) capE) (N1.length + N2.length + N3.length) (bc N1 ++ bc N2 ++ bc N3) (by rfl) OF.out ⟨gF, 0, none⟩ N4.length capF (bc N4) (by rfl) (by simp only [bc_length, Nat.mul_one]) CF.out (bc_one _) p4 (by simp only [maxLen]; omega) (by omega) sF wF.heap.size rfl ?_
           intro gG capG wG hownG hgrowG hatG hltG
           have BG := hide (BF.out.grown hgrowG sF (fun q hq => (OF.out.lt q hq).1))
           have sG : w1.heap.size ≤ wG.heap.size := BG.out.size
           have OG := hide hownG
           clear hownG hgrowG hatG hltG)
)
    clear BC BD BE BF OC OD OE OF CD CF sC sD sE sF
    have c4 := (BG.out.cell (p := ⟨w.heap.size, 4, none⟩) l1).trans a4
    go_wp2_with fail
    refine (KL.out _).mono ?_
    rintro e wH ⟨vH, rfl, hoH, hbH⟩
    have BH := hide (BG.out.trans (hbH.mono sG))
    have sH := BH.out.size
    have OH := hide (own_below OG.out hbH)
    have NH := hide (Hnd.of_RSl (RSl.of_own hoH))
    obtain ⟨fH, cH, rfl, hA, _, _⟩ := (RSl.of_own hoH).form
    have FA := hide hA
    clear hbH hoH hA
    rw [← bc_append, ← bc_append, ← bc_append] at OH
    go_wp2_with (at_builtin; refine wpList_append_b _ rfl _ _ rfl w1.heap.size _ (N1.length + N2.length + N3.length + N4.length) (N1 ++ N2 ++ N3 ++ N4) rfl OH.out fH N5.length cH N5 rfl rfl FA.out NH.out (by omega) sH ?_)
    intro vI wI hoI hgI _
    have BI := hide (BH.out.grown hgI sH (fun q hq => (OH.out.lt q hq).1))
    have OI := hide (own_base hoI (Nat.le_of_lt l1))
    clear hoI hgI
    go_wp2
    go_ret
    rw [RE.out]
    refine ⟨_, rfl, ?_, B1.out.trans (BI.out.mono (Nat.le_of_lt l1))⟩
    have hn : (N1 ++ N2 ++ N3 ++ N4 ++ N5).length = N1.length + N2.length + N3.length + N4.length + N5.length := by simp only [List.length_append]
    rw [hn, show N1 ++ N2 ++ N3 ++ N4 ++ N5 = N1 ++ (N2 ++ (N3 ++ (N4 ++ N5))) by simp only [List.append_assoc]]
    exact OI.out
end Go.Proofs.YteibkipcblmikaaDoor
namespace Go.Proofs.YteibkipcblmikaaDoor
set_option maxRecDepth 100000
open Go.RowKit
set_option linter.unusedVariables false

theorem same_rows (v1 v2 : Value) (R : List UInt8) (W : World) (h1 : RSl W v1 R) (h2 : RSl W v2 R) : Calls Tryd.prog 13 #[v1, v2] W (fun e w' => e = .returned (.bool true) ∧ W = w') :=
  same_yes v1 v2 (bs R) W (conv_any W v1 R h1) (conv_any W v2 R h2)
theorem shB_all {ns : List (List UInt8)} (h : shB ns = true) : ∀ x ∈ ns, x.length ≤ 60 := by
  intro x hx
  unfold shB at h
  have := List.all_eq_true.1 h x hx
  simpa using this
end Go.Proofs.YteibkipcblmikaaDoor
namespace Go.Proofs.YteibkipcblmikaaDoor
set_option maxRecDepth 100000
open Go.RowKit
set_option linter.unusedVariables false

theorem rNum_put (n most : Int) (h0 : 0 ≤ n) (h1 : n ≤ most) (h2 : n ≤ 4294967295) (t : List UInt8) : rNum most (num n ++ t) 0 = (n.toNat, t, 0) := by
  have e := scan_form n.toNat (by omega) t
  rw [num_in n h0 h2]
  unfold rNum
  rw [e]
  simp
  omega
theorem rTxt_put (s : List UInt8) (h : s.length ≤ 20) (t : List UInt8) : rTxt 20 (txt s ++ t) 0 = (s, t, 0) := by
  have e := rNum_put s.length 20 (by omega) (by omega) (by omega) (s ++ t)
  rw [num_in _ (by omega) (by omega)] at e
  simp only [Int.toNat_natCast] at e
  rw [txt_in s (by omega), List.append_assoc]
  unfold rTxt
  rw [e]
  simp
theorem rNum_ok {most : Int} {l : List UInt8} {e : Nat} (h : (rNum most l e).2.2 = 0) : e = 0 ∧ l = num (rNum most l e).1 ++ (rNum most l e).2.1 := by
  unfold rNum at h ⊢
  split at h
  · contradiction
  · rename_i h0
    have h0 : e = 0 := by simpa using h0
    split at h
    · contradiction
    · rename_i h1
      have h1 : (scan l).2.2 = 0 := by simpa using h1
      split at h
      · cases h
      · rename_i h2
        refine ⟨h0, ?_⟩
        obtain ⟨f, _, _, _⟩ := scan_is_form l h1
        rw [if_neg (by simpa using h0), if_neg (by simpa using h1), if_neg h2]
        simp only
        rw [num_in _ (by omega) (by omega)]
        simp only [Int.toNat_natCast]
        rw [f, List.take_append_drop]
theorem rTxt_ok {l : List UInt8} {e : Nat} (h : (rTxt 20 l e).1 ≠ []) : e = 0 ∧ (rTxt 20 l e).2.2 = 0 ∧ l = txt (rTxt 20 l e).1 ++ (rTxt 20 l e).2.1 := by
  have hm := rNum_most 20 l e (by omega)
  have hk := @rNum_ok 20 l e
  unfold rTxt at h ⊢
  generalize rNum 20 l e = p at h hm hk ⊢
  obtain ⟨n, l1, e1⟩ := p
  simp only at h hm hk ⊢
  split at h
  · exact absurd rfl h
  · rename_i h0
    have h0 : e1 = 0 := by simpa using h0
    split at h
    · exact absurd rfl h
    · rename_i h2
      rw [if_neg (by simpa using h0), if_neg h2]
      obtain ⟨he, hl⟩ := hk h0
      refine ⟨he, rfl, ?_⟩
      simp only
      have hlen : (l1.take n).length = n := by rw [List.length_take]; omega
      rw [txt_in _ (by omega), hlen, List.append_assoc, List.take_append_drop]
      rw [num_in _ (by omega) (by omega)] at hl
      simpa using hl
theorem right_ne {l : List UInt8} (h : right l = true) : l ≠ [] ∧ l.length ≤ 20 := by
  refine ⟨?_, ?_⟩
  · rintro rfl
    rw [right_short [] (by simp)] at h
    cases h
  · by_cases h2 : 20 < l.length
    · rw [right_short l (.inr h2)] at h
      cases h
    · omega
/-- What is taken, put again, is the same bytes. -/
theorem take_put {l : List UInt8} {e : Nat} (h : tkR l e = true) : e = 0 ∧ (tk5 l e).2.2 = 0 ∧ l = opB (tk1 l e).1 (tk2 l e).1 (tk3 l e).1 (tk4 l e).1 (tk5 l e).1 ++ (tk5 l e).2.1 := by
  have hb : opB (tk1 l e).1 (tk2 l e).1 (tk3 l e).1 (tk4 l e).1 (tk5 l e).1 = num (tk1 l e).1 ++ num (tk2 l e).1 ++ num (tk3 l e).1 ++ num (tk4 l e).1 ++ txt (tk5 l e).1 := if_pos h
  obtain ⟨_, _, _, hr⟩ := opR_t h
  obtain ⟨x4, x5, y5⟩ := rTxt_ok (l := (tk4 l e).2.1) (e := (tk4 l e).2.2) (right_ne hr).1
  obtain ⟨x3, y4⟩ := rNum_ok (most := 4294967295) (l := (tk3 l e).2.1) (e := (tk3 l e).2.2) x4
  obtain ⟨x2, y3⟩ := rNum_ok (most := 4294967295) (l := (tk2 l e).2.1) (e := (tk2 l e).2.2) x3
  obtain ⟨x1, y2⟩ := rNum_ok (most := 255) (l := (tk1 l e).2.1) (e := (tk1 l e).2.2) x2
  obtain ⟨x0, y1⟩ := rNum_ok (most := 16777215) (l := l) (e := e) x1
  refine ⟨x0, x5, ?_⟩
  rw [hb]
  change (tk4 l e).2.1 = txt (tk5 l e).1 ++ (tk5 l e).2.1 at y5
  change (tk3 l e).2.1 = num (tk4 l e).1 ++ (tk4 l e).2.1 at y4
  change (tk2 l e).2.1 = num (tk3 l e).1 ++ (tk3 l e).2.1 at y3
  change (tk1 l e).2.1 = num (tk2 l e).1 ++ (tk2 l e).2.1 at y2
  change l = num (tk1 l e).1 ++ (tk1 l e).2.1 at y1
  rw [List.append_assoc, List.append_assoc, List.append_assoc, List.append_assoc, ← y5, ← y4, ← y3, ← y2]
  exact y1
/-- What is put is taken. -/
theorem put_take {n r d t : Int} {s : List UInt8} (h : opR n r d t s = true) (more : List UInt8) :
    tkR (opB n r d t s ++ more) 0 = true ∧ tkV (opB n r d t s ++ more) 0 = opv n r d t s ∧ (tk5 (opB n r d t s ++ more) 0).2 = (more, 0) := by
  obtain ⟨h1, h2, h3, h4⟩ := opR_t h
  have h1 := stR_t h1
  have h2 := ndB_t h2
  have h3 := toB_t h3
  obtain ⟨_, h5⟩ := right_ne h4
  have e0 : opB n r d t s ++ more = num n ++ (num r ++ (num d ++ (num t ++ (txt s ++ more)))) := by
    unfold opB
    rw [if_pos h]
    simp only [List.append_assoc]
  generalize opB n r d t s ++ more = l at e0
  have e1 : tk1 l 0 = (n.toNat, num r ++ (num d ++ (num t ++ (txt s ++ more))), 0) := by unfold tk1; rw [e0]; exact rNum_put n _ (by omega) (by omega) (by omega) _
  have e2 : tk2 l 0 = (r.toNat, num d ++ (num t ++ (txt s ++ more)), 0) := by unfold tk2; rw [e1]; exact rNum_put r _ (by omega) (by omega) (by omega) _
  have e3 : tk3 l 0 = (d.toNat, num t ++ (txt s ++ more), 0) := by unfold tk3; rw [e2]; exact rNum_put d _ (by omega) (by omega) (by omega) _
  have e4 : tk4 l 0 = (t.toNat, txt s ++ more, 0) := by unfold tk4; rw [e3]; exact rNum_put t _ (by omega) (by omega) (by omega) _
  have e5 : tk5 l 0 = (s, more, 0) := by unfold tk5; rw [e4]; exact rTxt_put s h5 _
  have hn : ((n.toNat : Nat) : Int) = n := by omega
  have hr : ((r.toNat : Nat) : Int) = r := by omega
  have hd : ((d.toNat : Nat) : Int) = d := by omega
  have ht : ((t.toNat : Nat) : Int) = t := by omega
  have hR : tkR l 0 = true := by
    unfold tkR
    rw [e1, e2, e3, e4, e5]
    simp only [hn, hr, hd, ht]
    exact h
  refine ⟨hR, ?_, by rw [e5]⟩
  unfold tkV
  rw [if_pos hR, e1, e2, e3, e4, e5]
  simp only [hn, hr, hd, ht]
theorem rNum_less (most : Int) (l : List UInt8) (e : Nat) : (rNum most l e).2.1.length ≤ l.length := by
  unfold rNum
  split
  · exact Nat.le_refl _
  · split
    · simp
    · split <;> simp
theorem rTxt_less (most : Int) (l : List UInt8) (e : Nat) : (rTxt most l e).2.1.length ≤ l.length := by
  have h := rNum_less most l e
  unfold rTxt
  split
  · exact h
  · split
    · simp
    · simp; omega
theorem tk_less (l : List UInt8) (e : Nat) : (tk5 l e).2.1.length ≤ l.length := by
  have h1 : (tk1 l e).2.1.length ≤ l.length := rNum_less _ _ _
  have h2 : (tk2 l e).2.1.length ≤ (tk1 l e).2.1.length := rNum_less _ _ _
  have h3 : (tk3 l e).2.1.length ≤ (tk2 l e).2.1.length := rNum_less _ _ _
  have h4 : (tk4 l e).2.1.length ≤ (tk3 l e).2.1.length := rNum_less _ _ _
  have h5 : (tk5 l e).2.1.length ≤ (tk4 l e).2.1.length := rTxt_less _ _ _
  omega
/-- What was taken, in both cases. -/
theorem taken (l : List UInt8) : ∃ (n r d t : Int) (s : List UInt8), tkV l 0 = opv n r d t s ∧ s.length ≤ maxLen ∧ (tk5 l 0).2.1.length ≤ l.length ∧ (tkR l 0 = true → opB n r d t s = l.take (l.length - (tk5 l 0).2.1.length)) := by
  have hl := tk_less l 0
  by_cases h : tkR l 0 = true
  · refine ⟨(tk1 l 0).1, (tk2 l 0).1, (tk3 l 0).1, (tk4 l 0).1, (tk5 l 0).1, if_pos h, ?_, hl, fun _ => ?_⟩
    · exact Nat.le_trans (rTxt_20 (tk4 l 0).2.1 (tk4 l 0).2.2) (by decide)
    · obtain ⟨_, _, e⟩ := take_put h
      generalize opB (tk1 l 0).1 (tk2 l 0).1 (tk3 l 0).1 (tk4 l 0).1 (tk5 l 0).1 = R at e ⊢
      generalize (tk5 l 0).2.1 = rest at e hl ⊢
      rw [e, List.length_append, Nat.add_sub_cancel, List.take_left]
  · exact ⟨0, 0, 0, 0, [], if_neg h, Nat.zero_le _, hl, fun h2 => absurd h2 h⟩
end Go.Proofs.YteibkipcblmikaaDoor
namespace Go.Proofs.YteibkipcblmikaaDoor
set_option maxRecDepth 100000
open Go.RowKit
set_option linter.unusedVariables false

theorem Bo.grown {w w' : World} {g h : Nat} {n r d t : Int} {l : List UInt8} (hb : Bo w g n r d t l) (gr : w.grownBy w' (some h)) (hne : g ≠ h) : Bo w' g n r d t l := by
  have ok : ∀ j, w'.cell? ⟨g, j, none⟩ = w.cell? ⟨g, j, none⟩ := fun j => World.cell?_of_block (gr.block g hb.lt (by intro e; injection e with e; exact hne e))
  exact ⟨(ok 0).trans hb.1, (ok 1).trans hb.2.1, (ok 2).trans hb.2.2.1, (ok 3).trans hb.2.2.2.1, (ok 4).trans hb.2.2.2.2⟩
theorem same_hnd (v1 v2 : Value) (R : List UInt8) (W : World) (h1 : Hnd W v1 R) (h2 : Hnd W v2 R) : Calls Tryd.prog 13 #[v1, v2] W (fun e w' => e = .returned (.bool true) ∧ W = w') :=
  same_yes v1 v2 (bs R) W (conv_hnd h1) (conv_hnd h2)
end Go.Proofs.YteibkipcblmikaaDoor
