/-
  The log's spots: a map of where the nodes of some operations are. Conditions: the log is one, in memory; the operations can be read, and are right.
  The log's changes: of nodes that were somewhere, those that are elsewhere now, rising. Conditions: the log is one, in memory; not more than a hundred thousand nodes.
  The log's insert: new operations are put where they belong; those behind are undone and done again. Conditions: the log is one, in memory, and not more than eight hundred operations come together; the new ones are right, in order, and not there yet.
  A region that draws its order and only reads, in a round of a loop over an iterator: one walk of the text's order serves. Conditions: no operation of it defers.
  The log's Put. Conditions: the log is one, in memory, and not more than eight hundred operations come together; what is put can be read; the library's tables are as the program's text lays them.
  What all statements of layer 8 begin with: awake is true. And what a batch that is right does. Conditions: the tables of package utf8 are laid (Env).
  What a batch of right ones does, as the statements of layer 8 need it. Conditions: as Put's.
-/
import Derived.Test.YtimfeocaghccdaaGreatDoorLM2
import Derived.Test.YtimfeocaghccdaaGreatDoorVMap
import Derived.Shelf.SlIterI.Nil
import Derived.Shelf.SortM.Plain
import Derived.Shelf.SortM.SortNone
import Derived.Test.YtimfeocaghccdaaGreatDoorBase0
import Derived.Sort.QuietTacIn
import Derived.TacticsInMore
import Derived.RangeFuncCalls
namespace Go.Proofs.YtimfeocaghccdaaGreatDoor
open Go.RowKit Go.Maps
set_option linter.unusedVariables false
set_option linter.unusedSimpArgs false
set_option maxRecDepth 100000

/-- A map of where some nodes are in a tree. -/
def Was (w : World) (b : Nat) (T : List Kd) (ns : List Int) : Prop := ∃ m, MpV w b m ∧ OkV m ∧ m.length ≤ ns.length ∧ (∀ x, x ∈ m.map (·.1) ↔ x ∈ ns) ∧ ∀ x ∈ ns, fndV m x = some (spv (fnd T x))
theorem Was.kept {w w' : World} {b : Nat} {T : List Kd} {ns : List Int} (h : Was w b T ns) (hk : w'.heap[b]? = w.heap[b]?) : Was w' b T ns := by
  obtain ⟨m, h1, h2⟩ := h
  exact ⟨m, h1.kept hk, h2⟩
theorem Was.lt {w : World} {b : Nat} {T : List Kd} {ns : List Int} (h : Was w b T ns) : b < w.heap.size := by
  obtain ⟨m, h1, h2⟩ := h
  exact h1.lt
theorem Was.below {w w' : World} {b : Nat} {T : List Kd} {ns : List Int} (h : Was w b T ns) (hb : Below w.heap.size w w') : Was w' b T ns := h.kept (hb.block b h.lt)
theorem R_node {o : O5} (h : o.R = true) : i64B o.d := by
  unfold O5.R opR at h
  simp only [Bool.and_eq_true] at h
  have := h.1.1.2
  unfold ndB at this
  simp at this
  unfold i64B
  omega
/-- A node's spot is put in. -/
theorem was_put {w : World} {b : Nat} {T : List Kd} {ns : List Int} (h : Was w b T ns) (hn : ns.length < 1000000) (n : Int) (h64 : i64B n) :
    ∃ w', (Instr.mapUpdate 89 (.map (some b)) (.int .i64 n) (spv (fnd T n))).run Tryz.prog w = .ok () w' ∧ Was w' b T (ns ++ [n]) ∧ w.grownBy w' (some b) := by
  obtain ⟨m, h1, h2, h3, h4, h5⟩ := h
  obtain ⟨w', hrun, r1, r2⟩ := World.ownsMap.store h1 law Tryz.underlying89 (by unfold maxLen; omega) (keyI h64) (show anyE (spv (fnd T n)) = some (.held (spv (fnd T n)), []) from rfl)
  rw [dOfV_put h2 h64] at r1
  refine ⟨w', hrun, ⟨putV m n (spv (fnd T n)), MpV.of r1, h2.putV h64 _, ?_, ?_, ?_⟩, r2.grown⟩
  · unfold putV
    rw [List.length_append, List.length_append]
    have := List.length_filter_le (fun k : Int × Value => k.1 != n) m
    simp only [List.length_cons, List.length_nil]
    omega
  · intro x
    rw [keysV_put, h4, List.mem_append]
    simp
  · intro x hx
    rw [fndV_put]
    by_cases e : x = n
    · subst e
      rw [if_pos rfl]
    · rw [if_neg e]
      rcases List.mem_append.1 hx with hx | hx
      · exact h5 x hx
      · simp at hx
        exact absurd hx e
def SpRel (w : World) (T : List Kd) (os : List O5) (i : Value) (wr : World) : Prop :=
  ∃ k : Nat, k ≤ os.length ∧ i = .int .i64 (k : Int) ∧ Was wr w.heap.size T ((os.take k).map (·.d)) ∧ Below w.heap.size w wr
def SpotsRet (w : World) (T : List Kd) (os : List O5) (e : Ending) (w' : World) : Prop := e = .returned (.map (some w.heap.size)) ∧ Was w' w.heap.size T (os.map (·.d)) ∧ Below w.heap.size w w'
set_option maxHeartbeats 1000000 in
theorem spots_any (g gt most : Nat) (v : Value) (L : List O5) (T : List Kd) (r : List (List Kd)) (ft : List Nat) (A : Option Addr) (c : Nat) (os : List O5) (hn : os.length ≤ 100000) (hr : AllR os) (w : World) (hM : Lm w g gt most v L) (hT : Tr w gt T r ft) (h : Ops w A c os) :
    Calls Tryz.prog 59 #[.pointer (some ⟨g, 0, none⟩), .slice A os.length c] w (SpotsRet w T os) := by
  have hmm := @run_makeMap Tryz.prog
  have HM := hide hM
  have HT := hide hT
  have HO := hide h
  have HR := hide hr
  have S0 := hide (show SpRel w T os (.int .i64 0) (w.alloc (.map #[] 0)) from ⟨0, Nat.zero_le _, rfl, ⟨[], MpV.new w, OkV.nil, Nat.le_refl _, by simp, by simp⟩, (Below.refl _ w).alloc (Nat.le_refl _) _⟩)
  clear hM hT h hr
  go_enter Tryz.func59, Tryz.ntmps59
  go_wp2_with fail
  go_loopw [11] (SpRel w T os) (fun i _ => os.length - (intOf i).toNat)
  case atStart => exact S0.out
  case round =>
    clear S0
    obtain ⟨k, hk, rfl, hW, hB⟩ := hrel
    have HW := hide hW
    have HB := hide hB
    by_cases hlt : k < os.length
    · have i1 : (k : Int) < (os.length : Int) := by omega
      have i0 : (0 : Int) ≤ (k : Int) := by omega
      obtain ⟨b, o, rfl, hat⟩ := (HO.out.below hB).lit (by omega)
      obtain ⟨c0, c1, c2, c3, c4⟩ := hat.five k hlt
      have HX := hide (R_node (HR.out _ (List.getElem_mem hlt)))
      have HE := hide (show (os.take (k + 1)).map (·.d) = (os.take k).map (·.d) ++ [os[k].d] by rw [List.take_succ_eq_append_getElem hlt, List.map_append]; rfl)
      generalize os[k] = x at c0 c1 c2 c3 c4 HX HE
      have Bz := (Below.refl wr.heap.size wr).alloc (Nat.le_refl _) (.cells #[.int .i64 x.n, .int .i64 x.r, .int .i64 x.d, .int .i64 x.t, .string (bs x.l)] 50)
      have HBz := hide (hB.trans (Bz.mono hB.size))
      have HWz := hide (hW.below Bz)
      have HBo := Bo.new wr x.n x.r x.d x.t x.l 50
      have hkl : ((os.take k).map (·.d)).length < 1000000 := by rw [List.length_map, List.length_take]; omega
      clear hat hW hB
      go_upto_region 5 with (fail)
      generalize wr.alloc (.cells #[.int .i64 x.n, .int .i64 x.r, .int .i64 x.d, .int .i64 x.t, .string (bs x.l)] 50) = wa at Bz HBz HWz HBo ⊢
      have f2 := HBo.2.2.1
      have l2 := (HM.out.below HBz.out).cell2
      have KS := hide (tspot_any gt T r ft x.d HX.out wa.drew (HT.out.below (HBz.out.trans ((Below.refl _ wa).drew.mono HBz.out.size))))
      have hS0 := And.intro f2 l2
      have szz := Bz.size
      clear Bz HBo c0 c1 c2 c3 c4
      go_wp2_with fail
      go_region_held3 (fun w' => w'.cell? ⟨wr.heap.size, 2, none⟩ = some (.int .i64 x.d) ∧ w'.cell? ⟨g, 2, none⟩ = some (.pointer (some ⟨gt, 0, none⟩)))
        (first | with_reducible exact hS2 | with_reducible exact hS1 | with_reducible exact hS0 | go_keep)
        (first
          | (go_at_call 84
             (with_reducible refine KS.out.mono ?_)
             rintro e w1 ⟨rfl, hb1⟩
             have hb1' : Below wa.heap.size wa w1 := ⟨hb1.os, hb1.tape, hb1.output, hb1.size, hb1.block⟩
             have hS1 := And.intro (cellk hb1' f2) (cellk hb1' l2)
             have B1 := HBz.out.trans (hb1'.mono HBz.out.size)
             obtain ⟨w2, hrun, hW2, hg2⟩ := was_put (HWz.out.below hb1') hkl x.d HX.out
             have HW2 := hide hW2
             have B2 := hide (B1.grown hg2 B1.size (fun k hk => by cases hk; exact Nat.le_refl _))
             have lw := HW.out.lt
             have lg := HM.out.lt
             have lr1 : wr.heap.size < w1.heap.size := World.block_lt_of_cell? w1 _ hS1.1
             have lg1 : g < w1.heap.size := World.block_lt_of_cell? w1 _ hS1.2
             have hS2 := And.intro ((hg2.cell_far ⟨wr.heap.size, 2, none⟩ lr1 (fun e => by injection e with e; simp at e; omega)).trans hS1.1) ((hg2.cell_far ⟨g, 2, none⟩ lg1 (fun e => by injection e with e; simp at e; omega)).trans hS1.2)
             unfold spv at hrun ⊢
             clear hb1 hb1' hW2 hg2 B1))
      rw [← HE.out] at HW2
      clear hS2 hS1 hS0 hrun f2 l2 KS
      go_wp2_with fail
      go_roundw
      case rel => exact ⟨k + 1, by omega, by go_num, HW2.out, B2.out⟩
      case measure => simp [intOf]; omega
    · obtain rfl : k = os.length := by omega
      have HF := hide hW
      rw [List.take_length] at HF
      go_wp2
      go_ret
      exact ⟨rfl, HF.out, HB.out⟩
end Go.Proofs.YtimfeocaghccdaaGreatDoor
namespace Go.Proofs.YtimfeocaghccdaaGreatDoor
open Go.RowKit Go.Maps Go.Sort Go.Shelf
set_option linter.unusedVariables false
set_option linter.unusedSimpArgs false
set_option maxRecDepth 100000

theorem sorts_in (m : Nat) : AnyZI.SortsIn Tryz.prog Tryz.sortedA_ren Fence.wide m :=
  ⟨fun blk off cap ss W hH hblk hsz => callsIn_wide.2 (AnyM.slices_Sort_int Tryz.sortA blk off cap ss W hH hblk hsz),
   fun p cap W => callsIn_wide.2 (AnyM.slices_Sort_int_none Tryz.sortA p cap W)⟩
/-- Ints in a row of the program's own. -/
def OwnInts (w : World) (base : Nat) (v : Value) (is : List Int) : Prop := w.ownsRow base 3 1 v is.length (is.map fun x => Value.int .i64 x)
theorem keys_any (b : Nat) (w : World) : Calls Tryz.prog 86 #[.map (some b)] w (fun e w' => e = .returned (.func (.func 112) #[] #[.pointer (some ⟨w.heap.size, 0, none⟩)]) ∧ w' = w.alloc (.cells #[.map (some b)] 89)) :=
  (callsIn_wide (n := 5)).1 (AnyZI.keys_in Tryz.keysA Fence.wide 5 trivial rfl (some b) w)
def SKeysRet (w : World) (ns : List Int) (e : Ending) (w' : World) : Prop := ∃ v, e = .returned v ∧ OwnInts w' w.heap.size v (ups ns) ∧ Below w.heap.size w w'
theorem skeys_any (b : Nat) (T : List Kd) (ns : List Int) (hn : ns.length ≤ 100000) (w : World) (h : Was w b T ns) :
    Calls Tryz.prog 85 #[.func (.func 112) #[] #[.pointer (some ⟨w.heap.size, 0, none⟩)]] (w.alloc (.cells #[.map (some b)] 89)) (SKeysRet w ns) := by
  obtain ⟨m, h1, h2, h3, h4, h5⟩ := h
  have hown : w.ownsMap Tryz.prog 3 anyE b m.length (dOfV m) := h1
  have hbl := hown.lt
  have hsz := size_dOfV m
  have hseq : SeqGives Fence.wide 2 Tryz.prog 112 #[.pointer (some ⟨w.heap.size, 0, none⟩)] encZ (fun ss => ss.Perm (intKeys (dOfV m))) (Maps.size (dOfV m)) (w.alloc (.cells #[.map (some b)] 89)) :=
    AnyZI.keys_gives (ρ := Tryz.keysA_ren) { Tryz.keysA with } Fence.wide _ trivial rfl (by omega) w.heap.size b m.length (dOfV m) _ (by simp) (by simp) (by
      obtain ⟨es, clock, hb, Ft, hs, hD⟩ := hown
      exact ⟨es, clock, (Below.heap_alloc _ _ b hbl).trans hb, Ft, hs, hD⟩)
  have cS := AnyZI.sorted_in Tryz.sortedA Fence.wide 5 trivial trivial trivial trivial rfl (by omega) (sorts_in _) (enters_of Tryz.func111 (by kernel_rfl) rfl) 112 #[.pointer (some ⟨w.heap.size, 0, none⟩)] trivial (enters_of Tryz.func112 (by kernel_rfl) rfl) _ _ (by rw [hsz]; unfold maxLen; omega) (by rw [hsz]; omega) _ hseq
  change CallsIn _ _ Tryz.prog 85 _ _ _ at cS
  refine ((callsIn_wide (n := 5)).1 cS).mono ?_
  rintro e w' ⟨v, ss, rfl, hp, hrow, _, hb⟩
  have hperm := hp.trans (intKeys_dOfV m)
  have hnd : ss.Nodup := hperm.nodup_iff.2 h2.one
  have hms := List.mergeSort_perm ss (fun x y => decide (x ≤ y))
  have hsorted : (ss.mergeSort (fun x y => decide (x ≤ y))).Pairwise fun x y => x ≤ y := by
    have := List.pairwise_mergeSort (le := fun x y : Int => decide (x ≤ y)) (fun a b c h1 h2 => by simp at *; omega) (fun a b => by simp; omega) ss
    exact this.imp (by intro a b h; simpa using h)
  have hnd' : (ss.mergeSort (fun x y => decide (x ≤ y))).Nodup := hms.nodup_iff.2 hnd
  have hsrt : SrtF cm (ss.mergeSort (fun x y => decide (x ≤ y))) := by
    refine (hsorted.and hnd').imp ?_
    intro a b hab
    exact cm_lt.2 (by omega)
  have e : ss.mergeSort (fun x y => decide (x ≤ y)) = ups ns := (putF_eq cm_order List.Pairwise.nil hsrt fun x => by
    rw [hms.mem_iff, hperm.mem_iff, h4]
    simp).symm
  refine ⟨v, rfl, ?_, ((Below.refl _ w).alloc (Nat.le_refl _) _).trans (hb.mono (by simp))⟩
  have hr := ownsRow_base_a hrow (show w.heap.size ≤ _ by simp)
  unfold OwnInts
  rw [← e, hms.length_eq]
  exact hr
/-! ### changes -/
abbrev Ch := Int × Option Kd × Option Kd
def chc (x : Ch) : List Value := [.int .i64 x.1, .bool (spI x.2.1), .int .i64 (spT x.2.1), .string (bs (spN x.2.1)), .bool (spI x.2.2), .int .i64 (spT x.2.2), .string (bs (spN x.2.2))]
def chcs (l : List Ch) : List Value := (l.map chc).flatten
theorem chcs_length : ∀ (l : List Ch), (chcs l).length = l.length * 7
  | [] => rfl
  | x :: l => by
    have := chcs_length l
    simp only [chcs, List.map_cons, List.flatten_cons, List.length_append, List.length_cons] at this ⊢
    rw [this]
    simp [chc]
    omega
theorem chcs_append (a b : List Ch) : chcs (a ++ b) = chcs a ++ chcs b := by simp [chcs]
theorem chcs_one (l : List Ch) : ∀ u ∈ chcs l, u.oneCell' = true := by
  intro u hu
  simp only [chcs, List.mem_flatten, List.mem_map] at hu
  obtain ⟨x, ⟨o, _, rfl⟩, hu⟩ := hu
  simp only [chc, List.mem_cons, List.not_mem_nil, or_false] at hu
  rcases hu with rfl | rfl | rfl | rfl | rfl | rfl | rfl <;> rfl
theorem chinfo : (Tryz.prog.info? 76).map (fun i => (i.zero, i.size, i.bytes)) = some (some (.agg #[.int .i64 0, .bool false, .int .i64 0, .string ⟨#[]⟩, .bool false, .int .i64 0, .string ⟨#[]⟩]), 7, 72) := by kernel_rfl
/-- A row of changes of the program's own. -/
def OwnChs (w : World) (base : Nat) (v : Value) (l : List Ch) : Prop := w.ownsRow base 76 7 v l.length (chcs l)
theorem OwnChs.nil (w : World) (base : Nat) : OwnChs w base (.slice none 0 0) [] := World.ownsRow_nil w base _ _
theorem OwnChs.kept {w w' : World} {base : Nat} {v : Value} {l : List Ch} (h : OwnChs w base v l) (hk : ∀ b, v.ownBlock = some b → w'.heap[b]? = w.heap[b]?) : OwnChs w' base v l := by
  refine ⟨h.1, ?_⟩
  rcases h.2 with h0 | ⟨g, cap, cur, rfl, h2, h3, h4⟩
  · exact .inl h0
  · exact .inr ⟨g, cap, cur, rfl, h2, (hk g rfl).trans h3, h4⟩
theorem OwnChs.lt {w : World} {base : Nat} {v : Value} {l : List Ch} (h : OwnChs w base v l) {b : Nat} (hb : v.ownBlock = some b) : base ≤ b ∧ b < w.heap.size := by
  rcases h.2 with ⟨rfl, _⟩ | ⟨g, cap, cur, rfl, h2, h3, h4⟩
  · simp [Value.ownBlock] at hb
  · simp [Value.ownBlock] at hb
    subst hb
    exact ⟨h2, (Array.getElem?_eq_some_iff.1 h3).1⟩
theorem OwnChs.below {w w' : World} {base : Nat} {v : Value} {l : List Ch} (h : OwnChs w base v l) (hb : Below w.heap.size w w') : OwnChs w' base v l := h.kept fun b hb' => hb.block b (h.lt hb').2
theorem OwnChs.form {w : World} {base : Nat} {v : Value} {l : List Ch} (h : OwnChs w base v l) : ∃ A c, v = .slice A l.length c := by
  rcases h.2 with ⟨rfl, h0⟩ | ⟨g, cap, cur, rfl, _⟩
  · exact ⟨none, 0, by rw [h0]⟩
  · exact ⟨_, _, rfl⟩
theorem ch_new (w : World) (x : Ch) : ∀ j u, (chcs [x])[j]? = some u → (w.alloc (.cells #[.int .i64 x.1, .bool (spI x.2.1), .int .i64 (spT x.2.1), .string (bs (spN x.2.1)), .bool (spI x.2.2), .int .i64 (spT x.2.2), .string (bs (spN x.2.2))] 76)).cell? ((⟨w.heap.size, 0, none⟩ : Addr).add j) = some u := by
  intro j u hu
  rw [Addr.add_lit, Nat.zero_add, cell_of_row _ w.heap.size j _ _ (0, 0) (heap_alloc_new w _)]
  have e : chcs [x] = (#[.int .i64 x.1, .bool (spI x.2.1), .int .i64 (spT x.2.1), .string (bs (spN x.2.1)), .bool (spI x.2.2), .int .i64 (spT x.2.2), .string (bs (spN x.2.2))] : Array Value).toList := by simp [chcs, chc]
  rw [e] at hu
  simpa using hu
theorem wpList_append_ch (w : World) {ops : Array Oper} {rest : List Oper} {o : Oper} {a : Act} {Q : Exit → Act → World → Prop} (hgd : o.guard = none) (s x : Operand)
    (ho : o.op = .call { callee := .builtin .append, args := #[s, x], argTypes := #[31, 31] })
    (base : Nat) (v : Value) (l : List Ch) (hs : a.eval s = v) (hown : OwnChs w base v l)
    (ad : Addr) (c : Nat) (y : Ch) (hx : a.eval x = .slice (some ad) 1 c) (hh : ∀ j u, (chcs [y])[j]? = some u → w.cell? (ad.add j) = some u)
    (h63 : l.length ≤ 1000000) (hbase : base ≤ w.heap.size)
    (h : ∀ A' c' w', OwnChs w' base (.slice A' (l ++ [y]).length c') (l ++ [y]) → w.grownBy w' v.ownBlock → wpList Tryz.prog ops Q rest (a.put o.dst (.slice A' (l ++ [y]).length c')) w') : wpList Tryz.prog ops Q (o :: rest) a w := by
  obtain ⟨i0, hi0, hz0, hz1, hz2⟩ := info_parts chinfo
  refine wpList_append_own w hgd s x 31 ho base 76 i0 _ 7 72 Tryz.underlying31 hi0 hz0 hz1 hz2 rfl (by decide) v l.length (chcs l) hs hown ad 1 c (chcs [y]) hx (by rw [chcs_length]; rfl) hh (chcs_one _) (by unfold maxLen; omega) (by omega) hbase ?_
  intro v' w' h1 h2 _
  have hw : OwnChs w' base v' (l ++ [y]) := by
    unfold OwnChs
    rw [chcs_append, List.length_append]
    exact h1
  obtain ⟨A', c', e⟩ := hw.form
  subst e
  exact h A' c' w' hw h2
/-- What is told of nodes. -/
def chs (A B : List Kd) (ns : List Int) : List Ch := (dif A B ns).map fun n => (n, fnd A n, fnd B n)
theorem spot_same {A B : List Kd} {n : Int} : (spI (fnd B n) = spI (fnd A n) ∧ spT (fnd B n) = spT (fnd A n) ∧ spN (fnd B n) = spN (fnd A n)) ↔ fnd A n = fnd B n := by
  constructor
  · rintro ⟨h1, h2, h3⟩
    cases ea : fnd A n with
    | none =>
      cases eb : fnd B n with
      | none => rfl
      | some k => rw [ea, eb] at h1; simp [spI] at h1
    | some a =>
      cases eb : fnd B n with
      | none => rw [ea, eb] at h1; simp [spI] at h1
      | some b =>
        rw [ea, eb] at h2 h3
        simp [spT, spN] at h2 h3
        have na := (fnd_some ea).2
        have nb := (fnd_some eb).2
        obtain ⟨t1, m1, d1⟩ := a
        obtain ⟨t2, m2, d2⟩ := b
        simp at h2 h3 na nb
        subst h2 h3 na nb
        rfl
  · intro h
    rw [h]
    exact ⟨rfl, rfl, rfl⟩
def chsF (A B : List Kd) (l : List Int) : List Ch := (l.filter fun n => fnd A n ≠ fnd B n).map fun n => (n, fnd A n, fnd B n)
theorem chsF_snoc (A B : List Kd) (l : List Int) (n : Int) : chsF A B (l ++ [n]) = if fnd A n = fnd B n then chsF A B l else chsF A B l ++ [(n, fnd A n, fnd B n)] := by
  unfold chsF
  rw [List.filter_append, List.map_append]
  by_cases h : fnd A n = fnd B n
  · rw [if_pos h, List.filter_cons_of_neg (by simpa using h)]
    simp
  · rw [if_neg h, List.filter_cons_of_pos (by simpa using h)]
    simp
theorem chsF_ups (A B : List Kd) (ns : List Int) : chsF A B (ups ns) = chs A B ns := rfl
def ChRel (w w1 : World) (A B : List Kd) (is : List Int) (v i : Value) (wr : World) : Prop :=
  ∃ k : Nat, k ≤ is.length ∧ i = .int .i64 (k : Int) ∧ OwnChs wr w1.heap.size v (chsF A B (is.take k)) ∧ Below w1.heap.size w1 wr
def ChRet (w : World) (l : List Ch) (e : Ending) (w' : World) : Prop := ∃ v, e = .returned v ∧ OwnChs w' w.heap.size v l ∧ Below w.heap.size w w'
theorem OwnInts.form {w : World} {base : Nat} {v : Value} {is : List Int} (h : OwnInts w base v is) : ∃ A c, v = .slice A is.length c ∧ ∀ k (hk : k < is.length), ∃ b, A = some ⟨b, 0, none⟩ ∧ w.cell? ⟨b, k, none⟩ = some (.int .i64 is[k]) := by
  rcases h.2 with ⟨rfl, h0⟩ | ⟨g, cap, cur, rfl, hb, hg, hn, hm, hs, ht⟩
  · exact ⟨none, 0, by rw [h0], fun k hk => by omega⟩
  · refine ⟨_, cap, rfl, fun k hk => ⟨g, rfl, ?_⟩⟩
    have := World.ownsRow.cells (g := g) h rfl k (.int .i64 is[k]) (by simp [hk])
    rwa [Addr.add_lit, Nat.zero_add] at this
theorem ups_len (ns : List Int) : (ups ns).length ≤ ns.length := by
  have := putF_most (f := cm) ns []
  simpa using this
set_option maxHeartbeats 1000000 in
theorem changes_any (g gt most : Nat) (v : Value) (L : List O5) (A T : List Kd) (r : List (List Kd)) (ft : List Nat) (b : Nat) (ns : List Int) (hn : ns.length ≤ 100000) (h64 : ∀ n ∈ ns, i64B n) (w : World) (hM : Lm w g gt most v L) (hT : Tr w gt T r ft) (h : Was w b A ns) :
    Calls Tryz.prog 60 #[.pointer (some ⟨g, 0, none⟩), .map (some b)] w (ChRet w (chs A T ns)) := by
  have HM := hide hM
  have HT := hide hT
  have HW := hide h
  have H64 := hide (show ∀ n ∈ ups ns, i64B n from fun n hn => h64 n (mem_ups.1 hn))
  have KK := hide (keys_any b w)
  have KS := hide (skeys_any b A ns hn w h)
  have HU := hide (show ∀ n ∈ ups ns, n ∈ ns from fun n hn => mem_ups.1 hn)
  have hul := ups_len ns
  rw [← chsF_ups]
  unfold SKeysRet at KS
  generalize ups ns = is at KS H64 HU hul ⊢
  clear hM hT h h64
  go_enter Tryz.func60, Tryz.ntmps60
  go_wp2_with fail
  refine KK.out.mono ?_
  rintro e w0 ⟨rfl, hw0⟩
  subst hw0
  go_wp2_with fail
  refine KS.out.mono ?_
  rintro e w1 ⟨v1, rfl, hO1, hb1⟩
  have O1 := hide hO1
  have B1 := hide hb1
  obtain ⟨Ai, ci, rfl, hci⟩ := hO1.form
  have HCI := hide hci
  have S0 := hide (show ChRel w w1 A T is (.slice none 0 0) (.int .i64 0) w1 from ⟨0, Nat.zero_le _, rfl, OwnChs.nil _ _, Below.refl _ _⟩)
  clear hO1 hb1 hci KK KS
  go_wp2_with fail
  go_loopw [5, 13] (ChRel w w1 A T is) (fun _ i _ => is.length - (intOf i).toNat)
  case atStart => exact S0.out
  case round =>
    clear S0
    obtain ⟨k, hk, rfl, hC, hB⟩ := hrel
    have HC := hide hC
    have HB := hide hB
    obtain ⟨Ac, cc, rfl⟩ := hC.form
    by_cases hlt : k < is.length
    · have i1 : (k : Int) < (is.length : Int) := by omega
      have i0 : (0 : Int) ≤ (k : Int) := by omega
      obtain ⟨bi, rfl, hcell⟩ := HCI.out k hlt
      have hcl := cellk hB hcell
      have HN := hide (H64.out _ (List.getElem_mem hlt))
      have HS := hide ((congrArg (chsF A T) (List.take_succ_eq_append_getElem hlt)).trans (chsF_snoc A T _ _))
      have HUx := hide (HU.out _ (List.getElem_mem hlt))
      generalize is[k] = n at hcl HN HS HUx
      clear hcell hC hB
      have BW := hide (B1.out.trans (HB.out.mono B1.out.size))
      have l2 := (HM.out.below BW.out).cell2
      have KP := hide (tspot_any gt T r ft n HN.out wr (HT.out.below BW.out))
      go_wp2_with fail
      refine KP.out.mono ?_
      rintro e w2 ⟨rfl, hb2⟩
      have Bz := (Below.refl w2.heap.size w2).alloc (Nat.le_refl _) (.cells #[.bool (spI (fnd T n)), .int .i64 (spT (fnd T n)), .string (bs (spN (fnd T n)))] 74)
      have B3 := hb2.trans (Bz.mono hb2.size)
      have HC3 := hide (HC.out.below B3)
      have HB3 := hide (HB.out.trans (B3.mono HB.out.size))
      have BW3 := hide (BW.out.trans (B3.mono BW.out.size))
      obtain ⟨m, m1, m2, m3, m4, m5⟩ := HW.out.below BW3.out
      have hlk := m1.look m2 n HN.out
      rw [m5 n HUx.out, Option.getD_some] at hlk
      have hq := spot_neq (spI (fnd T n)) (spI (fnd A n)) (spT (fnd T n)) (spT (fnd A n)) (spN (fnd T n)) (spN (fnd A n))
      have HQ := hide (spot_same (A := A) (B := T) (n := n))
      have bx := heap_alloc_new w2 (.cells #[.bool (spI (fnd T n)), .int .i64 (spT (fnd T n)), .string (bs (spN (fnd T n)))] 74)
      unfold spv at *
      clear hb2 Bz B3 m1 m2 m3 m4 m5 KP
      go_upto_region 6 with (fail)
      generalize w2.alloc (.cells #[.bool (spI (fnd T n)), .int .i64 (spT (fnd T n)), .string (bs (spN (fnd T n)))] 74) = wa at HC3 HB3 BW3 hlk bx ⊢
      have b0 := cell_of_row wa w2.heap.size 0 _ _ (0, 0) bx
      have b1 := cell_of_row wa w2.heap.size 1 _ _ (0, 0) bx
      have b2 := cell_of_row wa w2.heap.size 2 _ _ (0, 0) bx
      simp at b0 b1 b2
      clear bx
      by_cases hx : fnd A n = fnd T n
      · rw [decide_eq_true (HQ.out.2 hx)] at hq
        rw [if_pos hx] at HS
        clear hx HQ
        go_wp2_with fail
        go_roundw
        case rel =>
          refine ⟨k + 1, by omega, by go_num, ?_, HB3.out⟩
          rw [HS.out]
          exact HC3.out
        case measure => simp [intOf]; omega
      · rw [decide_eq_false (fun h => hx (HQ.out.1 h))] at hq
        rw [if_neg hx] at HS
        have Bq := (Below.refl wa.heap.size wa).alloc (Nat.le_refl _) (.cells #[.int .i64 n, .bool (spI (fnd A n)), .int .i64 (spT (fnd A n)), .string (bs (spN (fnd A n))), .bool (spI (fnd T n)), .int .i64 (spT (fnd T n)), .string (bs (spN (fnd T n)))] 76)
        have O4 := hide (HC3.out.below Bq)
        have N4 := hide (ch_new wa (n, fnd A n, fnd T n))
        have B4 := hide (HB3.out.trans (Bq.mono HB3.out.size))
        have sz4 := B4.out.size
        have hcl4 : (chsF A T (is.take k)).length ≤ 1000000 := by
          unfold chsF
          rw [List.length_map]
          have := List.length_filter_le (fun n => decide (fnd A n ≠ fnd T n)) (is.take k)
          rw [List.length_take] at this
          omega
        clear hx HQ Bq
        generalize chsF A T (is.take k) = cl at HC HC3 O4 HS hcl4 ⊢
        go_wp2_with (at_builtin; refine wpList_append_ch _ rfl _ _ rfl w1.heap.size _ cl rfl O4.out ⟨wa.heap.size, 0, none⟩ 1 (n, fnd A n, fnd T n) rfl N4.out hcl4 sz4 ?_)
        intro A5 c5 w5 hw5 hg5
        have B5 := hide (B4.out.grown hg5 sz4 (fun k hk => (O4.out.lt hk).1))
        rw [← HS.out] at hw5
        have O5' := hide hw5
        have EL := hide (congrArg List.length HS.out)
        clear hw5 hg5
        go_wp2_with fail
        go_roundw
        case rel =>
          refine ⟨k + 1, by omega, by go_num, ?_, B5.out⟩
          first
            | exact O5'.out
            | (have h1 := O5'.out
               rw [EL.out, List.length_append] at h1
               exact h1)
        case measure => simp [intOf]; omega
    · obtain rfl : k = is.length := by omega
      have HE := hide (show chsF A T (is.take is.length) = chsF A T is by rw [List.take_length])
      have BF := hide (B1.out.trans (HB.out.mono B1.out.size))
      have sz := B1.out.size
      generalize chsF A T (is.take is.length) = q at hC HC HE ⊢
      go_wp2
      go_ret
      refine ⟨_, rfl, ?_, BF.out⟩
      rw [← HE.out]
      refine ⟨HC.out.1, ?_⟩
      rcases HC.out.2 with h0 | ⟨g', cap, cur, q1, q2, q3⟩
      · exact .inl h0
      · exact .inr ⟨g', cap, cur, q1, by omega, q3⟩
end Go.Proofs.YtimfeocaghccdaaGreatDoor
namespace Go.Proofs.YtimfeocaghccdaaGreatDoor
open Go.RowKit Go.Maps
set_option linter.unusedVariables false
set_option linter.unusedSimpArgs false
set_option maxRecDepth 100000

/-! ### what is inserted -/
theorem mrg_from {L F : List O5} {f : O5} (hs : SrtO L) : mrg L (f :: F) = L.take (plc L f) ++ mrg (L.drop (plc L f)) (f :: F) := by
  have h0 : plc (L.drop (plc L f)) f = 0 := by
    cases hd : L.drop (plc L f) with
    | nil => rfl
    | cons y t =>
      rw [plc_cons, if_neg (plc_ge hs f y (by rw [hd]; simp))]
  conv => rhs; rw [mrg]
  rw [h0]
  simp [mrg]
theorem fnd_putS_ne (T : List Kd) (n x : Int) (s : Option Kd) (hs : ∀ k, s = some k → k.nd = n) (h : x ≠ n) : fnd (putS T n s) x = fnd T x := by
  unfold fnd putS
  rw [List.find?_append]
  have h1 : (T.filter fun k => k.nd != n).find? (fun k => k.nd == x) = T.find? (fun k => k.nd == x) := by
    rw [List.find?_filter]
    congr 1
    funext k
    by_cases e : k.nd = x
    · simp [e, h]
    · simp [e]
  rw [h1]
  have h2 : (s.toList).find? (fun k => k.nd == x) = none := by
    cases s with
    | none => rfl
    | some k =>
      have := hs k rfl
      simp
      omega
  first
    | rw [h2]; simp
    | simp [h2]
theorem fnd_app_ne (T : List Kd) (o : O5) (x : Int) (h : x ≠ o.d) : fnd (app T o) x = fnd T x := by
  unfold app
  split
  · exact fnd_putS_ne T o.d x _ (fun k hk => by cases hk; rfl) h
  · rfl
theorem foldS_fnd : ∀ (os : List O5) (s : St) (x : Int), (∀ o ∈ os, o.d ≠ x) → fnd (os.foldl stp s).1 x = fnd s.1 x
  | [], s, x, _ => rfl
  | o :: os, s, x, h => by
    rw [List.foldl_cons, foldS_fnd os _ x (fun y hy => h y (by simp [hy]))]
    unfold stp
    split
    · exact fnd_app_ne s.1 o x (fun e => h o (by simp) e.symm)
    · rfl
theorem und_snoc {a : List O5} {o : O5} (h : o.R = true) : und (runS (a ++ [o])) = runS a := by
  rw [runS_snoc, stp_right h]
  rfl
/-- What is told of the nodes of those that are done again is what is told of all. -/
theorem chs_late {L M a l0 l1 : List O5} (hL : L = a ++ l0) (hM : M = a ++ l1) (hsub : ∀ o ∈ l0, o ∈ l1) : chs (runS L).1 (runS M).1 (l1.map (·.d)) = chs (runS L).1 (runS M).1 (M.map (·.d)) := by
  unfold chs
  congr 1
  refine dif_eq (dif_srt _ _ _) fun n => ?_
  rw [mem_dif]
  constructor
  · rintro ⟨h1, h2⟩
    refine ⟨?_, h2⟩
    apply Classical.byContradiction
    intro hn
    have hno : ∀ o ∈ l1, o.d ≠ n := fun o ho e => hn (List.mem_map.2 ⟨o, ho, e⟩)
    apply h2
    rw [hL, hM, runS_append, runS_append, foldS_fnd l1 _ n hno, foldS_fnd l0 _ n (fun o ho => hno o (hsub o ho))]
  · rintro ⟨h1, h2⟩
    refine ⟨?_, h2⟩
    obtain ⟨o, ho, e⟩ := List.mem_map.1 h1
    exact List.mem_map.2 ⟨o, by rw [hM]; simp [ho], e⟩
/-! ### the tree while it is undone and done -/
def TrS (w3 : World) (gt : Nat) (ft : List Nat) (s : St) (wr : World) : Prop := ∃ ft', Tr wr gt s.1 s.2 ft' ∧ Mod ft w3 wr ∧ ∀ k ∈ ft', k ∈ ft ∨ w3.heap.size ≤ k
theorem TrS.ret {w3 : World} {gt : Nat} {ft : List Nat} {s' : St} {wr w' : World} {ft' : List Nat} {v : Value} {e : Ending} (hm : Mod ft w3 wr) (hs : ∀ k ∈ ft', k ∈ ft ∨ w3.heap.size ≤ k) (hr : TrRet v gt s'.1 s'.2 ft' wr e w') : e = .returned v ∧ TrS w3 gt ft s' w' := by
  obtain ⟨rfl, f2, h1, h2, h3⟩ := hr
  refine ⟨rfl, f2, h1, hm.trans (fs' := ft') h2 hs, fun k hk => ?_⟩
  rcases h3 k hk with hk | hk
  · exact hs k hk
  · exact .inr (Nat.le_trans hm.size hk)
theorem TrS.below {w3 : World} {gt : Nat} {ft : List Nat} {s : St} {wr w' : World} (h : TrS w3 gt ft s wr) (hb : Below wr.heap.size wr w') : TrS w3 gt ft s w' := by
  obtain ⟨f, h1, h2, h3⟩ := h
  exact ⟨f, h1.below hb, h2.trans (fs' := []) (Mod.of_below hb) (by simp), h3⟩
def UnRel (w3 : World) (gt : Nat) (ft : List Nat) (L : List O5) (n : Nat) (i : Value) (wr : World) : Prop := ∃ j : Nat, j ≤ n ∧ i = .int .i64 (j : Int) ∧ TrS w3 gt ft (runS (L.take (L.length - j))) wr
def ApRl (w3 : World) (gt : Nat) (ft : List Nat) (a l1 : List O5) (i : Value) (wr : World) : Prop := ∃ j : Nat, j ≤ l1.length ∧ i = .int .i64 (j : Int) ∧ TrS w3 gt ft (runS (a ++ l1.take j)) wr
/-- What a call leaves that inserts. -/
def InsRet (w0 w : World) (g most : Nat) (L M : List O5) (fs : List Nat) (e : Ending) (w' : World) : Prop :=
  ∃ v fs', e = .returned v ∧ OwnChs w' w.heap.size v (chs (runS L).1 (runS M).1 (M.map (·.d))) ∧ Lwg w0 w' g most M fs' ∧ Mod fs w w' ∧ (∀ k ∈ fs', k ∈ fs ∨ w.heap.size ≤ k) ∧ ∀ b, v.ownBlock = some b → b ∉ fs'
set_option maxHeartbeats 1000000 in
theorem insert_any (w0 : World) (hE : Env w0) (g most : Nat) (L : List O5) (fs : List Nat) (A : Option Addr) (c : Nat) (F : List O5) (hF : F ≠ []) (hFs : SrtO F) (hFr : AllR F) (hFd : ∀ x ∈ F, x ∉ L) (hmost : L.length + F.length ≤ most) (hn : L.length + F.length ≤ 800) (w : World) (h : Lwg w0 w g most L fs) (hO : Ops w A c F) :
    Calls Tryz.prog 34 #[.pointer (some ⟨g, 0, none⟩), .slice A F.length c] w (InsRet w0 w g most L (putO L F) fs) := by
  obtain ⟨⟨hs, hr, hl, gt, v, ft, M, T, rfl⟩, hfs, hbel⟩ := h
  obtain ⟨f, F', hFe⟩ := List.exists_cons_of_ne_nil hF
  have HEnv := hide hE
  have HM := hide M
  have HT := hide T
  have HO := hide hO
  have hfrom := plc_le L f
  have hFl : 0 < F.length := List.length_pos_iff.2 hF
  have hmp := mrg_put hs hFs hFd
  have hmf : mrg L F = L.take (plc L f) ++ mrg (L.drop (plc L f)) F := by rw [hFe]; exact mrg_from hs
  obtain ⟨Av, cv, rfl, hOv⟩ := M.own.ops
  have hcv := M.own.nc
  obtain ⟨At, hT1, hOt, -⟩ := ops_tail hOv (plc L f) hfrom
  have hle := hOv.le
  have hnc : Nc At (cv - plc L f) := by
    intro e
    have h1 := hT1 w
    rw [run_slice_l w _ _ _ _ lopUnder .i64 _ (by omega) (by omega), lopElem, lopSize] at h1
    simp [Result.andThen, sliced, e] at h1
    by_cases hcq : cv = plc L f
    · omega
    · rw [if_neg hcq] at h1
      simp at h1
      have := hcv h1
      omega
  obtain ⟨bf, of, eA, hat⟩ := hO.lit hFl
  subst eA
  obtain ⟨d0, d1, d2, d3, d4⟩ := hat.five 0 hFl
  have hF0 : F[0] = f := by simp [hFe]
  rw [hF0] at d0 d1 d2 d3 d4
  simp only [Nat.zero_mul, Nat.add_zero] at d0 d1 d2 d3 d4
  have l1' := M.cell1
  have KP := hide (place_any g gt most _ L f hs (by omega) w M)
  have KG := hide (fun W hW1 hW2 => merge_any At (cv - plc L f) (L.drop (plc L f)) (some ⟨bf, of, none⟩) c F hs.drop (by rw [List.length_drop]; omega) W hW1 hnc hW2)
  have HOt := hide hOt
  have HPM := hide (show putO L F = L.take (plc L f) ++ mrg (L.drop (plc L f)) F from hmp.symm.trans hmf)
  have HL1 := hide (show ∀ o ∈ L.drop (plc L f), o ∈ mrg (L.drop (plc L f)) F from fun o ho => (mrg_mem F _ o).2 (.inl ho))
  have HR1 := hide (show AllR (mrg (L.drop (plc L f)) F) from fun o ho => by
    rcases (mrg_mem F _ o).1 ho with h | h
    · exact hr o (List.mem_of_mem_drop h)
    · exact hFr o h)
  have hll := mrg_len F (L.drop (plc L f))
  rw [List.length_drop] at hll
  have HMS := hide (show SrtO (putO L F) from putF_srt ocF_order hs)
  have HMR := hide (show AllR (putO L F) from fun o ho => by
    rcases mem_putF.1 ho with h | h
    · exact hr o h
    · exact hFr o h)
  have hH := lops_head Av L.length cv (plc L f) (by omega)
  have hDl : (L.drop (plc L f)).length = L.length - plc L f := List.length_drop
  rw [hDl] at hT1 KG
  have HRL := hide hr
  have HSL := hide hs
  generalize mrg (L.drop (plc L f)) F = l1 at KG HPM HL1 HR1 hll
  unfold SrchRet at KP
  generalize plc L f = p at *
  have i1 : ((F.length : Int) == 0) = false := by simp only [beq_eq_false_iff_ne, ne_eq]; omega
  have i2 : (0 : Int) < (F.length : Int) := by omega
  have HLL := hide hll
  have hll1 : l1.length ≤ 800 := by omega
  have HFS := hide hfs
  have HBL := hide hbel
  have HML := hide (show (putO L F).length ≤ most from by rw [HPM.out, List.length_append, List.length_take]; omega)
  generalize putO L F = M1 at *
  clear hll hat hO M T hOt hOv hnc hF hFs hFr hFd hmp hmf hE hs hr hfs hbel hcv hF0 hFe hDl
  go_enter Tryz.func34, Tryz.ntmps34
  go_wp2_with fail
  refine KP.out.mono ?_
  rintro e w1 ⟨rfl, hb1⟩
  have B1 := hide hb1
  have l11 := cellk hb1 l1'
  clear hb1 KP d0 d1 d2 d3 d4 l1'
  go_wp2_with fail
  refine (KG.out w1 (HOt.out.below B1.out) (HO.out.below B1.out)).mono ?_
  rintro e w2 ⟨v2, rfl, ho2, hb2⟩
  have B2 := hide (B1.out.trans (hb2.mono B1.out.size))
  have l12 := cellk hb2 l11
  have O2 := hide ho2
  obtain ⟨A2, c2, rfl, hops2⟩ := ho2.ops
  have KSp := hide (spots_any g gt most _ L (runS L).1 (runS L).2 ft A2 c2 l1 (by omega) HR1.out w2 (HM.out.below B2.out) (HT.out.below B2.out) hops2)
  have hr2 := ho2.row
  have hs2 := hb2.size
  clear ho2 hb2 hops2 KG l11 HOt HO
  go_wp2_with fail
  refine KSp.out.mono ?_
  rintro e w3 ⟨rfl, hW3, hb3⟩
  have B3 := hide (B2.out.trans (hb3.mono B2.out.size))
  have l13 := cellk hb3 l12
  have HW3 := hide hW3
  have O3 := hide (O2.out.below hb3)
  have HM3 := hide (HM.out.below B3.out)
  have S0 := hide (show UnRel w3 gt ft L (L.length - p) (.int .i64 0) w3 from ⟨0, Nat.zero_le _, rfl, ft, by rw [Nat.sub_zero, List.take_length]; exact HT.out.below B3.out, Mod.refl _ _, fun k hk => .inl hk⟩)
  have HFT := hide (show ∀ k ∈ ft, k < w.heap.size from HT.out.lt)
  have s1 := B1.out.size
  have s2 := B2.out.size
  have s3 := hb3.size
  have hgw := HM.out.lt
  have HVB := hide (show ∀ b, (Value.slice Av p cv).ownBlock = some b → b < w.heap.size from fun b hb => HM.out.own.lt (show (Value.slice Av L.length cv).ownBlock = some b from by
    cases Av with
    | none => simp [Value.ownBlock] at hb
    | some ad => simpa [Value.ownBlock] using hb))
  have HAP := hide (HM3.out.apart (HT.out.below B3.out))
  have HFM := hide (show ∀ wr, Mod ft w3 wr → Lm wr g gt most (.slice Av L.length cv) L from fun wr hm => HM3.out.kept fun b hb => hm.block b (by rcases hb with rfl | hb; exact HM3.out.lt; exact HM3.out.own.lt hb) (by rcases hb with rfl | hb; exact HAP.out.1; exact HAP.out.2 b hb))
  have HFO := hide (show ∀ wr, Mod ft w3 wr → OwnOps wr w1.heap.size (.slice A2 l1.length c2) l1 from fun wr hm => O3.out.kept fun b hb => hm.block b (O3.out.lt hb) (fun h => by have := HFT.out b h; have := hr2 b hb; omega))
  have HFW := hide (show ∀ wr, Mod ft w3 wr → Was wr w2.heap.size (runS L).1 (l1.map (·.d)) from fun wr hm => HW3.out.kept (hm.block _ HW3.out.lt (fun h => by have := HFT.out _ h; omega)))
  have HF0 := hide (show ∀ wr, Mod ft w3 wr → Below w0.heap.size w0 wr from fun wr hm => (HBL.out.trans (B3.out.mono HBL.out.size)).trans (hm.below (by have := HBL.out.size; have := B3.out.size; omega) (fun k hk => HFS.out k (by simp [hk]))))
  clear hW3 hb3 KSp l12 HM HT O2
  go_wp2_with fail
  go_loopw [40] (UnRel w3 gt ft L (L.length - p)) (fun i _ => (L.length - p) - (intOf i).toNat)
  case atStart => exact S0.out
  case round =>
    rename World => wu
    clear S0
    obtain ⟨j, hj, rfl, ft1, hTr, hMo, hsub⟩ := hrel
    by_cases hlt : j < L.length - p
    · have i3 : (j : Int) < ((L.length - p : Nat) : Int) := by omega
      have c2u := (HFM.out wu hMo).cell2
      have hlen := runS_len (L.take (L.length - j))
      rw [List.length_take] at hlen
      have KU := hide (tund_any gt (runS (L.take (L.length - j))) ft1 (by omega) wu hTr)
      have HU := hide (show und (runS (L.take (L.length - j))) = runS (L.take (L.length - (j + 1))) by
        have e : L.length - j = L.length - (j + 1) + 1 := by omega
        rw [e, List.take_succ_eq_append_getElem (by omega)]
        exact und_snoc (HRL.out _ (List.getElem_mem _)))
      rw [HU.out] at KU
      have HMo := hide hMo
      have HSub := hide hsub
      clear hTr hMo hsub hlen
      go_wp2_with fail
      refine KU.out.mono ?_
      rintro e w4 hret
      obtain ⟨rfl, hTS⟩ := TrS.ret (s' := runS (L.take (L.length - (j + 1)))) HMo.out HSub.out hret
      have HTS := hide hTS
      clear hret hTS KU c2u
      go_wp2_with fail
      go_roundw
      case rel => exact ⟨j + 1, by omega, by go_num, HTS.out⟩
      case measure => simp [intOf]; omega
    · have i3 : ¬ (j : Int) < ((L.length - p : Nat) : Int) := by omega
      have ej : L.length - j = p := by omega
      rw [ej] at hTr
      have S1 := hide (show ApRl w3 gt ft (L.take p) l1 (.int .i64 0) wu from ⟨0, Nat.zero_le _, rfl, ft1, by rw [List.take_zero, List.append_nil]; exact hTr, hMo, hsub⟩)
      clear hTr hMo hsub ej
      go_wp2_with fail
      go_loopw [50] (ApRl w3 gt ft (L.take p) l1) (fun i _ => l1.length - (intOf i).toNat)
      case atStart => exact S1.out
      case round =>
        rename World => wv
        clear S1
        obtain ⟨q, hq, rfl, ft2, hTr, hMo, hsub⟩ := hrel
        by_cases hlt2 : q < l1.length
        · have i4 : (q : Int) < (l1.length : Int) := by omega
          have i5 : (0 : Int) ≤ (q : Int) := by omega
          obtain ⟨A2', c2', e2, hops⟩ := (HFO.out wv hMo).ops
          cases e2
          obtain ⟨b2, o2, rfl, hat⟩ := hops.lit (by omega)
          obtain ⟨c0, c1, c2', c3, c4⟩ := hat.five q hlt2
          have hlen := runS_len (L.take p ++ l1.take q)
          rw [List.length_append, List.length_take, List.length_take] at hlen
          have HX := hide (HR1.out _ (List.getElem_mem hlt2))
          have HU := hide (show stp (runS (L.take p ++ l1.take q)) l1[q] = runS (L.take p ++ l1.take (q + 1)) by
            rw [List.take_succ_eq_append_getElem hlt2, ← List.append_assoc, runS_snoc])
          have hl48 : l1[q].l.length ≤ maxLen := by
            have h1 := HX.out
            unfold O5.R opR at h1
            simp only [Bool.and_eq_true] at h1
            have := right_len h1.2
            unfold maxLen
            omega
          have KA := hide (fun W hW hT => tapply_any gt (runS (L.take p ++ l1.take q)) ft2 l1[q] hl48 (by omega) W hW hT)
          rw [HU.out] at KA
          generalize l1[q] = x at c0 c1 c2' c3 c4 KA HX hl48 HU
          have Bz := (Below.refl wv.heap.size wv).alloc (Nat.le_refl _) (.cells #[.int .i64 x.n, .int .i64 x.r, .int .i64 x.d, .int .i64 x.t, .string (bs x.l)] 50)
          have HMz := hide (hMo.trans (fs' := []) (Mod.of_below Bz) (by simp))
          have HTz := hide (hTr.below Bz)
          have HBo := Bo.new wv x.n x.r x.d x.t x.l 50
          have HSub := hide hsub
          clear hat hops hTr hMo hsub hlen
          go_upto_region 13 with (fail)
          generalize wv.alloc (.cells #[.int .i64 x.n, .int .i64 x.r, .int .i64 x.d, .int .i64 x.t, .string (bs x.l)] 50) = wa at Bz HMz HTz HBo ⊢
          have l2 := (HFM.out wa HMz.out).cell2
          obtain ⟨e0, e1, e2, e3, e4⟩ := HBo
          have HEd := hide (HEnv.out.below ((HF0.out wa HMz.out).trans ((Below.refl _ wa).drew.mono (HF0.out wa HMz.out).size)))
          have HTd := hide (HTz.out.below (Below.refl _ wa).drew)
          have HMd := hide (HMz.out.trans (fs' := []) (Mod.of_below (Below.refl _ wa).drew) (by simp))
          have hS0 := And.intro l2 (And.intro e0 (And.intro e1 (And.intro e2 (And.intro e3 e4))))
          clear Bz c0 c1 c2' c3 c4
          go_wp2_with fail
          go_still_tail 5, (by kernel_rfl)
          change wpList _ _ _ _ _ wa.drew
          go_wp2_with fail
          refine (KA.out _ HEd.out HTd.out).mono ?_
          rintro e w4 hret
          obtain ⟨rfl, hTS⟩ := TrS.ret (s' := runS (L.take p ++ l1.take (q + 1))) HMd.out HSub.out hret
          have HTS := hide hTS
          clear hret hTS KA l2 e0 e1 e2 e3 e4 hS0
          go_wp2_with fail
          go_roundw
          case rel => exact ⟨q + 1, by omega, by go_num, HTS.out⟩
          case measure => simp [intOf]; omega
        · obtain rfl : q = l1.length := by omega
          rw [List.take_length] at hTr
          have hMv := HFM.out wv hMo
          have g1 := hMv.cell1
          have fr1 := hMv.free1
          have OC := hide (hMv.own.cut p hfrom)
          have OL := hide (HFO.out wv hMo)
          have hNL := (HFO.out wv hMo).nc
          obtain ⟨A2', c2', e2, hops⟩ := (HFO.out wv hMo).ops
          cases e2
          have HOps := hide hops
          have HNL := hide hNL
          have hlp : (L.take p).length + l1.length ≤ 1000000 := by rw [List.length_take]; omega
          have HTr := hide hTr
          have HMo := hide hMo
          have HSub := hide hsub
          have HMV := hide hMv
          have HWv := hide (HFW.out wv hMo)
          clear hTr hMo hsub hMv hNL hops
          go_wp2_with (at_builtin; refine wpList_append_ops _ rfl _ _ rfl 0 _ (L.take p) rfl OC.out A2 c2 l1 rfl HOps.out HNL.out hlp (Nat.zero_le _) ?_)
          intro A5 c5 w5 hw5 hg5 ho5
          rw [← HPM.out] at hw5
          have HOB := hide (show ∀ b, (Value.slice Av p cv).ownBlock = some b → (Value.slice Av L.length cv).ownBlock = some b from fun b hb => by
            cases Av with
            | none => simp [Value.ownBlock] at hb
            | some ad => simpa [Value.ownBlock] using hb)
          have hgne : ∀ b, (Value.slice Av p cv).ownBlock = some b → b ≠ g := fun b hb => HMV.out.ne (HOB.out b hb)
          have hgv := HMV.out.lt
          have blk5 := (hg5.block g hgv (fun e => hgne g e.symm rfl)).trans HMV.out.blk
          have k1 := cell_of_row w5 g 1 _ _ (0, 0) blk5
          have fk := Joins.unfrozen_of_block blk5 1
          simp at k1
          have hfar := HMV.out.apart HTr.out
          have hvlt : ∀ b, (Value.slice A5 (p + l1.length) c5).ownBlock = some b → b ≠ g := fun b hb => by
            rcases ho5 with e | e
            · rw [e] at hb
              exact hgne b hb
            · rw [e] at hb
              injection hb with hb
              omega
          have M5 := hide (show Mod (g :: ((Value.slice Av L.length cv).ownBlock.toList ++ ft)) w w5 from
            ((Mod.of_below B3.out).trans (fs' := ft) HMo.out (fun k hk => .inl (by simp [hk]))).trans (fs' := (Value.slice Av p cv).ownBlock.toList) (Mod.of_grown hg5 (fun k hk => by simpa using hk)) (fun k hk => .inl (mem_lfs.2 (.inr (.inl (HOB.out k (by simpa using hk)))))))
          have M6 := hide (M5.out.setCell (p := ⟨g, 1, none⟩) (.inl (by simp)) (.slice A5 (p + l1.length) c5))
          have hb6 : ∀ k, k ≠ g → (w5.setCell ⟨g, 1, none⟩ (.slice A5 (p + l1.length) c5)).heap[k]? = w5.heap[k]? := fun k hk => Below.heap_setCell _ _ _ _ hk
          have L6 := hide (show Lm (w5.setCell ⟨g, 1, none⟩ (.slice A5 (p + l1.length) c5)) g gt most (.slice A5 (p + l1.length) c5) M1 from ⟨by
            have := Joins.block_setCell (i := 1) blk5 (.slice A5 (p + l1.length) c5)
            simpa using this, hw5.kept fun b hb => hb6 b (hvlt b hb)⟩)
          have T6 := hide (show Tr (w5.setCell ⟨g, 1, none⟩ (.slice A5 (p + l1.length) c5)) gt (runS M1).1 (runS M1).2 ft2 from by
            rw [HPM.out]
            refine (HTr.out.mod (fs' := (Value.slice Av p cv).ownBlock.toList) (Mod.of_grown hg5 (fun k hk => by simpa using hk)) (fun k hk h => ?_)).mod (fs' := [g]) ⟨rfl, rfl, rfl, by simp [World.setCell], fun k _ hk => hb6 k (by simpa using hk)⟩ (fun k hk h => ?_)
            · exact hfar.2 k (HOB.out k (by simpa using h)) hk
            · simp at h
              subst h
              exact hfar.1 hk)
          have hwlt := HWv.out.lt
          have W6 := hide (show Was (w5.setCell ⟨g, 1, none⟩ (.slice A5 (p + l1.length) c5)) w2.heap.size (runS L).1 (l1.map (·.d)) from
            HWv.out.kept ((hb6 _ (by omega)).trans (hg5.block _ hwlt (fun e => by have := HVB.out _ e.symm; omega))))
          have HNW := hide (show ∀ k ∈ g :: ((Value.slice A5 (p + l1.length) c5).ownBlock.toList ++ ft2), k ∈ g :: ((Value.slice Av L.length cv).ownBlock.toList ++ ft) ∨ w.heap.size ≤ k from fun k hk => by
            have := B3.out.size
            have := HMo.out.size
            rcases mem_lfs.1 hk with rfl | hk | hk
            · exact .inl (by simp)
            · rcases ho5 with e | e
              · rw [e] at hk
                exact .inl (mem_lfs.2 (.inr (.inl (HOB.out k hk))))
              · rw [e] at hk
                injection hk with hk
                exact .inr (by omega)
            · rcases HSub.out k hk with h | h
              · exact .inl (mem_lfs.2 (.inr (.inr h)))
              · exact .inr (by omega))
          clear hw5 hg5 ho5 blk5 hfar hvlt hgne g1 fr1 OC OL HOps HMV HTr HWv M5
          go_upto_region 16 with (fail)
          generalize w5.setCell ⟨g, 1, none⟩ (.slice A5 (p + l1.length) c5) = w6 at M6 L6 T6 W6 ⊢
          have KC := hide (changes_any g gt most _ M1 (runS L).1 (runS M1).1 (runS M1).2 ft2 w2.heap.size (l1.map (·.d)) (by rw [List.length_map]; omega) (fun n hn => by
            obtain ⟨o, ho, rfl⟩ := List.mem_map.1 hn
            exact R_node (HR1.out o ho)) w6 L6.out T6.out W6.out)
          have HCH := hide (chs_late (L := L) (M := M1) (a := L.take p) (l0 := L.drop p) (l1 := l1) (List.take_append_drop p L).symm HPM.out HL1.out)
          rw [HCH.out] at KC
          clear k1 fk hb6
          go_wp2_with fail
          refine KC.out.mono ?_
          rintro e w7 ⟨v7, rfl, hO7, hb7⟩
          obtain ⟨A7, c7, rfl⟩ := hO7.form
          have O7 := hide hO7
          have B7 := hide hb7
          clear hO7 hb7 KC
          go_wp2
          go_ret
          have sz6 := M6.out.size
          refine ⟨_, g :: ((Value.slice A5 (p + l1.length) c5).ownBlock.toList ++ ft2), rfl, ?_, ⟨⟨HMS.out, HMR.out, HML.out, gt, _, ft2, L6.out.below B7.out, T6.out.below B7.out, rfl⟩, fun k hk => ?_, ?_⟩, M6.out.trans (fs' := []) (Mod.of_below B7.out) (by simp), HNW.out, fun b hb hk => ?_⟩
          · refine ⟨O7.out.1, ?_⟩
            rcases O7.out.2 with h0 | ⟨g', cap, cur, q1, q2, q3⟩
            · exact .inl h0
            · exact .inr ⟨g', cap, cur, q1, by omega, q3⟩
          · have := HBL.out.size
            rcases HNW.out k hk with h | h
            · exact HFS.out k h
            · omega
          · have h1 := (M6.out.trans (fs' := []) (Mod.of_below B7.out) (by simp)).below (B := w0.heap.size) HBL.out.size (fun k hk => HFS.out k hk)
            exact HBL.out.trans h1
          · have h1 := (O7.out.lt hb).1
            have h2 : b < w6.heap.size := by
              rcases mem_lfs.1 hk with rfl | hk | hk
              · exact L6.out.lt
              · exact L6.out.own.lt hk
              · exact T6.out.lt b hk
            omega
end Go.Proofs.YtimfeocaghccdaaGreatDoor
namespace Go.Proofs.YtimfeocaghccdaaGreatDoor
open Go.RowKit
set_option linter.unusedVariables false
set_option linter.unusedSimpArgs false

def noDefer (o : Oper) : Bool := match o.op with
  | .defer _ => false
  | _ => true
theorem noDefer_of {o : Oper} (h : noDefer o = true) : ∀ c, o.op ≠ .defer c := by
  intro c e
  unfold noDefer at h
  rw [e] at h
  cases h
theorem oper_round {F : Fence} {n : Nat} {P : Program} {o : Oper} {a : Act} {w : World} {K : Act → World → Prop} {Q : Exit → Act → World → Prop} (l : Nat) (hro : F.round = none) (hd : noDefer o = true) (h : o.wpIn F n P a w K Q) : o.wpIn (F.inRound l) n P a w K Q := by
  obtain ⟨h1, h2⟩ := h
  refine ⟨h1, ?_⟩
  rw [hro, Oper.semAt_none] at h2
  rw [show (F.inRound l).round = some l from rfl, Oper.semAt_some l _ o (noDefer_of hd)]
  exact h2
section
variable {F : Fence} {n : Nat} {P : Program} {ops : Array Oper} {C : World → Prop}
theorem op_round {i : Nat} {a : Act} {K : Act → Prop} {K' : Act → World → Prop} {Q' : Exit → Act → World → Prop} {w : World} (l : Nat) (hro : F.round = none) (hd : ∀ (i : Nat) (o : Oper), ops[i]? = some o → noDefer o = true) (hC : C w) (h : ∀ a w', C w' → K a → K' a w') (hh : qOpIn F n P ops C i K a) : wpOpIn (F.inRound l) n P ops Q' i K' a w := by
  have h1 : wpOpIn F n P ops Q' i K' a w := wpOpIn_of_qOpIn hro hC h hh
  unfold wpOpIn at h1 ⊢
  cases ho : ops[i]? with
  | none => simpa only [ho] using h1
  | some o =>
    simp only [ho] at h1 ⊢
    by_cases hw : Region.wanted o (yielded ops a.tmps) = true
    · rw [if_pos hw] at h1 ⊢
      exact oper_round l hro (hd i o ho) h1
    · rw [if_neg hw] at h1 ⊢
      exact h1
theorem any_round {md : Region.Mode} {Q : Act → Prop} {Q' : Exit → Act → World → Prop} (l : Nat) (hro : F.round = none) (hd : ∀ (i : Nat) (o : Oper), ops[i]? = some o → noDefer o = true) (hQ : ∀ a w, C w → Q a → Q' .normal a w) : ∀ (fuel : Nat) (listed : Array Bool) (a : Act) (w : World), C w →
    wpAnyQIn F n P md ops C Q fuel listed a → wpAnyIn (F.inRound l) n P md ops Q' fuel listed a w
  | 0, _, _, _, hw, h => ⟨h.1, hQ _ _ hw h.2⟩
  | fuel + 1, _, _, _, hw, h => ⟨fun h0 => hQ _ _ hw (h.1 h0), fun i hi => op_round l hro hd hw (fun a' w' hw' => any_round l hro hd hQ fuel _ a' w' hw') (h.2 i hi)⟩
end
/-- A region that only reads, in a round. -/
theorem quiet_round {F : Fence} {n : Nat} {P : Program} {id : Nat} {Q : Exit → Act → World → Prop} {a : Act} {w : World} {os : List Oper} (l : Nat) (hro : F.round = none) (hm : P.follows .mixedOrders = true) (hB : Region.lexB .any os.toArray = true) (hd : os.all noDefer = true)
    (h : wpQuietIn F n P os.toArray (fun w' => ∃ n, w' = w.drewN n) (fun a' => ∀ w', (∃ n, w' = w.drewN n) → Q .normal a' w') os a) : (Code.region id os.toArray true).wpIn (F.inRound l) n P Q a w := by
  simp only [Region.lexB, Bool.and_eq_true] at hB
  refine wpIn_region_any hm (any_round (F := F) (C := fun w' => ∃ n, w' = w.drewN n) (Q := fun a' => ∀ w', (∃ n, w' = w.drewN n) → Q .normal a' w') l hro (fun i o ho => ?_) (fun _ w' hw' h => h w' hw') _ _ _ _ ⟨1, rfl⟩ ?_)
  · have : o ∈ os := by
      have := Array.mem_of_getElem? ho
      simpa using this
    exact List.all_eq_true.1 hd o this
  · have := wpAnyQIn_lex (F := F) (n := n) (P := P) (C := fun w' => ∃ n, w' = w.drewN n) (md := .any) hB.1 os 0 (Array.replicate os.toArray.size false) a (by simp) (by simpa using hB.2) h
    simpa using this
end Go.Proofs.YtimfeocaghccdaaGreatDoor
namespace Go.Proofs.YtimfeocaghccdaaGreatDoor
open Go.RowKit Go.Maps Go.Shelf
attribute [local go_sem] Oper.semAt_some
set_option linter.unusedVariables false
set_option linter.unusedSimpArgs false
set_option maxRecDepth 100000

/-- Is one of them wrong? -/
def anyW (os : List O5) : Bool := os.any fun o => !o.R
theorem anyW_false {os : List O5} (h : anyW os = false) : AllR os := fun o ho => by
  have := List.any_eq_false.1 h o ho
  simpa using this
/-- Why a batch is refused. -/
def putE (most : Nat) (L os : List O5) : Int := if anyW os then 1 else if most < (putO L os).length then 6 else 0
/-- What the log has then. -/
def putL (most : Nat) (L os : List O5) : List O5 := if putE most L os = 0 then putO L os else L
theorem mis_facts {L os : List O5} (hs : SrtO L) (hr : AllR os) : SrtO (mis L os) ∧ AllR (mis L os) ∧ (∀ x ∈ mis L os, x ∉ L) ∧ putO L (mis L os) = putO L os ∧ (putO L os).length = L.length + (mis L os).length := by
  have hm : ∀ x, x ∈ mis L os ↔ x ∈ os ∧ x ∉ L := by
    intro x
    unfold mis
    rw [List.mem_filter, ddc_mem, (sortO_perm os).mem_iff]
    simp
  have h1 : SrtO (mis L os) := (ddc_sorted _ (sortO_sorted os)).filter _
  have h3 : ∀ x ∈ mis L os, x ∉ L := fun x hx => ((hm x).1 hx).2
  have h4 : putO L (mis L os) = putO L os := putF_same ocF_order hs hs fun x => by
    rw [hm]
    constructor
    · rintro (h | h)
      · exact .inl h
      · exact .inr h.1
    · rintro (h | h)
      · exact .inl h
      · by_cases e : x ∈ L
        · exact .inl e
        · exact .inr ⟨h, e⟩
  refine ⟨h1, fun x hx => hr x ((hm x).1 hx).1, h3, h4, ?_⟩
  rw [← h4, ← mrg_put hs h1 h3, mrg_len]
/-- What a call leaves that puts. -/
def PutRet (w0 w : World) (g most : Nat) (L os : List O5) (fs : List Nat) (e : Ending) (w' : World) : Prop :=
  ∃ v fs', e = .returned (.tuple #[.int .i64 (((putL most L os).length : Int) - (L.length : Int)), v, .int .i64 (putE most L os)]) ∧ OwnChs w' w.heap.size v (chs (runS L).1 (runS (putL most L os)).1 ((putL most L os).map (·.d))) ∧ Lwg w0 w' g most (putL most L os) fs' ∧ Mod fs w w' ∧ (∀ k ∈ fs', k ∈ fs ∨ w.heap.size ≤ k) ∧ ∀ b, v.ownBlock = some b → b ∉ fs'
theorem put_no {w0 w w' : World} {g most : Nat} {L os : List O5} {fs : List Nat} (hb : Below w.heap.size w w') (h : Lwg w0 w g most L fs) (he : putE most L os ≠ 0) : PutRet w0 w g most L os fs (.returned (.tuple #[.int .i64 0, .slice none 0 0, .int .i64 (putE most L os)])) w' := by
  have e : putL most L os = L := if_neg he
  refine ⟨.slice none 0 0, fs, by rw [e]; simp, ?_, by rw [e]; exact h.below hb, Mod.of_below hb, fun k hk => .inl hk, by simp [Value.ownBlock]⟩
  have : chs (runS L).1 (runS (putL most L os)).1 ((putL most L os).map (·.d)) = [] := by
    rw [e]
    unfold chs
    rw [dif_self]
    rfl
  rw [this]
  exact OwnChs.nil _ _
theorem OwnChs.base {w : World} {base base' : Nat} {v : Value} {l : List Ch} (h : OwnChs w base v l) (hb : base' ≤ base) : OwnChs w base' v l := by
  unfold OwnChs World.ownsRow at *
  refine ⟨h.1, ?_⟩
  rcases h.2 with h0 | ⟨g, cap, cur, h1, h2, h3⟩
  · exact .inl h0
  · exact .inr ⟨g, cap, cur, h1, by omega, h3⟩
/-- What lies in the boxes while new ones are gathered. -/
structure PI (w : World) (g R B N0 : Nat) (r4 r5 r6 : Value) (xs : List O5) (W : World) : Prop where
  b2 : W.heap[R]? = some (.cells #[.pointer (some ⟨g, 0, none⟩)] 24 (0, 0))
  b4 : W.heap[R + 1]? = some (.cells #[r4] 3 (0, 0))
  b5 : W.heap[R + 1 + 1]? = some (.cells #[r5] 31 (0, 0))
  b6 : W.heap[R + 1 + 1 + 1]? = some (.cells #[r6] 32 (0, 0))
  bx : ∃ v, W.heap[B]? = some (.cells #[v] 27 (0, 0)) ∧ OwnOps W N0 v xs
  bel : Below w.heap.size w W
  sz : N0 ≤ W.heap.size
theorem PI.kept {w : World} {g R B N0 : Nat} {r4 r5 r6 : Value} {xs : List O5} {W W' : World} (h : PI w g R B N0 r4 r5 r6 xs W) (hsz : W.heap.size ≤ W'.heap.size) (hk : ∀ (k : Nat) (o : Obj), W.heap[k]? = some o → o.isCells = true → W'.heap[k]? = some o) (hb : Below w.heap.size w W') : PI w g R B N0 r4 r5 r6 xs W' := by
  refine ⟨hk _ _ h.b2 rfl, hk _ _ h.b4 rfl, hk _ _ h.b5 rfl, hk _ _ h.b6 rfl, ?_, hb, Nat.le_trans h.sz hsz⟩
  obtain ⟨v, h1, h2⟩ := h.bx
  refine ⟨v, hk _ _ h1 rfl, h2.kept fun b hb => ?_⟩
  obtain ⟨cur, hc⟩ := h2.blk' hb
  rw [hc]
  exact hk _ _ hc rfl
theorem PI.below {w : World} {g R B N0 : Nat} {r4 r5 r6 : Value} {xs : List O5} {W W' : World} (h : PI w g R B N0 r4 r5 r6 xs W) (hb : Below W.heap.size W W') : PI w g R B N0 r4 r5 r6 xs W' :=
  h.kept hb.size (fun k o ho _ => (hb.block k (Array.getElem?_eq_some_iff.1 ho).1).trans ho) (h.bel.trans (hb.mono h.bel.size))
theorem PI.own {w : World} {g R B N0 : Nat} {r4 r5 r6 : Value} {xs : List O5} {W W' : World} {row : Option Nat} (h : PI w g R B N0 r4 r5 r6 xs W) (hw : w.heap.size ≤ N0) (hg : W.grownBy W' row) (hr : ∀ r, row = some r → N0 ≤ r ∧ ∃ o : Obj, W.heap[r]? = some o ∧ o.isCells = false) : PI w g R B N0 r4 r5 r6 xs W' := by
  refine h.kept hg.size (fun k o ho hc => (hg.block k (Array.getElem?_eq_some_iff.1 ho).1 (fun e => ?_)).trans ho) ?_
  · obtain ⟨_, o', h1, h2⟩ := hr k e.symm
    rw [ho] at h1
    cases h1
    rw [hc] at h2
    cases h2
  · refine h.bel.grown hg h.bel.size (fun k hk => ?_)
    have := (hr k hk).1
    omega
/-- The three answers are laid. -/
theorem PI.told {w : World} {g R B N0 : Nat} {r4 r5 r6 : Value} {xs : List O5} {W : World} (h : PI w g R B N0 r4 r5 r6 xs W) (hR : w.heap.size ≤ R) (hB : R + 1 + 1 + 1 < B) (hN : B < N0) (s4 s5 s6 : Value) :
    PI w g R B N0 s4 s5 s6 xs (((W.setCell ⟨R + 1, 0, none⟩ s4).setCell ⟨R + 1 + 1, 0, none⟩ s5).setCell ⟨R + 1 + 1 + 1, 0, none⟩ s6) := by
  have a1 : ∀ (W : World) (k b : Nat) (s : Value), k ≠ b → (W.setCell ⟨b, 0, none⟩ s).heap[k]? = W.heap[k]? := fun W k b s hk => Below.heap_setCell _ _ _ _ hk
  have h4 := Joins.block_setCell (i := 0) h.b4 s4
  have h5 := Joins.block_setCell (i := 0) ((a1 W (R + 1 + 1) (R + 1) s4 (by omega)).trans h.b5) s5
  have h6 := Joins.block_setCell (i := 0) ((a1 _ (R + 1 + 1 + 1) (R + 1 + 1) s5 (by omega)).trans ((a1 W (R + 1 + 1 + 1) (R + 1) s4 (by omega)).trans h.b6)) s6
  have hall : ∀ k, k ≠ R + 1 → k ≠ R + 1 + 1 → k ≠ R + 1 + 1 + 1 → (((W.setCell ⟨R + 1, 0, none⟩ s4).setCell ⟨R + 1 + 1, 0, none⟩ s5).setCell ⟨R + 1 + 1 + 1, 0, none⟩ s6).heap[k]? = W.heap[k]? := fun k k1 k2 k3 => (a1 _ k _ _ k3).trans ((a1 _ k _ _ k2).trans (a1 _ k _ _ k1))
  obtain ⟨v, hv1, hv2⟩ := h.bx
  refine ⟨(hall R (by omega) (by omega) (by omega)).trans h.b2, ?_, ?_, ?_, ⟨v, (hall B (by omega) (by omega) (by omega)).trans hv1, hv2.kept fun b hb => hall b ?_ ?_ ?_⟩, ?_, ?_⟩
  · rw [a1 _ _ _ _ (by omega), a1 _ _ _ _ (by omega)]
    simpa using h4
  · rw [a1 _ _ _ _ (by omega)]
    simpa using h5
  · simpa using h6
  · have := hv2.row b hb; omega
  · have := hv2.row b hb; omega
  · have := hv2.row b hb; omega
  · exact ((h.bel.setCell (p := ⟨R + 1, 0, none⟩) (by simp; omega) _).setCell (p := ⟨R + 1 + 1, 0, none⟩) (by simp; omega) _).setCell (p := ⟨R + 1 + 1 + 1, 0, none⟩) (by simp; omega) _
  · have := h.sz
    simp [World.setCell]
    exact this
theorem setCell_id {w : World} {b i : Nat} {v : Value} (h : w.cell? ⟨b, i, none⟩ = some v) : w.setCell ⟨b, i, none⟩ v = w := by
  obtain ⟨cs, t, z, hb⟩ := cell_block h
  have hb' : w.heap[b]? = some (.cells cs t z) := hb
  have hi : cs[i]? = some v := by
    have := cell_of_row w b i cs t z hb'
    rw [h] at this
    exact this.symm
  have hset : cs.setIfInBounds i v = cs := by
    apply Array.ext_getElem?
    intro k
    rw [Array.getElem?_setIfInBounds]
    split
    · rename_i e
      subst e
      split
      · exact hi.symm
      · rename_i hlt
        rw [Array.getElem?_eq_none (by omega)]
    · rfl
  have hheap : (w.setCell ⟨b, i, none⟩ v).heap = w.heap := by
    apply Array.ext_getElem?
    intro k
    by_cases e : k = b
    · subst e
      rw [Joins.block_setCell hb' v, hset, hb']
    · exact Below.heap_setCell _ _ _ _ e
  cases w
  simp only [World.setCell] at hheap ⊢
  rw [hheap]
theorem four_new (w : World) (a b c d : Obj) : let W := (((w.alloc a).alloc b).alloc c).alloc d
    W.heap[w.heap.size]? = some a ∧ W.heap[w.heap.size + 1]? = some b ∧ W.heap[w.heap.size + 1 + 1]? = some c ∧ W.heap[w.heap.size + 1 + 1 + 1]? = some d ∧ Below w.heap.size w W := by
  have h1 := heap_alloc_new w a
  have h2 := heap_alloc_new (w.alloc a) b
  have h3 := heap_alloc_new ((w.alloc a).alloc b) c
  have h4 := heap_alloc_new (((w.alloc a).alloc b).alloc c) d
  simp only [World.size_alloc] at h2 h3 h4
  have k : ∀ (W : World) (o : Obj) (i : Nat) (x : Obj), W.heap[i]? = some x → (W.alloc o).heap[i]? = some x := fun W o i x hx => (Below.heap_alloc W o i (Array.getElem?_eq_some_iff.1 hx).1).trans hx
  refine ⟨k _ _ _ _ (k _ _ _ _ (k _ _ _ _ h1)), k _ _ _ _ (k _ _ _ _ h2), k _ _ _ _ h3, h4, ?_⟩
  exact ((((Below.refl _ w).alloc (Nat.le_refl _) a).alloc (by simp) b).alloc (by simp; omega) c).alloc (by simp; omega) d
/-- Nothing is inserted. -/
theorem insert_none (g : Nat) (A : Option Addr) (c : Nat) (w : World) : Calls Tryz.prog 34 #[.pointer (some ⟨g, 0, none⟩), .slice A 0 c] w (fun e w' => e = .returned (.slice none 0 0) ∧ w' = w) := by
  go_enter Tryz.func34, Tryz.ntmps34
  go_wp2
  go_ret
  exact ⟨rfl, rfl⟩
theorem insert_all (w0 : World) (hE : Env w0) (g most : Nat) (L : List O5) (fs : List Nat) (A : Option Addr) (c : Nat) (F : List O5) (hFs : SrtO F) (hFr : AllR F) (hFd : ∀ x ∈ F, x ∉ L) (hmost : L.length + F.length ≤ most) (hn : L.length + F.length ≤ 800) (w : World) (h : Lwg w0 w g most L fs) (hO : Ops w A c F) :
    Calls Tryz.prog 34 #[.pointer (some ⟨g, 0, none⟩), .slice A F.length c] w (InsRet w0 w g most L (putO L F) fs) := by
  by_cases hF : F = []
  · subst hF
    refine (insert_none g A c w).mono ?_
    rintro e w' ⟨rfl, rfl⟩
    have e1 : putO L [] = L := rfl
    rw [e1]
    refine ⟨.slice none 0 0, fs, rfl, ?_, h, Mod.refl _ _, fun k hk => .inl hk, by simp [Value.ownBlock]⟩
    have : chs (runS L).1 (runS L).1 (L.map (·.d)) = [] := by
      unfold chs
      rw [dif_self]
      rfl
    rw [this]
    exact OwnChs.nil _ _
  · exact insert_any w0 hE g most L fs A c F hF hFs hFr hFd hmost hn w h hO
theorem put_results (tmps : Array Value) (a b c : Nat) (W : World) (r4 r6 : Int) (A : Option Addr) (n k : Nat) (h4 : tmps.getD 4 undef = .pointer (some ⟨a, 0, none⟩)) (h5 : tmps.getD 5 undef = .pointer (some ⟨b, 0, none⟩)) (h6 : tmps.getD 6 undef = .pointer (some ⟨c, 0, none⟩))
    (c4 : W.cell? ⟨a, 0, none⟩ = some (.int .i64 r4)) (c5 : W.cell? ⟨b, 0, none⟩ = some (.slice A n k)) (c6 : W.cell? ⟨c, 0, none⟩ = some (.int .i64 r6)) :
    (results Tryz.f10 tmps).run Tryz.prog W = .ok (.tuple #[.int .i64 r4, .slice A n k, .int .i64 r6]) W := by
  simp only [results, show Tryz.f10.results = #[.cell 4 3, .cell 5 31, .cell 6 32] from rfl]
  have h4' : tmps[4]?.getD undef = .pointer (some ⟨a, 0, none⟩) := by simpa using h4
  have h5' : tmps[5]?.getD undef = .pointer (some ⟨b, 0, none⟩) := by simpa using h5
  have h6' : tmps[6]?.getD undef = .pointer (some ⟨c, 0, none⟩) := by simpa using h6
  simp [Sem.run_bind, Result.andThen, h4', h5', h6']
  go_simp
theorem cell_set_same {w : World} {a : Addr} {u : Value} (v : Value) (h : w.cell? a = some u) : (w.setCell a v).cell? a = some v := World.cell?_setCell_same' _ _ _ (by rw [h]; rfl)
theorem cell_set_other {w : World} {a b : Addr} (v : Value) (hne : a.block ≠ b.block) : (w.setCell a v).cell? b = w.cell? b := World.cell?_of_block (Below.heap_setCell _ _ _ _ (fun e => hne e.symm))
set_option maxHeartbeats 1000000 in
theorem put_any (w0 : World) (hE : Env w0) (g most : Nat) (L : List O5) (fs : List Nat) (A : Option Addr) (c : Nat) (os : List O5) (hm : ∀ o ∈ os, o.l.length ≤ maxLen) (hn : L.length + os.length ≤ 800) (w : World) (h : Lwg w0 w g most L fs) (hO : Ops w A c os) :
    Calls Tryz.prog 10 #[.pointer (some ⟨g, 0, none⟩), .slice A os.length c] w (PutRet w0 w g most L os fs) := by
  refine (callsIn_wide (n := 6)).1 ?_
  refine callsIn_of_wp_marks Tryz.func10 rfl trivial ?_ rfl
  refine wpIn_wide.2 ?_
  simp only [Tryz.ntmps10, List.size_toArray, List.length_cons, List.length_nil, Nat.reduceAdd, Nat.reduceSub, Array.replicate_succ, Array.replicate_zero, List.push_toArray, List.append_toArray, List.nil_append, List.cons_append]
  have HL := hide h
  have HO := hide hO
  have HE := hide (hE.below h.bel)
  have HE0 := hide hE
  have HMx := hide hm
  clear h hO hE hm
  go_wp2_with fail
  obtain ⟨q2, q4, q5, q6, qB⟩ := four_new w (.cells #[.pointer (some ⟨g, 0, none⟩)] 24) (.cells #[.int .i64 0] 3) (.cells #[.slice none 0 0] 31) (.cells #[.int .i64 0] 32)
  generalize (((w.alloc (.cells #[.pointer (some ⟨g, 0, none⟩)] 24)).alloc (.cells #[.int .i64 0] 3)).alloc (.cells #[.slice none 0 0] 31)).alloc (.cells #[.int .i64 0] 32) = w4 at q2 q4 q5 q6 qB ⊢
  have KH : Calls Tryz.prog 30 #[.slice A os.length c, .func (.func 31) #[] #[]] w4 (BoolRet (anyW os) w4) := hasf_any A c os (by omega) HMx.out w4 (HE.out.below qB) (HO.out.below qB)
  refine KH.mono ?_
  rintro e w5 ⟨rfl, hb5⟩
  have p2 := (hb5.block _ (Array.getElem?_eq_some_iff.1 q2).1).trans q2
  have p4 := (hb5.block _ (Array.getElem?_eq_some_iff.1 q4).1).trans q4
  have p5 := (hb5.block _ (Array.getElem?_eq_some_iff.1 q5).1).trans q5
  have p6 := (hb5.block _ (Array.getElem?_eq_some_iff.1 q6).1).trans q6
  have B5 := hide (qB.trans (hb5.mono qB.size))
  clear q2 q4 q5 q6 qB hb5 KH
  cases hw : anyW os with
  | true =>
    have HP := hide (show putE most L os = 1 by unfold putE; rw [hw]; rfl)
    have c4 := cell_of_row w5 _ 0 _ _ (0, 0) p4
    have c5 := cell_of_row w5 _ 0 _ _ (0, 0) p5
    have c6 := cell_of_row w5 _ 0 _ _ (0, 0) p6
    have f4 := Joins.unfrozen_of_block p4 0
    have f5 := Joins.unfrozen_of_block p5 0
    have f6 := Joins.unfrozen_of_block p6 0
    simp at c4 c5 c6
    clear hw
    go_wp2_with fail
    have r4 := cell_set_same (.int .i64 0) c4
    have r5 := cell_set_same (.slice none 0 0) ((cell_set_other (a := ⟨w.heap.size + 1, 0, none⟩) (b := ⟨w.heap.size + 1 + 1, 0, none⟩) (.int .i64 0) (by simp)).trans c5)
    have r6 := cell_set_same (.int .i64 1) ((cell_set_other (a := ⟨w.heap.size + 1 + 1, 0, none⟩) (b := ⟨w.heap.size + 1 + 1 + 1, 0, none⟩) (.slice none 0 0) (by simp)).trans ((cell_set_other (a := ⟨w.heap.size + 1, 0, none⟩) (b := ⟨w.heap.size + 1 + 1 + 1, 0, none⟩) (.int .i64 0) (by simp)).trans c6))
    refine ⟨_, put_results _ (w.heap.size + 1) (w.heap.size + 1 + 1) (w.heap.size + 1 + 1 + 1) _ 0 1 none 0 0 rfl rfl rfl ?_ ?_ r6, ?_⟩
    · rw [cell_set_other _ (by simp; omega), cell_set_other _ (by simp)]
      exact r4
    · rw [cell_set_other _ (by simp)]
      exact r5
    · have hne : putE most L os ≠ 0 := by rw [HP.out]; decide
      have := put_no (w' := ((w5.setCell ⟨w.heap.size + 1, 0, none⟩ (.int .i64 0)).setCell ⟨w.heap.size + 1 + 1, 0, none⟩ (.slice none 0 0)).setCell ⟨w.heap.size + 1 + 1 + 1, 0, none⟩ (.int .i64 1)) (((B5.out.setCell (p := ⟨w.heap.size + 1, 0, none⟩) (by simp) _).setCell (p := ⟨w.heap.size + 1 + 1, 0, none⟩) (by simp; omega) _).setCell (p := ⟨w.heap.size + 1 + 1 + 1, 0, none⟩) (by simp; omega) _) HL.out hne
      rw [HP.out] at this
      exact this
  | false =>
    have HR := hide (anyW_false hw)
    clear hw
    have Bq := (Below.refl w5.heap.size w5).alloc (Nat.le_refl _) (.cells #[.slice none 0 0] 27)
    have p2' := (Bq.block _ (Array.getElem?_eq_some_iff.1 p2).1).trans p2
    have p4' := (Bq.block _ (Array.getElem?_eq_some_iff.1 p4).1).trans p4
    have p5' := (Bq.block _ (Array.getElem?_eq_some_iff.1 p5).1).trans p5
    have p6' := (Bq.block _ (Array.getElem?_eq_some_iff.1 p6).1).trans p6
    have p7' := heap_alloc_new w5 (.cells #[.slice none 0 0] 27)
    have B6 := hide (B5.out.trans (Bq.mono B5.out.size))
    have l6 : w.heap.size + 1 + 1 + 1 < w5.heap.size := (Array.getElem?_eq_some_iff.1 p6).1
    have c2 := cell_of_row _ _ 0 _ _ (0, 0) p2'
    simp at c2
    clear Bq p2 p4 p5 p6
    go_upto_region 4 with (fail)
    generalize w5.alloc (.cells #[.slice none 0 0] 27) = w6 at p2' p4' p5' p6' p7' B6 c2 ⊢
    go_wp2_with fail
    refine (missing_any g A os.length c w6).mono ?_
    rintro e w7 ⟨rfl, hw7⟩
    go_wp2_with fail
    obtain ⟨⟨hs, hr, hl, gt, v, ft, M, T, hfs⟩, hfs0, hbel⟩ := HL.out
    obtain ⟨Av, cv, rfl, -⟩ := M.own.ops
    have hbo := heap_alloc_new (w6.alloc (.cells #[.pointer (some ⟨g, 0, none⟩)] 24)) (.cells #[.slice A os.length c] 27)
    have hbl0 := heap_alloc_new w6 (.cells #[.pointer (some ⟨g, 0, none⟩)] 24)
    have Bq := ((Below.refl w6.heap.size w6).alloc (Nat.le_refl _) (.cells #[.pointer (some ⟨g, 0, none⟩)] 24)).alloc (by simp) (.cells #[.slice A os.length c] 27)
    have hbl1 := (Below.heap_alloc (w6.alloc (.cells #[.pointer (some ⟨g, 0, none⟩)] 24)) (.cells #[.slice A os.length c] 27) w6.heap.size (by simp)).trans hbl0
    have hsz7 : ((w6.alloc (.cells #[.pointer (some ⟨g, 0, none⟩)] 24)).alloc (.cells #[.slice A os.length c] 27)).heap.size = w6.heap.size + 1 + 1 := by simp
    rw [World.size_alloc] at hbo
    rw [← hw7] at hbo Bq hbl1 hsz7 ⊢
    clear hw7 hbl0
    have B7 := hide (B6.out.trans (Bq.mono B6.out.size))
    have l7 : w5.heap.size < w6.heap.size := (Array.getElem?_eq_some_iff.1 p7').1
    have P0 := hide (show PI w g w.heap.size w5.heap.size w7.heap.size (.int .i64 0) (.slice none 0 0) (.int .i64 0) [] w7 from
      ⟨(Bq.block _ (Array.getElem?_eq_some_iff.1 p2').1).trans p2', (Bq.block _ (Array.getElem?_eq_some_iff.1 p4').1).trans p4', (Bq.block _ (Array.getElem?_eq_some_iff.1 p5').1).trans p5', (Bq.block _ (Array.getElem?_eq_some_iff.1 p6').1).trans p6', ⟨_, (Bq.block _ l7).trans p7', OwnOps.nil _ _⟩, B7.out, Nat.le_refl _⟩)
    have hB7 := (Bq.block _ l7).trans p7'
    have szw7 := B7.out.size
    have cbo := cell_of_row w7 _ 0 _ _ (0, 0) hbo
    have cbl := cell_of_row w7 _ 0 _ _ (0, 0) hbl1
    simp at cbo cbl
    have HM := hide M
    have HF := hide (mis_facts hs HR.out)
    have hml : (mis L os).length ≤ os.length := by
      unfold mis
      refine Nat.le_trans (List.length_filter_le _ _) ?_
      refine Nat.le_trans (ddc_len _) ?_
      rw [sortO_length]
      exact Nat.le_refl _
    have KI := miss_stops 5 (by omega) (w6.heap.size + 1) w6.heap.size w5.heap.size g gt most (.slice Av L.length cv) L A c os hs (by omega) (by omega) HR.out w7 cbo cbl hB7 (HO.out.below B7.out) (HM.out.below B7.out) (by omega)
    have HKI := hide KI
    clear KI M T hs hr hfs hfs0 hbel p2' p4' p5' p6' p7' Bq hbo hbl1 cbo cbl hB7 c2
    refine (wpIn_wide (n := 6)).1 ?_
    refine wpIn_rangeFunc_ownH rfl (by omega) (gf := 53) (lb := #[.pointer (some ⟨w6.heap.size + 1, 0, none⟩), .pointer (some ⟨w6.heap.size, 0, none⟩)]) rfl trivial (enters_of Tryz.func53 (by kernel_rfl) rfl) HKI.out KpF.trans (fun W l o o' _ hl ho _ => KpF.put W l o o' hl ho) (Below.refl _ _) (fun _ => rfl)
      (fun (pre : List RO) W => PI w g w.heap.size w5.heap.size w7.heap.size (.int .i64 0) (.slice none 0 0) (.int .i64 0) (pre.map fun x : RO => x.1) W ∧ L.length + pre.length ≤ most)
      (fun cd pre W => (cd = .ret ∧ most < L.length + pre.length) ∧ ∃ xs, PI w g w.heap.size w5.heap.size w7.heap.size (.int .i64 0) (.slice none 0 0) (.int .i64 6) xs W)
      (fun s X Y row hs hg hr => ⟨hs.1.own szw7 hg hr, hs.2⟩)
      (fun cd s X Y row hs hg hr => by obtain ⟨h1, xs, h2⟩ := hs; exact ⟨h1, xs, h2.own szw7 hg hr⟩)
      ⟨P0.out, by simpa using hl⟩
      (fun x a' W => ∃ Bx, w7.heap.size ≤ Bx ∧ W.heap[Bx]? = some (.cells #[.int .i64 x.1.n, .int .i64 x.1.r, .int .i64 x.1.d, .int .i64 x.1.t, .string (bs x.1.l)] 50 (0, 0)) ∧ a' = { tmps := #[.pointer (some ⟨g, 0, none⟩), .slice A os.length c, .pointer (some ⟨w.heap.size, 0, none⟩), undef, .pointer (some ⟨w.heap.size + 1, 0, none⟩), .pointer (some ⟨w.heap.size + 1 + 1, 0, none⟩), .pointer (some ⟨w.heap.size + 1 + 1 + 1, 0, none⟩), .pointer (some ⟨w5.heap.size, 0, none⟩), .pointer (some ⟨Bx, 0, none⟩), .slice A os.length c, .bool false, .pointer (some ⟨g, 0, none⟩), .slice A os.length c, .func (.func 53) #[] #[.pointer (some ⟨w6.heap.size + 1, 0, none⟩), .pointer (some ⟨w6.heap.size, 0, none⟩)], .agg #[.int .i64 x.1.n, .int .i64 x.1.r, .int .i64 x.1.d, .int .i64 x.1.t, .string (bs x.1.l)], undef, undef, undef, undef, undef, undef, undef, undef, undef, undef, undef, undef, undef, undef, undef, undef, undef, undef, undef, undef, undef, undef, undef, undef, undef, undef], defers := [] })
      (fun x a' _ X Y row hs hg hr => by
        obtain ⟨Bx, e1, e2, e3⟩ := hs
        refine ⟨Bx, e1, (hg.block Bx (Array.getElem?_eq_some_iff.1 e2).1 (fun e => ?_)).trans e2, e3⟩
        obtain ⟨_, o', h1, h2⟩ := hr Bx e.symm
        rw [e2] at h1
        cases h1
        cases h2)
      ?assign ?body ?done ?stop
    case assign =>
      rintro l pre x W K ⟨hi, hle⟩ hK
      simp only [RO.vs]
      have Bz := (Below.refl W.heap.size W).alloc (Nat.le_refl _) (.cells #[.int .i64 x.1.n, .int .i64 x.1.r, .int .i64 x.1.d, .int .i64 x.1.t, .string (bs x.1.l)] 50)
      have HK := hide (hK { tmps := #[.pointer (some ⟨g, 0, none⟩), .slice A os.length c, .pointer (some ⟨w.heap.size, 0, none⟩), undef, .pointer (some ⟨w.heap.size + 1, 0, none⟩), .pointer (some ⟨w.heap.size + 1 + 1, 0, none⟩), .pointer (some ⟨w.heap.size + 1 + 1 + 1, 0, none⟩), .pointer (some ⟨w5.heap.size, 0, none⟩), .pointer (some ⟨W.heap.size, 0, none⟩), .slice A os.length c, .bool false, .pointer (some ⟨g, 0, none⟩), .slice A os.length c, .func (.func 53) #[] #[.pointer (some ⟨w6.heap.size + 1, 0, none⟩), .pointer (some ⟨w6.heap.size, 0, none⟩)], .agg #[.int .i64 x.1.n, .int .i64 x.1.r, .int .i64 x.1.d, .int .i64 x.1.t, .string (bs x.1.l)], undef, undef, undef, undef, undef, undef, undef, undef, undef, undef, undef, undef, undef, undef, undef, undef, undef, undef, undef, undef, undef, undef, undef, undef, undef, undef], defers := [] } _ ((KeepsOthers.alloc W _).from _) (KpF.below Bz) ⟨hi.below Bz, hle⟩ ⟨W.heap.size, hi.sz, heap_alloc_new W _, rfl⟩)
      clear hK hi Bz
      gi_wp2
      exact HK.out
    case body =>
      rintro l pre x a' W hl' ⟨r, hr⟩ ⟨hP, hle⟩ ⟨Bx, hBx, bX, rfl⟩ hlt
      obtain ⟨v, hvb, hvo⟩ := hP.bx
      obtain ⟨Af, cf, rfl, -⟩ := hvo.ops
      have hM := HM.out.below hP.bel
      have g0 := hM.cell0
      have g1 := hM.cell1
      have c2 := cell_of_row W _ 0 _ _ (0, 0) hP.b2
      have c4 := cell_of_row W _ 0 _ _ (0, 0) hP.b4
      have c5 := cell_of_row W _ 0 _ _ (0, 0) hP.b5
      have c6 := cell_of_row W _ 0 _ _ (0, 0) hP.b6
      have cf0 := cell_of_row W _ 0 _ _ (0, 0) hvb
      have f4 := Joins.unfrozen_of_block hP.b4 0
      have f5 := Joins.unfrozen_of_block hP.b5 0
      have f6 := Joins.unfrozen_of_block hP.b6 0
      have ff := Joins.unfrozen_of_block hvb 0
      have x4 := cell_of_row W _ 4 _ _ (0, 0) bX
      have fx := Joins.unfrozen_of_block bX 4
      rw [List.length_map] at cf0
      simp at c2 c4 c5 c6 cf0 x4
      have HP := hide hP
      have HVO := hide hvo
      have HVB := hide hvb
      have HBX := hide bX
      have hmx : Tryz.prog.follows .mixedOrders = true := by kernel_rfl
      clear hP hvo hvb bX hM
      have hwr : IntKind.i64.wrap ((L.length : Int) + (pre.length : Int)) = (L.length : Int) + (pre.length : Int) := by rw [IntKind.wrap_i64]; omega
      by_cases heq : L.length + pre.length = most
      · have q1 : (((L.length : Int) + (pre.length : Int)) == (most : Int)) = true := by simp; omega
        gi_wp2
        refine quiet_round (F := Fence.wide) l rfl (by kernel_rfl) (by kernel_rfl) (by kernel_rfl) ?_
        repeat (quiet_step_in (fail))
        refine wpQuietIn_nil ?_
        intro _ hw'
        obtain ⟨nq, hw''⟩ := hw'
        subst hw''
        gi_wp2
        refine ⟨⟨by simp [World.setCell, World.drewN], fun k o _ hk ho => ?_⟩, ⟨rfl, by simp; omega⟩, _, (HP.out.below (belowD' (Below.refl _ _) nq)).told (Nat.le_refl _) (by omega) (by omega) _ _ _⟩
        have a1 : ∀ (V : World) (b : Nat) (s : Value), k ≠ b → (V.setCell ⟨b, 0, none⟩ s).heap[k]? = V.heap[k]? := fun V b s hk => Below.heap_setCell _ _ _ _ hk
        have hcell : ∀ (b : Nat) (cs : Array Value) (t : TypeId), W.heap[b]? = some (.cells cs t (0, 0)) → k ≠ b := fun b cs t hb e => by
          subst e
          rw [hb] at hk
          cases hk
          cases ho
        rw [a1 _ _ _ (hcell _ _ _ HP.out.b6), a1 _ _ _ (hcell _ _ _ HP.out.b5), a1 _ _ _ (hcell _ _ _ HP.out.b4)]
        exact hk
      · have q1 : (((L.length : Int) + (pre.length : Int)) == (most : Int)) = false := by simp; omega
        have hx48 : x.1.l.length ≤ 281474976710656 := by
          have h1 := x.2
          unfold O5.R opR at h1
          simp only [Bool.and_eq_true] at h1
          have := right_len h1.2
          omega
        gi_wp2
        refine quiet_round (F := Fence.wide) l rfl (by kernel_rfl) (by kernel_rfl) (by kernel_rfl) ?_
        repeat (quiet_step_in (fail))
        refine wpQuietIn_nil ?_
        intro _ hw'
        obtain ⟨nq, hw''⟩ := hw'
        subst hw''
        gi_wp2_with (fail)
        refine ⟨trivial, (CallsIn.inRound l (callsIn_wide.2 (clone_any x.1.l (W.drewN nq) hx48))).mono ?_⟩
        rintro e w8 ⟨rfl, hb8⟩
        have hb8' : Below W.heap.size W w8 := ⟨hb8.os, hb8.tape, hb8.output, hb8.size, hb8.block⟩
        have P8 := hide (HP.out.below hb8')
        have bX8 := (hb8'.block _ (Array.getElem?_eq_some_iff.1 HBX.out).1).trans HBX.out
        have vb8 := (hb8'.block _ (Array.getElem?_eq_some_iff.1 HVB.out).1).trans HVB.out
        have vo8 := hide (HVO.out.below hb8')
        have y0 := cell_of_row w8 _ 0 _ _ (0, 0) bX8
        have y1 := cell_of_row w8 _ 1 _ _ (0, 0) bX8
        have y2 := cell_of_row w8 _ 2 _ _ (0, 0) bX8
        have y3 := cell_of_row w8 _ 3 _ _ (0, 0) bX8
        have y4 := cell_of_row w8 _ 4 _ _ (0, 0) bX8
        have fy := Joins.unfrozen_of_block bX8 4
        have cf8 := cell_of_row w8 _ 0 _ _ (0, 0) vb8
        have ff8 := Joins.unfrozen_of_block vb8 0
        rw [List.length_map] at cf8
        simp at y0 y1 y2 y3 y4 cf8
        have B8 := hide hb8'
        have id8 := setCell_id y4
        clear hb8 hb8' g0 g1 c2 c4 c5 c6 cf0 f4 f5 f6 ff x4 fx q1 hwr
        have vo8' := vo8.out
        rw [List.length_map] at vo8'
        have VO := hide vo8'
        have Bz := (Below.refl w8.heap.size w8).alloc (Nat.le_refl _) (.cells #[.int .i64 x.1.n, .int .i64 x.1.r, .int .i64 x.1.d, .int .i64 x.1.t, .string (bs x.1.l)] 50)
        have VZ := hide (vo8'.below Bz)
        have NZ := hide (ops_new w8 x.1)
        have PZ := hide (P8.out.below Bz)
        have vbz := (Bz.block _ (Array.getElem?_eq_some_iff.1 vb8).1).trans vb8
        have szz := PZ.out.sz
        have hl9 : (pre.map fun x : RO => x.1).length + [x.1].length ≤ 1000000 := by rw [List.length_map, List.length_singleton]; omega
        have BWZ := hide (B8.out.trans (Bz.mono B8.out.size))
        clear vo8' vo8 Bz vb8 bX8
        gi_wp2_with (gi_at_builtin; refine wpListIn_append_ops _ rfl _ _ rfl w7.heap.size _ (pre.map fun x : RO => x.1) rfl VZ.out (some ⟨w8.heap.size, 0, none⟩) 1 [x.1] rfl NZ.out (by intro h; cases h) hl9 szz ?_)
        intro A9 c9 w9 hw9 hg9 ho9
        have lB : w5.heap.size < w8.heap.size := World.block_lt_of_cell? w8 _ cf8
        have hgB : w9.heap[w5.heap.size]? = some (.cells #[.slice Af (pre.map fun x : RO => x.1).length cf] 27 (0, 0)) := (hg9.block _ (by simp; omega) (fun e => by have := VO.out.row _ e.symm; omega)).trans vbz
        have cf9 := cell_of_row w9 _ 0 _ _ (0, 0) hgB
        have ff9 := Joins.unfrozen_of_block hgB 0
        simp at cf9
        have HW9 := hide (show OwnOps w9 w7.heap.size (.slice A9 (pre.length + 1) c9) ((pre ++ [x]).map fun x : RO => x.1) by
          have e : ((pre ++ [x]).map fun x : RO => x.1) = pre.unattach ++ [x.1] := by rw [List.map_append]; rfl
          rw [e, hsz7]
          exact hw9)
        have HO9 := hide ho9
        have HG9 := hide hg9
        have HGB := hide hgB
        clear hw9 hg9 ho9 hgB vbz y0 y1 y2 y3 y4 fy cf8 ff8 id8
        gi_wp2
        -- what lies behind the round
        have hrow : ∀ k, (Value.slice Af pre.length cf).ownBlock = some k → w7.heap.size ≤ k := fun k hk => VO.out.row k hk
        have hs8 := B8.out.size
        have hs9 : w8.heap.size + 1 ≤ w9.heap.size := by have := HG9.out.size; simpa using this
        have hsame : ∀ k, k < W.heap.size → k ≠ w5.heap.size → (Value.slice Af pre.length cf).ownBlock ≠ some k → (w9.setCell ⟨w5.heap.size, 0, none⟩ (.slice A9 (pre.length + 1) c9)).heap[k]? = W.heap[k]? := fun k hk hne hr => by
          rw [Below.heap_setCell _ _ _ _ hne, HG9.out.block k (by simp; omega) (fun e => hr e.symm)]
          exact BWZ.out.block k hk
        have hown : ∀ k, (Value.slice Af pre.length cf).ownBlock = some k → ∃ cs t z, W.heap[k]? = some (.cells cs t z) := fun k hk => by
          obtain ⟨cur, hc⟩ := HVO.out.blk' (b := k) (by rw [List.length_map]; exact hk)
          exact ⟨cur, _, _, hc⟩
        have hbox := Joins.block_setCell (i := 0) HGB.out (.slice A9 (pre.length + 1) c9)
        have hbox' : (w9.setCell ⟨w5.heap.size, 0, none⟩ (.slice A9 (pre.length + 1) c9)).heap[w5.heap.size]? = some (.cells #[.slice A9 (pre.length + 1) c9] 27 (0, 0)) := by simpa using hbox
        have hszE : (w9.setCell ⟨w5.heap.size, 0, none⟩ (.slice A9 (pre.length + 1) c9)).heap.size = w9.heap.size := by simp [World.setCell]
        have hvW : W.heap[w5.heap.size]? = some (.cells #[.slice Af pre.length cf] 27 (0, 0)) := by
          have := HVB.out
          rwa [List.length_map] at this
        refine ⟨⟨by rw [hszE]; omega, fun k o hN hk ho => ?_⟩, ⟨by rw [hszE]; omega, fun N hN hF => ⟨⟨_, hbox', fun k hk => ?_⟩, fun k hk hne o ho hc => ?_⟩⟩, ⟨?_, ?_, ?_, ?_, ⟨_, hbox', HW9.out.kept fun b hb => Below.heap_setCell _ _ _ _ (show b ≠ w5.heap.size from fun e => by have h1 := HW9.out.row b hb; rw [e] at h1; omega)⟩, ?_, by rw [hszE]; have := HP.out.sz; omega⟩, ?_⟩
        · have hlk : k < W.heap.size := (Array.getElem?_eq_some_iff.1 hk).1
          rw [hsame k hlk (by omega) (fun e => by
            obtain ⟨cs, t, z, hc⟩ := hown k e
            rw [hk] at hc
            cases hc
            cases ho)]
          exact hk
        · obtain ⟨v', hv1, hv2⟩ := hF
          rw [hvW] at hv1
          simp at hv1
          subst hv1
          rcases HO9.out with e | e
          · rw [e] at hk
            exact hv2 k hk
          · rw [e] at hk
            injection hk with hk
            omega
        · obtain ⟨v', hv1, hv2⟩ := hF
          rw [hvW] at hv1
          simp at hv1
          subst hv1
          rw [hsame k (by omega) hne (fun e => by have := hv2 k e; omega)]
          exact ho
        · rw [hsame _ (Array.getElem?_eq_some_iff.1 HP.out.b2).1 (by omega) (fun e => by have := hrow _ e; omega)]
          exact HP.out.b2
        · rw [hsame _ (Array.getElem?_eq_some_iff.1 HP.out.b4).1 (by omega) (fun e => by have := hrow _ e; omega)]
          exact HP.out.b4
        · rw [hsame _ (Array.getElem?_eq_some_iff.1 HP.out.b5).1 (by omega) (fun e => by have := hrow _ e; omega)]
          exact HP.out.b5
        · rw [hsame _ (Array.getElem?_eq_some_iff.1 HP.out.b6).1 (by omega) (fun e => by have := hrow _ e; omega)]
          exact HP.out.b6
        · have hb9 := PZ.out.bel.grown HG9.out PZ.out.bel.size (fun k hk => by have := hrow k hk; omega)
          exact hb9.setCell (p := ⟨w5.heap.size, 0, none⟩) (by simp; omega) _
        · simp
          omega
    case done =>
      rintro D xs W hD hS ⟨hP, hle⟩ hK
      rw [hS] at hP
      obtain ⟨v, hvb, hvo⟩ := hP.bx
      obtain ⟨Af, cf, rfl, hops⟩ := hvo.ops
      have c2 := cell_of_row W _ 0 _ _ (0, 0) hP.b2
      have c4 := cell_of_row W _ 0 _ _ (0, 0) hP.b4
      have c5 := cell_of_row W _ 0 _ _ (0, 0) hP.b5
      have c6 := cell_of_row W _ 0 _ _ (0, 0) hP.b6
      have cf0 := cell_of_row W _ 0 _ _ (0, 0) hvb
      have f4 := Joins.unfrozen_of_block hP.b4 0
      have f5 := Joins.unfrozen_of_block hP.b5 0
      have f6 := Joins.unfrozen_of_block hP.b6 0
      simp at c2 c4 c5 c6 cf0
      have hxl : xs.length = (mis L os).length := by rw [← hS, List.length_map]
      have HP := hide hP
      have HOP := hide hops
      have LW := hide (HL.out.below hP.bel)
      have hlm : L.length + (mis L os).length ≤ most := by omega
      have HPE := hide (show putE most L os = 0 by
        unfold putE
        have h1 : anyW os = false := List.any_eq_false.2 (fun o ho => by rw [HR.out o ho]; decide)
        rw [h1, if_neg (by decide), if_neg (by rw [HF.out.2.2.2.2]; omega)])
      have HPL := hide (show putL most L os = putO L os by unfold putL; rw [if_pos HPE.out])
      have hms : (mis L os).length ≤ 800 - L.length := by omega
      have KI := hide (fun W' hL' hO' => insert_all w0 HE0.out g most L fs Af cf (mis L os) HF.out.1 HF.out.2.1 HF.out.2.2.1 hlm (by omega) W' hL' hO')
      have LD := hide (LW.out.below (Below.refl _ W).drew)
      have OD := hide (HOP.out.below (Below.refl _ W).drew)
      have HNM := hide (show (putO L os).length = L.length + (mis L os).length from HF.out.2.2.2.2)
      rw [HF.out.2.2.2.1] at KI
      unfold InsRet at KI
      generalize mis L os = F at *
      have hS0 := And.intro c2 cf0
      have LLT := hide LW.out.lg.lt
      have HFS := hide (show ∀ k ∈ fs, k < w.heap.size from HL.out.lg.lt)
      have HVB := hide hvb
      clear hP hvb hvo hops hS hxl
      go_wp2_with fail
      go_region_held3 (fun w' => w'.cell? ⟨w.heap.size, 0, none⟩ = some (.pointer (some ⟨g, 0, none⟩)) ∧ w'.cell? ⟨w5.heap.size, 0, none⟩ = some (.slice Af F.length cf))
        (first | with_reducible exact hS1 | with_reducible exact hS0 | (refine And.intro ?_ ?_ <;> (repeat rw [cell_set_other _ (by dsimp only; omega)]) <;> first | exact hS1.1 | exact hS1.2) | go_keep)
        (first
          | (go_at_call 34
             (with_reducible refine (KI.out _ LD.out OD.out).mono ?_)
             rintro e w10 ⟨v10, fs10, rfl, hch, hlw, hmod, hfs10, hdis⟩
             obtain ⟨A10, c10, rfl⟩ := hch.form
             have hmod' : Mod fs W w10 := ⟨hmod.os, hmod.tape, hmod.output, hmod.size, hmod.block⟩
             have kp : ∀ (k : Nat) (o : Obj), w.heap.size ≤ k → W.heap[k]? = some o → w10.heap[k]? = some o := fun k o hk ho => (hmod'.block k (Array.getElem?_eq_some_iff.1 ho).1 (fun h => by have := HFS.out k h; omega)).trans ho
             have z2 := kp _ _ (Nat.le_refl _) HP.out.b2
             have z4 := kp _ _ (by omega) HP.out.b4
             have z5 := kp _ _ (by omega) HP.out.b5
             have z6 := kp _ _ (by omega) HP.out.b6
             have zf := kp _ _ (by omega) HVB.out
             have y2 := cell_of_row w10 _ 0 _ _ (0, 0) z2
             have yf := cell_of_row w10 _ 0 _ _ (0, 0) zf
             have y4 := cell_of_row w10 _ 0 _ _ (0, 0) z4
             have y5 := cell_of_row w10 _ 0 _ _ (0, 0) z5
             have y6 := cell_of_row w10 _ 0 _ _ (0, 0) z6
             have g4 := Joins.unfrozen_of_block z4 0
             have g5 := Joins.unfrozen_of_block z5 0
             have g6 := Joins.unfrozen_of_block z6 0
             simp at y2 yf y4 y5 y6
             have hS1 := And.intro y2 yf
             have Z4 := hide z4
             have Z5 := hide z5
             have Z6 := hide z6
             have HM' := hide hmod'
             have HCH := hide hch
             have HLW := hide hlw
             have HF10 := hide hfs10
             have HDIS := hide hdis
             clear z2 z4 z5 z6 zf hmod hmod' hch hlw hfs10 hdis y2 yf))
      clear HKI KI OD LD HOP HVB LW LLT hS0 hS1 g4 g5 g6 f4 f5 f6 c2 c4 c5 c6 cf0
      have hsW := HP.out.sz
      have lD : D < W.heap.size := (Array.getElem?_eq_some_iff.1 hK).1
      have hKT := kp D _ (by omega) hK
      have BW := hide HP.out.bel
      generalize hC : chs (runS L).1 (runS (putO L os)).1 ((putO L os).map (·.d)) = C at *
      go_wp2_with fail
      have hK' : (((w10.setCell ⟨w.heap.size + 1, 0, none⟩ (.int .i64 (F.length : Int))).setCell ⟨w.heap.size + 1 + 1, 0, none⟩ (.slice A10 C.length c10)).setCell ⟨w.heap.size + 1 + 1 + 1, 0, none⟩ (.int .i64 0)).heap[D]? = some (.deferred (some [])) := by
        rw [Below.heap_setCell _ _ _ _ (by dsimp only; omega), Below.heap_setCell _ _ _ _ (by dsimp only; omega), Below.heap_setCell _ _ _ _ (by dsimp only; omega)]
        exact hKT
      refine ⟨by simp, .inl ⟨_, _, rfl, run_takeDeferred hK', ?_⟩⟩
      have r4 := cell_set_same (.int .i64 (F.length : Int)) y4
      have r5 := cell_set_same (.slice A10 C.length c10) ((cell_set_other (a := ⟨w.heap.size + 1, 0, none⟩) (b := ⟨w.heap.size + 1 + 1, 0, none⟩) (.int .i64 (F.length : Int)) (by simp)).trans y5)
      have r6 := cell_set_same (.int .i64 0) ((cell_set_other (a := ⟨w.heap.size + 1 + 1, 0, none⟩) (b := ⟨w.heap.size + 1 + 1 + 1, 0, none⟩) (.slice A10 C.length c10) (by simp)).trans ((cell_set_other (a := ⟨w.heap.size + 1, 0, none⟩) (b := ⟨w.heap.size + 1 + 1 + 1, 0, none⟩) (.int .i64 (F.length : Int)) (by simp)).trans y6))
      have r5' := (cell_set_other (a := ⟨w.heap.size + 1 + 1 + 1, 0, none⟩) (b := ⟨w.heap.size + 1 + 1, 0, none⟩) (.int .i64 0) (by simp)).trans r5
      have r4' := (cell_set_other (a := ⟨w.heap.size + 1 + 1 + 1, 0, none⟩) (b := ⟨w.heap.size + 1, 0, none⟩) (.int .i64 0) (by simp; omega)).trans ((cell_set_other (a := ⟨w.heap.size + 1 + 1, 0, none⟩) (b := ⟨w.heap.size + 1, 0, none⟩) (.slice A10 C.length c10) (by simp)).trans r4)
      have hblk : ∀ k, k ≠ w.heap.size + 1 → k ≠ w.heap.size + 1 + 1 → k ≠ w.heap.size + 1 + 1 + 1 → (((w10.setCell ⟨w.heap.size + 1, 0, none⟩ (.int .i64 (F.length : Int))).setCell ⟨w.heap.size + 1 + 1, 0, none⟩ (.slice A10 C.length c10)).setCell ⟨w.heap.size + 1 + 1 + 1, 0, none⟩ (.int .i64 0)).heap[k]? = w10.heap[k]? := fun k k1 k2 k3 => by
        rw [Below.heap_setCell _ _ _ _ k3, Below.heap_setCell _ _ _ _ k2, Below.heap_setCell _ _ _ _ k1]
      have hsz : (((w10.setCell ⟨w.heap.size + 1, 0, none⟩ (.int .i64 (F.length : Int))).setCell ⟨w.heap.size + 1 + 1, 0, none⟩ (.slice A10 C.length c10)).setCell ⟨w.heap.size + 1 + 1 + 1, 0, none⟩ (.int .i64 0)).heap.size = w10.heap.size := by simp [World.setCell]
      have hos : ∀ (V : World) (b : Nat) (s : Value), (V.setCell ⟨b, 0, none⟩ s).os = V.os ∧ (V.setCell ⟨b, 0, none⟩ s).tape = V.tape ∧ (V.setCell ⟨b, 0, none⟩ s).output = V.output := fun V b s => ⟨rfl, rfl, rfl⟩
      have hX : Mod [w.heap.size + 1, w.heap.size + 1 + 1, w.heap.size + 1 + 1 + 1, D] w10 ((((w10.setCell ⟨w.heap.size + 1, 0, none⟩ (.int .i64 (F.length : Int))).setCell ⟨w.heap.size + 1 + 1, 0, none⟩ (.slice A10 C.length c10)).setCell ⟨w.heap.size + 1 + 1 + 1, 0, none⟩ (.int .i64 0)).putObj D (.deferred none)) := by
        refine ⟨rfl, rfl, rfl, ?_, fun k hk hn => ?_⟩
        · rw [World.putObj_size, hsz]
          exact Nat.le_refl _
        · simp at hn
          rw [World.putObj_heap_other (by omega), hblk k (by omega) (by omega) (by omega)]
      generalize (((w10.setCell ⟨w.heap.size + 1, 0, none⟩ (.int .i64 (F.length : Int))).setCell ⟨w.heap.size + 1 + 1, 0, none⟩ (.slice A10 C.length c10)).setCell ⟨w.heap.size + 1 + 1 + 1, 0, none⟩ (.int .i64 0)) = V at *
      have d4 : (V.putObj D (.deferred none)).cell? ⟨w.heap.size + 1, 0, none⟩ = _ := (World.cell?_of_block (World.putObj_heap_other (by dsimp only; omega))).trans r4'
      have d5 : (V.putObj D (.deferred none)).cell? ⟨w.heap.size + 1 + 1, 0, none⟩ = _ := (World.cell?_of_block (World.putObj_heap_other (by dsimp only; omega))).trans r5'
      have d6 : (V.putObj D (.deferred none)).cell? ⟨w.heap.size + 1 + 1 + 1, 0, none⟩ = _ := (World.cell?_of_block (World.putObj_heap_other (by dsimp only; omega))).trans r6
      refine ⟨_, put_results _ (w.heap.size + 1) (w.heap.size + 1 + 1) (w.heap.size + 1 + 1 + 1) _ (F.length : Int) 0 A10 C.length c10 rfl rfl rfl d4 d5 d6, ?_⟩
      have hs1 := HM'.out.size
      have hdr : W.drew.heap.size = W.heap.size := rfl
      rw [hdr] at HCH HF10
      have hMX : Mod fs w (V.putObj D (.deferred none)) := ((Mod.of_below BW.out).trans HM'.out (fun k hk => .inl hk)).trans hX (fun k hk => .inr (by simp at hk; omega))
      unfold PutRet
      rw [HPE.out, HPL.out, hC, HNM.out]
      refine ⟨_, fs10, by congr 4; simp; omega, OwnChs.base (OwnChs.kept HCH.out fun b hb => ?_) BW.out.size, ⟨HLW.out.lg.mod hX (fun k hk h => ?_), HLW.out.fs, ?_⟩, hMX, fun k hk => ?_, HDIS.out⟩
      · have := HCH.out.lt hb
        exact hX.block b this.2 (fun h => by simp at h; omega)
      · rcases HF10.out k hk with h1 | h1
        · have := HFS.out k h1
          simp at h
          omega
        · simp at h
          omega
      · exact HL.out.bel.trans (hMX.below HL.out.bel.size HL.out.fs)
      · rcases HF10.out k hk with h1 | h1
        · exact .inl h1
        · exact .inr (Nat.le_trans BW.out.size h1)
    case stop =>
      rintro D cd pre W hD hS ⟨⟨rfl, hlt⟩, xs, hP⟩ hK
      have hpl := hS.length_le
      rw [List.length_map] at hpl
      have c4 := cell_of_row W _ 0 _ _ (0, 0) hP.b4
      have c5 := cell_of_row W _ 0 _ _ (0, 0) hP.b5
      have c6 := cell_of_row W _ 0 _ _ (0, 0) hP.b6
      simp at c4 c5 c6
      have HPE := hide (show putE most L os = 6 by
        unfold putE
        have h1 : anyW os = false := List.any_eq_false.2 (fun o ho => by rw [HR.out o ho]; decide)
        rw [h1, if_neg (by decide), if_pos (by rw [HF.out.2.2.2.2]; omega)])
      have szP := hP.sz
      have BP := hide hP.bel
      have l4 := (Array.getElem?_eq_some_iff.1 hP.b4).1
      have e4 := hP.b4
      have e5 := hP.b5
      have e6 := hP.b6
      gi_wp2
      refine ⟨by simp, .inl ⟨_, _, rfl, run_takeDeferred hK, ?_⟩⟩
      have hne : ∀ (b : Nat) (cs : Array Value) (t : TypeId), W.heap[b]? = some (.cells cs t (0, 0)) → b ≠ D := fun b cs t hb e => by
        subst e
        rw [hK] at hb
        cases hb
      have hput : ∀ (b : Nat) (cs : Array Value) (t : TypeId), W.heap[b]? = some (.cells cs t (0, 0)) → (W.putObj D (.deferred none)).heap[b]? = some (.cells cs t (0, 0)) := fun b cs t hb => (World.putObj_heap_other (hne b cs t hb)).trans hb
      have d4 := cell_of_row _ _ 0 _ _ (0, 0) (hput _ _ _ e4)
      have d5 := cell_of_row _ _ 0 _ _ (0, 0) (hput _ _ _ e5)
      have d6 := cell_of_row _ _ 0 _ _ (0, 0) (hput _ _ _ e6)
      refine ⟨_, put_results _ (w.heap.size + 1) (w.heap.size + 1 + 1) (w.heap.size + 1 + 1 + 1) _ 0 6 none 0 0 rfl rfl rfl d4 d5 d6, ?_⟩
      have hbE : Below w.heap.size w (W.putObj D (.deferred none)) := BP.out.trans (belowK_b (w := w) (Nat.le_refl _) W D _ _ (by omega) hK rfl rfl)
      have := put_no hbE HL.out (by rw [HPE.out]; decide)
      rw [HPE.out] at this
      exact this
end Go.Proofs.YtimfeocaghccdaaGreatDoor
namespace Go.Proofs.YtimfeocaghccdaaGreatDoor
open Go.RowKit Go.Maps
set_option linter.unusedVariables false
set_option linter.unusedSimpArgs false
set_option maxRecDepth 100000

def al1 : O5 := ⟨2, 0, 257, 256, [98]⟩
def al2 : O5 := ⟨1, 0, 256, 0, [97]⟩
theorem al_e1 : putE 5 [] [al1] = 0 := by decide +kernel
theorem al_l1 : putL 5 [] [al1] = [al1] := by decide +kernel
theorem al_c1 : chs (runS []).1 (runS [al1]).1 ([al1].map (·.d)) = [] := by
  have : dif (runS []).1 (runS [al1]).1 ([al1].map (·.d)) = [] := by decide +kernel
  unfold chs
  rw [this]
  rfl
theorem al_e2 : putE 5 [al1] [al2] = 0 := by decide +kernel
theorem al_l2 : putL 5 [al1] [al2] = [al2, al1] := by decide +kernel
theorem al_c2 : (chs (runS [al1]).1 (runS [al2, al1]).1 ([al2, al1].map (·.d))).length = 2 := by
  have : (dif (runS [al1]).1 (runS [al2, al1]).1 ([al2, al1].map (·.d))).length = 2 := by decide +kernel
  unfold chs
  rw [List.length_map]
  exact this
theorem al_t : topO [al2, al1] = 2 := by decide +kernel
set_option maxHeartbeats 1000000 in
theorem lawake_any (w : World) (hE : Env w) : Calls Tryz.prog 7 #[] w (TrueRet w) := by
  have HE := hide hE
  clear hE
  go_enter Tryz.func7, Tryz.ntmps7
  go_wp2_with fail
  refine (lnew_any 5 w).mono ?_
  rintro e w1 ⟨g, fs, rfl, hL⟩
  have Bz := (Below.refl w1.heap.size w1).alloc (Nat.le_refl _) (.cells #[.int .i64 2, .int .i64 0, .int .i64 257, .int .i64 256, .string (bs [98])] 50)
  have L1 := hide (hL.below Bz)
  have O1 := hide (ops_new w1 al1)
  clear hL Bz
  have K1 := hide (put_any w HE.out g 5 [] fs (some ⟨w1.heap.size, 0, none⟩) 1 [al1] (by decide) (by decide) _ L1.out O1.out)
  go_wp2_with fail
  refine K1.out.mono ?_
  rintro e w2 ⟨v2, fs2, rfl, hC2, hL2, -, -, -⟩
  rw [al_l1] at hC2 hL2
  rw [al_c1] at hC2
  obtain ⟨A2, c2, rfl⟩ := hC2.form
  rw [al_l1, al_e1]
  have e2 : (([al1].length : Int) - (([] : List O5).length : Int)) = 1 := rfl
  have e3 : ([] : List Ch).length = 0 := rfl
  rw [e2, e3]
  have Bz := (Below.refl w2.heap.size w2).alloc (Nat.le_refl _) (.cells #[.int .i64 1, .int .i64 0, .int .i64 256, .int .i64 0, .string (bs [97])] 50)
  have L2 := hide (hL2.below Bz)
  have O2 := hide (ops_new w2 al2)
  clear hC2 hL2 Bz K1 L1 O1
  have K2 := hide (put_any w HE.out g 5 [al1] fs2 (some ⟨w2.heap.size, 0, none⟩) 1 [al2] (by decide) (by decide) _ L2.out O2.out)
  go_wp2_with fail
  refine K2.out.mono ?_
  rintro e w3 ⟨v3, fs3, rfl, hC3, hL3, -, -, -⟩
  rw [al_l2] at hC3 hL3
  obtain ⟨A3, c3, rfl⟩ := hC3.form
  rw [al_l2, al_e2, al_c2]
  have e4 : (([al2, al1].length : Int) - (([al1] : List O5).length : Int)) = 1 := rfl
  rw [e4]
  have L3 := hide hL3
  clear hC3 hL3 K2 L2 O2
  have KT := hide (ltop_any g 5 [al2, al1] fs3 (by decide) w3 L3.out.lg)
  rw [al_t] at KT
  go_wp2_with fail
  refine KT.out.mono ?_
  rintro e w4 ⟨rfl, hb4⟩
  have L4 := hide (L3.out.below hb4)
  clear hb4 KT L3
  go_wp2
  go_ret
  exact ⟨rfl, L4.out.bel⟩
end Go.Proofs.YtimfeocaghccdaaGreatDoor
namespace Go.Proofs.YtimfeocaghccdaaGreatDoor
open Go.RowKit Go.Maps
set_option linter.unusedVariables false
set_option linter.unusedSimpArgs false
set_option maxRecDepth 100000

theorem Lwg.back {w0 w1 w : World} {g most : Nat} {L : List O5} {fs : List Nat} (h : Lwg w1 w g most L fs) (hb : Below w0.heap.size w0 w1) : Lwg w0 w g most L fs :=
  ⟨h.lg, fun k hk => Nat.le_trans hb.size (h.fs k hk), hb.trans (h.bel.mono hb.size)⟩
/-- A batch was put: so many are new, this is the log then, this is told. -/
def PutO (w0 w : World) (g most : Nat) (L M : List O5) (d : Nat) (E : Int) (fs : List Nat) (e : Ending) (w' : World) : Prop :=
  ∃ A k c fs', e = .returned (.tuple #[.int .i64 (d : Int), .slice A k c, .int .i64 E]) ∧ (M = L → k = 0) ∧ Lwg w0 w' g most M fs' ∧ Mod fs w w' ∧ ∀ k ∈ fs', k ∈ fs ∨ w.heap.size ≤ k
theorem putO_of {w0 w : World} {g most : Nat} {L os M : List O5} {d : Nat} {E : Int} {fs : List Nat} (hM : putL most L os = M) (hE : putE most L os = E) (hd : M.length = L.length + d) {e : Ending} {w' : World} (h : PutRet w0 w g most L os fs e w') : PutO w0 w g most L M d E fs e w' := by
  obtain ⟨v, fs', rfl, hC, hL, hm, hf, -⟩ := h
  obtain ⟨A, c, rfl⟩ := hC.form
  rw [hM] at hC hL
  have hd' : ((M.length : Int) - (L.length : Int)) = (d : Int) := by omega
  refine ⟨A, _, c, fs', by rw [hM, hE, hd'], fun e => ?_, hL, hm, hf⟩
  rw [e]
  unfold chs
  rw [List.length_map, dif_self]
  rfl
theorem allR_any {os : List O5} (h : AllR os) : anyW os = false := List.any_eq_false.2 (fun o ho => by rw [h o ho]; decide)
theorem put_fits (w0 : World) (hE : Env w0) (g most : Nat) (L : List O5) (fs : List Nat) (A : Option Addr) (c : Nat) (os : List O5) (hr : AllR os) (hm : ∀ o ∈ os, o.l.length ≤ maxLen) (hn : L.length + os.length ≤ 800) (hf : (putO L os).length ≤ most) (w : World) (h : Lwg w0 w g most L fs) (hO : Ops w A c os) :
    Calls Tryz.prog 10 #[.pointer (some ⟨g, 0, none⟩), .slice A os.length c] w (PutO w0 w g most L (putO L os) ((putO L os).length - L.length) 0 fs) := by
  have e0 : putE most L os = 0 := by
    unfold putE
    rw [allR_any hr, if_neg (by decide), if_neg (by omega)]
  refine (put_any w0 hE g most L fs A c os hm hn w h hO).mono fun e w' hp => putO_of (by unfold putL; rw [if_pos e0]) e0 ?_ hp
  have := putF_le (f := ocF) os L
  have e : (putO L os).length = (putF ocF L os).length := rfl
  omega
theorem put_full (w0 : World) (hE : Env w0) (g most : Nat) (L : List O5) (fs : List Nat) (A : Option Addr) (c : Nat) (os : List O5) (hr : AllR os) (hm : ∀ o ∈ os, o.l.length ≤ maxLen) (hn : L.length + os.length ≤ 800) (hf : most < (putO L os).length) (w : World) (h : Lwg w0 w g most L fs) (hO : Ops w A c os) :
    Calls Tryz.prog 10 #[.pointer (some ⟨g, 0, none⟩), .slice A os.length c] w (PutO w0 w g most L L 0 6 fs) := by
  have e0 : putE most L os = 6 := by
    unfold putE
    rw [allR_any hr, if_neg (by decide), if_pos (by omega)]
  exact (put_any w0 hE g most L fs A c os hm hn w h hO).mono fun e w' hp => putO_of (by unfold putL; rw [if_neg (by rw [e0]; decide)]) e0 rfl hp
/-- A row that the log does not hold stays. -/
theorem OwnOps.mod {w w' : World} {base : Nat} {v : Value} {os : List O5} {fs : List Nat} (h : OwnOps w base v os) (hm : Mod fs w w') (hd : ∀ b, v.ownBlock = some b → b ∉ fs) : OwnOps w' base v os :=
  h.kept fun b hb => hm.block b (h.lt hb) (hd b hb)
theorem tiny_R (ts : List T5) : AllR (ts.map ofT) := fun o ho => by
  obtain ⟨t, _, rfl⟩ := List.mem_map.1 ho
  exact ofT_R t
end Go.Proofs.YtimfeocaghccdaaGreatDoor
