/-
  Package op's Cmp, once more: behind it the world is what it was, with blocks laid and draws made, and nothing else. No conditions.
  Lists in one order, each thing once: put in one by one, in whatever order and however often, they come to one list; the log of operations as such a list, the tree that it comes to, what was undone and is done again, and the nodes whose spots differ. No conditions beyond those that each statement bears.
  slices.SortFunc of operations by package op's Cmp, by the library's contract: what was there, in order. Conditions: the row is one of the program's own, of not more than a million.
  '==' of two operations. No conditions.
  The contract of the document's Same: are two lists of operations one? Conditions: both can be read.
  slices.Clone of operations: a new row that has the same. Conditions: what is cloned can be read, and is not more than a million.
  slices.BinarySearchFunc of operations by package op's Cmp: where one stands, or would stand, and whether it is there. Conditions: the row can be read, is in order, and is not more than a million.
  Parts of rows of operations: cut at either end, one put in another one's place, the rest laid to zeros. No conditions beyond those that each statement bears.
  slices.Compact of operations: each that is like the one ahead of it is left out. Conditions: the row is one of the program's own, of not more than a million.
-/
import Derived.Test.YtimfeocaghccdaaGreatDoorOCmp2
import Derived.Lib.QuietBelow
import Derived.Test.YtimfeocaghccdaaGreatDoorTLaw
import Derived.Test.YtimfeocaghccdaaGreatDoorShelf
import Derived.Test.YtimfeocaghccdaaGreatDoorWOps
import Derived.Lib.SmallJoins
import Derived.Shelf.SlSortCmp.NoneTotal
import Derived.Laws.StructEq
import Derived.LoopTactic
import Derived.Deep.QuietTactic
import Derived.BigQuiet
import Derived.Test.YtimfeocaghccdaaGreatDoorWAppend
import Derived.Maps.AppendAt
import Derived.Deep.RegionHeld3
import Derived.Lib.LazyBuf
import Derived.Deep.CutRange
import Derived.Shelf.Abstract
import Derived.ArgAppend
import Derived.Lib.AppendZeros
namespace Go.Proofs.YtimfeocaghccdaaGreatDoor
open Go.RowKit
set_option linter.unusedVariables false
set_option maxRecDepth 100000

/-- Nothing has turned, no draw is taken back. -/
structure BD (w w' : World) : Prop where
  bel : Below w.heap.size w w'
  dr : w.drawn ≤ w'.drawn
theorem BD.refl (w : World) : BD w w := ⟨Below.refl _ _, Nat.le_refl _⟩
theorem BD.alloc {w w' : World} (h : BD w w') (o : Obj) : BD w (w'.alloc o) := ⟨h.bel.alloc h.bel.size o, h.dr⟩
theorem BD.trans {a b c : World} (h : BD a b) (k : BD b c) : BD a c := ⟨h.bel.trans (k.bel.mono h.bel.size), Nat.le_trans h.dr k.dr⟩
theorem BD.grow {w w' : World} (h : BD w w') : ∃ q os', w' = Go.Sort.grow (w.drewN q) os' := by
  obtain ⟨p, hp⟩ := regrown_of_below h.bel
  have h1 : p.d = w'.drawn := by rw [hp]; rfl
  refine ⟨w'.drawn - w.drawn, p.os, ?_⟩
  have h2 : redrawn w p.d = w.drewN (w'.drawn - w.drawn) := by
    have := h.dr
    unfold redrawn World.drewN
    rw [h1]
    congr 1
    omega
  rw [← h2]
  exact hp
def NumD (n : Int) (w : World) (e : Ending) (w' : World) : Prop := e = .returned (.int .i64 n) ∧ BD w w'
/-- Where the loop of inTurn is: the pairs before have not differed. -/
def TurnRelD (w : World) (n m r s : Int) (v : Value) (w' : World) : Prop :=
  ∃ i : Nat, i ≤ 2 ∧ v = .int .i64 i ∧ BD w w' ∧ (0 < i → cm n m = 0) ∧ (1 < i → cm r s = 0)
set_option maxHeartbeats 2000000 in
theorem inTurn_d (g : Nat) (n m r s : Int) (w : World) (h : Two w g n m r s) : Calls Tryz.prog 130 #[.slice (some ⟨g, 0, none⟩) 2 2] w (NumD (stC n r m s) w) := by
  have HT := hide h
  have hg := h.lt
  clear h
  have H1 := hide (show cm n m ≠ 0 → stC n r m s = cm n m from fun h => if_pos h)
  have H2 := hide (show cm n m = 0 → stC n r m s = cm r s from fun h => if_neg (by simpa using h))
  go_enter Tryz.func130, Tryz.ntmps130
  go_wp2_with fail
  go_loopw [8] (TurnRelD w n m r s) (fun k _ => 2 - (intOf k).toNat)
  case atStart => exact ⟨0, by omega, rfl, BD.refl _, by omega, by omega⟩
  case round =>
    obtain ⟨i, hi, rfl, hb, hc, hd⟩ := hrel
    obtain ⟨c0, c1, c2, c3⟩ := HT.out.below hb.bel hg
    have B := hide hb
    have sz := hb.bel.size
    have C := hide hc
    have D := hide hd
    clear hb hc hd
    have hcase : i = 0 ∨ i = 1 ∨ i = 2 := by omega
    rcases hcase with rfl | rfl | rfl
    · go_wp2_with fail
      refine (compare_any n m _).mono ?_
      rintro e w1 ⟨rfl, rfl⟩
      by_cases h0 : cm n m = 0
      · have Z := hide h0
        rw [h0]
        clear h0
        go_wp2_with fail
        refine ⟨⟨1, by omega, rfl, ?_, fun _ => Z.out, by omega⟩, by simp [intOf]⟩
        exact B.out.alloc _
      · have Z := hide (H1.out h0)
        go_wp2
        go_ret
        rw [Z.out]
        exact ⟨rfl, B.out.alloc _⟩
    · have Z := hide (H2.out (C.out (by omega)))
      go_wp2_with fail
      refine (compare_any r s _).mono ?_
      rintro e w1 ⟨rfl, rfl⟩
      by_cases h0 : cm r s = 0
      · have Y := hide h0
        rw [h0]
        clear h0
        go_wp2_with fail
        refine ⟨⟨2, by omega, rfl, ?_, fun _ => C.out (by omega), fun _ => Y.out⟩, by simp [intOf]⟩
        exact B.out.alloc _
      · go_wp2
        go_ret
        rw [Z.out]
        exact ⟨rfl, B.out.alloc _⟩
    · have Z := hide (H2.out (C.out (by omega)))
      have hC := hide (D.out (by omega))
      go_wp2
      go_ret
      rw [Z.out, hC.out]
      exact ⟨rfl, B.out⟩

theorem scmp_d (n r m s : Int) (w : World) : Calls Tryz.prog 109 #[st n r, st m s] w (NumD (stC n r m s) w) := by
  unfold st
  go_enter Tryz.func109, Tryz.ntmps109
  go_wp2_with fail
  refine (inTurn_d _ n m r s _ ?_).mono ?_
  · exact Two.new _ _ (by simp) n m r s _
  rintro e w1 ⟨rfl, hb⟩
  go_wp2
  go_ret
  refine ⟨rfl, ?_⟩
  exact ((((BD.refl w).alloc _).alloc _).alloc _).trans hb
theorem byStamp_d (n r d t : Int) (l : List UInt8) (m s e u : Int) (k : List UInt8) (w : World) : Calls Tryz.prog 80 #[opv n r d t l, opv m s e u k] w (NumD (stC n r m s) w) := by
  have K := hide (scmp_d n r m s)
  unfold st at K
  unfold opv
  go_enter Tryz.func80, Tryz.ntmps80
  go_wp2_with fail
  refine (K.out _).mono ?_
  rintro e w1 ⟨rfl, hb⟩
  go_wp2
  go_ret
  exact ⟨rfl, (((BD.refl w).alloc _).alloc _).trans hb⟩
theorem byNode_d (n r d t : Int) (l : List UInt8) (m s e u : Int) (k : List UInt8) (w : World) : Calls Tryz.prog 81 #[opv n r d t l, opv m s e u k] w (NumD (cm d e) w) := by
  unfold opv
  go_enter Tryz.func81, Tryz.ntmps81
  go_wp2_with fail
  refine (compare_any d e _).mono ?_
  rintro e w1 ⟨rfl, rfl⟩
  go_wp2
  go_ret
  exact ⟨rfl, ((BD.refl w).alloc _).alloc _⟩
theorem byTo_d (n r d t : Int) (l : List UInt8) (m s e u : Int) (k : List UInt8) (w : World) : Calls Tryz.prog 82 #[opv n r d t l, opv m s e u k] w (NumD (cm t u) w) := by
  unfold opv
  go_enter Tryz.func82, Tryz.ntmps82
  go_wp2_with fail
  refine (compare_any t u _).mono ?_
  rintro e w1 ⟨rfl, rfl⟩
  go_wp2
  go_ret
  exact ⟨rfl, ((BD.refl w).alloc _).alloc _⟩
theorem byName_d (n r d t : Int) (l : List UInt8) (m s e u : Int) (k : List UInt8) (w : World) : Calls Tryz.prog 83 #[opv n r d t l, opv m s e u k] w (NumD (cN l k) w) := by
  unfold opv
  go_enter Tryz.func83, Tryz.ntmps83
  go_wp2_with fail
  refine (lib_compare l k _).mono ?_
  rintro e w1 ⟨rfl, rfl⟩
  go_wp2
  go_ret
  exact ⟨rfl, ((BD.refl w).alloc _).alloc _⟩
def CmpRelD (w : World) (n r d t : Int) (l : List UInt8) (m s e u : Int) (k : List UInt8) (v : Value) (w' : World) : Prop :=
  ∃ i : Nat, i ≤ 4 ∧ v = .int .i64 (i : Int) ∧ BD w w' ∧ Bo w' w.heap.size n r d t l ∧ Bo w' (w.heap.size + 1) m s e u k ∧
    (1 ≤ i → stC n r m s = 0) ∧ (2 ≤ i → cm d e = 0) ∧ (3 ≤ i → cm t u = 0) ∧ (4 ≤ i → cN l k = 0)
set_option maxHeartbeats 2000000 in
set_option maxRecDepth 100000 in
theorem ocmp_d (n r d t : Int) (l : List UInt8) (m s e u : Int) (k : List UInt8) (w : World) : Calls Tryz.prog 55 #[opv n r d t l, opv m s e u k] w (NumD (opC n r d t l m s e u k) w) := by
  have K1 := hide (byStamp_d n r d t l m s e u k)
  have K2 := hide (byNode_d n r d t l m s e u k)
  have K3 := hide (byTo_d n r d t l m s e u k)
  have K4 := hide (byName_d n r d t l m s e u k)
  have H1 := hide (show stC n r m s ≠ 0 → opC n r d t l m s e u k = stC n r m s from fun h => by unfold opC; rw [if_pos h])
  have H2 := hide (show stC n r m s = 0 → cm d e ≠ 0 → opC n r d t l m s e u k = cm d e from fun h h2 => by unfold opC; rw [if_neg (by simpa using h), if_pos h2])
  have H3 := hide (show stC n r m s = 0 → cm d e = 0 → cm t u ≠ 0 → opC n r d t l m s e u k = cm t u from fun h h2 h3 => by unfold opC; rw [if_neg (by simpa using h), if_neg (by simpa using h2), if_pos h3])
  have H4 := hide (show stC n r m s = 0 → cm d e = 0 → cm t u = 0 → opC n r d t l m s e u k = cN l k from fun h h2 h3 => by unfold opC; rw [if_neg (by simpa using h), if_neg (by simpa using h2), if_neg (by simpa using h3)])
  have HA := hide (Bo.new w n r d t l 50)
  have HB := hide (Bo.new2 w m s e u k 50 (.cells #[.int .i64 n, .int .i64 r, .int .i64 d, .int .i64 t, .string (bs l)] 50))
  unfold opv at K1 K2 K3 K4
  unfold opv
  go_enter Tryz.func55, Tryz.ntmps55
  go_wp2_with fail
  go_loopw [9] (CmpRelD w n r d t l m s e u k) (fun k _ => 4 - (intOf k).toNat)
  case atStart => exact ⟨0, by omega, rfl, ((BD.refl w).alloc _).alloc _, HA.out.alloc _, HB.out, by omega, by omega, by omega, by omega⟩
  case round =>
    obtain ⟨i, hi, rfl, hb, ha, ho, q1, q2, q3, q4⟩ := hrel
    have B := hide hb
    have sz := hb.bel.size
    have Q1 := hide q1
    have Q2 := hide q2
    have Q3 := hide q3
    have Q4 := hide q4
    have HX := hide ha
    have HY := hide ho
    obtain ⟨a0, a1, a2, a3, a4⟩ := ha
    obtain ⟨b0, b1, b2, b3, b4⟩ := ho
    clear hb q1 q2 q3 q4
    have hcase : i = 0 ∨ i = 1 ∨ i = 2 ∨ i = 3 ∨ i = 4 := by omega
    rcases hcase with rfl | rfl | rfl | rfl | rfl
    · have ix : ∀ w, (Instr.index 122 (.agg #[.func (.func 80) #[] #[], .func (.func 81) #[] #[], .func (.func 82) #[] #[], .func (.func 83) #[] #[]]) (.int .i64 0)).run Tryz.prog w = .ok (.func (.func 80) #[] #[]) w := fun _ => by kernel_rfl
      go_wp2_with fail
      refine (K1.out _).mono ?_
      rintro e w1 ⟨rfl, hb1⟩
      have B2 := hide (B.out.trans hb1)
      have HX2 := hide (HX.out.below hb1.bel HX.out.lt)
      have HY2 := hide (HY.out.below hb1.bel HY.out.lt)
      clear hb1
      by_cases h0 : stC n r m s = 0
      · have Z := hide h0
        rw [h0]
        clear h0
        go_wp2_with fail
        refine ⟨⟨1, by omega, rfl, B2.out, HX2.out, HY2.out, fun _ => Z.out, by omega, by omega, by omega⟩, by simp [intOf]⟩
      · have Z := hide (H1.out h0)
        go_wp2
        go_ret
        rw [Z.out]
        exact ⟨rfl, B2.out⟩
    · have ix : ∀ w, (Instr.index 122 (.agg #[.func (.func 80) #[] #[], .func (.func 81) #[] #[], .func (.func 82) #[] #[], .func (.func 83) #[] #[]]) (.int .i64 1)).run Tryz.prog w = .ok (.func (.func 81) #[] #[]) w := fun _ => by kernel_rfl
      go_wp2_with fail
      refine (K2.out _).mono ?_
      rintro e w1 ⟨rfl, hb1⟩
      have B2 := hide (B.out.trans hb1)
      have HX2 := hide (HX.out.below hb1.bel HX.out.lt)
      have HY2 := hide (HY.out.below hb1.bel HY.out.lt)
      clear hb1
      by_cases h0 : cm d e = 0
      · have Z := hide h0
        rw [h0]
        clear h0
        go_wp2_with fail
        refine ⟨⟨2, by omega, rfl, B2.out, HX2.out, HY2.out, fun _ => Q1.out (by omega), fun _ => Z.out, by omega, by omega⟩, by simp [intOf]⟩
      · have Z := hide (H2.out (Q1.out (by omega)) h0)
        go_wp2
        go_ret
        rw [Z.out]
        exact ⟨rfl, B2.out⟩
    · have ix : ∀ w, (Instr.index 122 (.agg #[.func (.func 80) #[] #[], .func (.func 81) #[] #[], .func (.func 82) #[] #[], .func (.func 83) #[] #[]]) (.int .i64 2)).run Tryz.prog w = .ok (.func (.func 82) #[] #[]) w := fun _ => by kernel_rfl
      go_wp2_with fail
      refine (K3.out _).mono ?_
      rintro e w1 ⟨rfl, hb1⟩
      have B2 := hide (B.out.trans hb1)
      have HX2 := hide (HX.out.below hb1.bel HX.out.lt)
      have HY2 := hide (HY.out.below hb1.bel HY.out.lt)
      clear hb1
      by_cases h0 : cm t u = 0
      · have Z := hide h0
        rw [h0]
        clear h0
        go_wp2_with fail
        refine ⟨⟨3, by omega, rfl, B2.out, HX2.out, HY2.out, fun _ => Q1.out (by omega), fun _ => Q2.out (by omega), fun _ => Z.out, by omega⟩, by simp [intOf]⟩
      · have Z := hide (H3.out (Q1.out (by omega)) (Q2.out (by omega)) h0)
        go_wp2
        go_ret
        rw [Z.out]
        exact ⟨rfl, B2.out⟩
    · have ix : ∀ w, (Instr.index 122 (.agg #[.func (.func 80) #[] #[], .func (.func 81) #[] #[], .func (.func 82) #[] #[], .func (.func 83) #[] #[]]) (.int .i64 3)).run Tryz.prog w = .ok (.func (.func 83) #[] #[]) w := fun _ => by kernel_rfl
      go_wp2_with fail
      refine (K4.out _).mono ?_
      rintro e w1 ⟨rfl, hb1⟩
      have B2 := hide (B.out.trans hb1)
      have HX2 := hide (HX.out.below hb1.bel HX.out.lt)
      have HY2 := hide (HY.out.below hb1.bel HY.out.lt)
      clear hb1
      by_cases h0 : cN l k = 0
      · have Z := hide h0
        rw [h0]
        clear h0
        go_wp2_with fail
        refine ⟨⟨4, by omega, rfl, B2.out, HX2.out, HY2.out, fun _ => Q1.out (by omega), fun _ => Q2.out (by omega), fun _ => Q3.out (by omega), fun _ => Z.out⟩, by simp [intOf]⟩
      · have Z := hide (H4.out (Q1.out (by omega)) (Q2.out (by omega)) (Q3.out (by omega)))
        go_wp2
        go_ret
        rw [Z.out]
        exact ⟨rfl, B2.out⟩
    · have Z := hide ((H4.out (Q1.out (by omega)) (Q2.out (by omega)) (Q3.out (by omega))).trans (Q4.out (by omega)))
      go_wp2
      go_ret
      rw [Z.out]
      exact ⟨rfl, B.out⟩
end Go.Proofs.YtimfeocaghccdaaGreatDoor
namespace Go.Proofs.YtimfeocaghccdaaGreatDoor
set_option maxRecDepth 100000
open Go.RowKit
set_option linter.unusedVariables false

/-! ### lists in one order -/
/-- Put in ahead of the first one that is greater. -/
def insF {α : Type} (f : α → α → Int) (x : α) : List α → List α
  | [] => [x]
  | y :: L => if f x y < 0 then x :: y :: L else y :: insF f x L
/-- Put in, if it isn't there. -/
def wthF {α : Type} [DecidableEq α] (f : α → α → Int) (L : List α) (x : α) : List α := if x ∈ L then L else insF f x L
/-- All put in, one by one. -/
def putF {α : Type} [DecidableEq α] (f : α → α → Int) (L xs : List α) : List α := xs.foldl (wthF f) L
/-- In order, each once. -/
def SrtF {α : Type} (f : α → α → Int) (L : List α) : Prop := L.Pairwise fun a b => f a b < 0
theorem insF_perm {α : Type} {f : α → α → Int} (x : α) : ∀ L : List α, (insF f x L).Perm (x :: L)
  | [] => List.Perm.refl _
  | y :: L => by
    unfold insF
    split
    · exact List.Perm.refl _
    · exact ((insF_perm x L).cons y).trans (List.Perm.swap x y L)
theorem mem_insF {α : Type} {f : α → α → Int} {x a : α} {L : List α} : a ∈ insF f x L ↔ a = x ∨ a ∈ L := by
  rw [(insF_perm x L).mem_iff, List.mem_cons]
theorem insF_length {α : Type} {f : α → α → Int} (x : α) (L : List α) : (insF f x L).length = L.length + 1 := by
  rw [(insF_perm x L).length_eq, List.length_cons]
theorem OneOrder.lt_on {α : Type} {f : α → α → Int} (h : OneOrder f) {a b c : α} (h1 : f a b < 0) (h2 : f b c < 0) : f a c < 0 := by
  have h3 := h.on a b c (by omega) (by omega)
  rcases Int.lt_or_eq_of_le h3 with h4 | h4
  · exact h4
  · have := h.like a c h4
    subst this
    have := h.turn a b
    omega
theorem OneOrder.lt_of_ne {α : Type} {f : α → α → Int} (h : OneOrder f) {a b : α} (h1 : a ≠ b) (h2 : ¬ f a b < 0) : f b a < 0 := by
  have t := h.turn a b
  have : f a b ≠ 0 := fun e => h1 (h.like a b e)
  omega
theorem OneOrder.irr {α : Type} {f : α → α → Int} (h : OneOrder f) {a b : α} (h1 : f a b < 0) : a ≠ b := by
  rintro rfl
  have := h.same a
  omega
theorem insF_srt {α : Type} {f : α → α → Int} (h : OneOrder f) {x : α} : ∀ {L : List α}, SrtF f L → x ∉ L → SrtF f (insF f x L)
  | [], _, _ => by unfold insF SrtF; simp
  | y :: L, hL, hx => by
    have hx' : x ≠ y ∧ x ∉ L := by simpa using hx
    have hp := List.pairwise_cons.1 hL
    unfold insF
    split
    · rename_i hlt
      refine List.pairwise_cons.2 ⟨fun a ha => ?_, hL⟩
      rcases List.mem_cons.1 ha with rfl | ha
      · exact hlt
      · exact h.lt_on hlt (hp.1 a ha)
    · rename_i hlt
      refine List.pairwise_cons.2 ⟨fun a ha => ?_, insF_srt h hp.2 hx'.2⟩
      rcases mem_insF.1 ha with rfl | ha
      · exact h.lt_of_ne hx'.1 hlt
      · exact hp.1 a ha
/-- Where it goes, if all ahead are less and all behind are greater. -/
theorem insF_at {α : Type} {f : α → α → Int} {x : α} : ∀ {a b : List α}, (∀ y ∈ a, ¬ f x y < 0) → (∀ y ∈ b, f x y < 0) → insF f x (a ++ b) = a ++ x :: b
  | [], [], _, _ => rfl
  | [], y :: b, _, h => by
    show insF f x (y :: b) = x :: y :: b
    unfold insF
    rw [if_pos (h y (by simp))]
  | z :: a, b, h1, h2 => by
    show insF f x (z :: (a ++ b)) = z :: (a ++ x :: b)
    unfold insF
    rw [if_neg (h1 z (by simp)), insF_at (fun y hy => h1 y (by simp [hy])) h2]
theorem mem_wthF {α : Type} [DecidableEq α] {f : α → α → Int} {x a : α} {L : List α} : a ∈ wthF f L x ↔ a ∈ L ∨ a = x := by
  unfold wthF
  split
  · rename_i h
    exact ⟨.inl, fun h' => h'.elim id (fun e => e ▸ h)⟩
  · rw [mem_insF]
    exact Or.comm
theorem wthF_srt {α : Type} [DecidableEq α] {f : α → α → Int} (h : OneOrder f) {x : α} {L : List α} (hL : SrtF f L) : SrtF f (wthF f L x) := by
  unfold wthF
  split
  · exact hL
  · exact insF_srt h hL (by assumption)
theorem wthF_length {α : Type} [DecidableEq α] {f : α → α → Int} (x : α) (L : List α) : (wthF f L x).length = L.length + if x ∈ L then 0 else 1 := by
  unfold wthF
  split
  · rfl
  · exact insF_length x L
theorem putF_cons {α : Type} [DecidableEq α] {f : α → α → Int} (L : List α) (x : α) (xs : List α) : putF f L (x :: xs) = putF f (wthF f L x) xs := rfl
theorem putF_append {α : Type} [DecidableEq α] {f : α → α → Int} (L a b : List α) : putF f L (a ++ b) = putF f (putF f L a) b := List.foldl_append
theorem putF_snoc {α : Type} [DecidableEq α] {f : α → α → Int} (L xs : List α) (x : α) : putF f L (xs ++ [x]) = wthF f (putF f L xs) x := by rw [putF_append]; rfl
theorem mem_putF {α : Type} [DecidableEq α] {f : α → α → Int} {a : α} : ∀ {xs L : List α}, a ∈ putF f L xs ↔ a ∈ L ∨ a ∈ xs
  | [], L => by simp [putF]
  | x :: xs, L => by rw [putF_cons, mem_putF, mem_wthF, List.mem_cons, or_assoc]
theorem putF_srt {α : Type} [DecidableEq α] {f : α → α → Int} (h : OneOrder f) : ∀ {xs L : List α}, SrtF f L → SrtF f (putF f L xs)
  | [], L, hL => hL
  | x :: xs, L, hL => by rw [putF_cons]; exact putF_srt h (wthF_srt h hL)
/-- Two lists in order that have the same are one. -/
theorem srtF_ext {α : Type} {f : α → α → Int} (h : OneOrder f) : ∀ {a b : List α}, SrtF f a → SrtF f b → (∀ x, x ∈ a ↔ x ∈ b) → a = b
  | [], [], _, _, _ => rfl
  | [], y :: b, _, _, hm => absurd ((hm y).2 (by simp)) (by simp)
  | x :: a, [], _, _, hm => absurd ((hm x).1 (by simp)) (by simp)
  | x :: a, y :: b, ha, hb, hm => by
    have pa := List.pairwise_cons.1 ha
    have pb := List.pairwise_cons.1 hb
    have e : x = y := by
      rcases List.mem_cons.1 ((hm x).1 (by simp)) with e | hx
      · exact e
      · rcases List.mem_cons.1 ((hm y).2 (by simp)) with e | hy
        · exact e.symm
        · have h1 := pb.1 x hx
          have h2 := pa.1 y hy
          have := h.turn x y
          omega
    subst e
    congr 1
    refine srtF_ext h pa.2 pb.2 fun z => ⟨fun hz => ?_, fun hz => ?_⟩
    · rcases List.mem_cons.1 ((hm z).1 (by simp [hz])) with rfl | h'
      · exact absurd rfl (h.irr (pa.1 z hz))
      · exact h'
    · rcases List.mem_cons.1 ((hm z).2 (by simp [hz])) with rfl | h'
      · exact absurd rfl (h.irr (pb.1 z hz))
      · exact h'
theorem putF_eq {α : Type} [DecidableEq α] {f : α → α → Int} (h : OneOrder f) {L M xs : List α} (hL : SrtF f L) (hM : SrtF f M) (hm : ∀ x, x ∈ M ↔ x ∈ L ∨ x ∈ xs) : putF f L xs = M :=
  srtF_ext h (putF_srt h hL) hM fun x => by rw [mem_putF, hm]
/-- What is put in, in whatever order, in whatever parts, and however often. -/
theorem putF_same {α : Type} [DecidableEq α] {f : α → α → Int} (h : OneOrder f) {L M xs ys : List α} (hL : SrtF f L) (hM : SrtF f M) (hm : ∀ x, (x ∈ L ∨ x ∈ xs) ↔ (x ∈ M ∨ x ∈ ys)) : putF f L xs = putF f M ys :=
  srtF_ext h (putF_srt h hL) (putF_srt h hM) fun x => by rw [mem_putF, mem_putF, hm]
theorem putF_there {α : Type} [DecidableEq α] {f : α → α → Int} (h : OneOrder f) {L xs : List α} (hL : SrtF f L) (hm : ∀ x ∈ xs, x ∈ L) : putF f L xs = L :=
  putF_eq h hL hL fun x => ⟨.inl, fun h' => h'.elim id (hm x)⟩
theorem putF_le {α : Type} [DecidableEq α] {f : α → α → Int} : ∀ (xs L : List α), L.length ≤ (putF f L xs).length
  | [], L => Nat.le_refl _
  | x :: xs, L => by
    have h1 := putF_le (f := f) xs (wthF f L x)
    have h2 := wthF_length (f := f) x L
    rw [putF_cons]
    omega
theorem putF_most {α : Type} [DecidableEq α] {f : α → α → Int} : ∀ (xs L : List α), (putF f L xs).length ≤ L.length + xs.length
  | [], L => Nat.le_refl _
  | x :: xs, L => by
    have h1 := putF_most (f := f) xs (wthF f L x)
    have h2 := wthF_length (f := f) x L
    rw [putF_cons, List.length_cons]
    split at h2 <;> omega
/-- Nothing new: as many as ahead. -/
theorem putF_none {α : Type} [DecidableEq α] {f : α → α → Int} (h : OneOrder f) : ∀ {xs L : List α}, SrtF f L → ((putF f L xs).length = L.length ↔ ∀ x ∈ xs, x ∈ L)
  | [], L, hL => by simp [putF]
  | x :: xs, L, hL => by
    refine ⟨fun hl => ?_, fun hx => by rw [putF_there h hL hx]⟩
    rw [putF_cons] at hl
    have h1 := putF_le (f := f) xs (wthF f L x)
    have h2 := wthF_length (f := f) x L
    have hx : x ∈ L := by
      apply Classical.byContradiction
      intro hn
      rw [if_neg hn] at h2
      omega
    have e : wthF f L x = L := by unfold wthF; rw [if_pos hx]
    rw [e] at hl
    have := (putF_none h hL).1 hl
    intro y hy
    rcases List.mem_cons.1 hy with rfl | hy
    · exact hx
    · exact this y hy
theorem SrtF.nodup {α : Type} {f : α → α → Int} (h : OneOrder f) {L : List α} (hL : SrtF f L) : L.Nodup := hL.imp fun hab => h.irr hab
theorem SrtF.filter {α : Type} {f : α → α → Int} {L : List α} (hL : SrtF f L) (p : α → Bool) : SrtF f (L.filter p) := List.Pairwise.filter p hL
/-! ### the log -/
deriving instance DecidableEq for O5
/-- Two operations against each other. -/
def ocF (a b : O5) : Int := opC a.n a.r a.d a.t a.l b.n b.r b.d b.t b.l
theorem ocF_order : OneOrder ocF where
  small a b := opC_small ..
  turn a b := (opC_turn ..).symm
  like a b h := by
    obtain ⟨h1, h2, h3, h4, h5⟩ := (opC_like ..).1 h
    cases a; cases b
    simp_all
  same a := (opC_like ..).2 ⟨rfl, rfl, rfl, rfl, rfl⟩
  on a b c h1 h2 := opC_on _ _ _ _ _ _ _ _ _ _ _ _ _ _ _ h1 h2
abbrev putO := putF ocF
abbrev SrtO := SrtF ocF
/-- All are right. -/
def AllR (os : List O5) : Prop := ∀ o ∈ os, o.R = true
/-- The greatest counter. -/
def topO (L : List O5) : Int := L.foldl (fun m o => max m o.n) 0
theorem topO_snoc (L : List O5) (o : O5) : topO (L ++ [o]) = max (topO L) o.n := by simp [topO]
/-! ### the tree of a log -/
theorem runS_append (a b : List O5) : runS (a ++ b) = b.foldl stp (runS a) := List.foldl_append
theorem stp_right {s : St} {o : O5} (h : o.R = true) : stp s o = (app s.1 o, s.1 :: s.2) := by
  unfold stp
  rw [if_pos h]
theorem runS_count : ∀ {os : List O5}, AllR os → ∀ s : St, (os.foldl stp s).2.length = s.2.length + os.length
  | [], _, s => rfl
  | o :: os, h, s => by
    rw [List.foldl_cons, runS_count (fun x hx => h x (by simp [hx])), stp_right (h o (by simp)), List.length_cons, List.length_cons]
    omega
/-- The nodes of a tree are those of its operations. -/
theorem app_nodes {L : List Kd} {o : O5} {k : Kd} (h : k ∈ app L o) : k ∈ L ∨ k.nd = o.d := by
  unfold app at h
  split at h
  · unfold putS at h
    rcases List.mem_append.1 h with h | h
    · exact .inl (List.mem_filter.1 h).1
    · simp at h
      subst h
      exact .inr rfl
  · exact .inl h
theorem foldS_nodes : ∀ {os : List O5} {s : St} {k : Kd}, k ∈ (os.foldl stp s).1 → k ∈ s.1 ∨ ∃ o ∈ os, o.d = k.nd
  | [], s, k, h => .inl h
  | o :: os, s, k, h => by
    rcases foldS_nodes (os := os) (s := stp s o) h with h | ⟨x, hx, e⟩
    · unfold stp at h
      split at h
      · rcases app_nodes h with h | h
        · exact .inl h
        · exact .inr ⟨o, by simp, h.symm⟩
      · exact .inl h
    · exact .inr ⟨x, by simp [hx], e⟩
theorem runS_nodes {os : List O5} {k : Kd} (h : k ∈ (runS os).1) : ∃ o ∈ os, o.d = k.nd := by
  rcases foldS_nodes h with h | h
  · simp at h
  · exact h
theorem runS_out {os : List O5} {n : Int} (h : ∀ o ∈ os, o.d ≠ n) : fnd (runS os).1 n = none := by
  cases e : fnd (runS os).1 n with
  | none => rfl
  | some k =>
    obtain ⟨h1, h2⟩ := fnd_some e
    obtain ⟨o, ho, e⟩ := runS_nodes h1
    exact absurd (e.trans h2) (h o ho)
/-! ### what changed -/
/-- Numbers, rising, each once. -/
abbrev ups (l : List Int) : List Int := putF cm [] l
theorem ups_srt (l : List Int) : SrtF cm (ups l) := putF_srt cm_order List.Pairwise.nil
theorem mem_ups {l : List Int} {n : Int} : n ∈ ups l ↔ n ∈ l := by simp [mem_putF]
theorem cm_lt {a b : Int} : cm a b < 0 ↔ a < b := by
  unfold cm
  split
  · simp_all
  · split <;> omega
/-- The nodes of some whose spots differ. -/
def dif (A B : List Kd) (ns : List Int) : List Int := (ups ns).filter fun n => fnd A n ≠ fnd B n
theorem dif_srt (A B : List Kd) (ns : List Int) : SrtF cm (dif A B ns) := (ups_srt ns).filter _
theorem mem_dif {A B : List Kd} {ns : List Int} {n : Int} : n ∈ dif A B ns ↔ n ∈ ns ∧ fnd A n ≠ fnd B n := by
  unfold dif
  rw [List.mem_filter, mem_ups]
  simp
/-- Whoever tells them, rising, tells these. -/
theorem dif_eq {A B : List Kd} {ns l : List Int} (hl : SrtF cm l) (hm : ∀ n, n ∈ l ↔ n ∈ ns ∧ fnd A n ≠ fnd B n) : dif A B ns = l :=
  srtF_ext cm_order (dif_srt A B ns) hl fun n => by rw [mem_dif, hm]
theorem dif_self (A : List Kd) (ns : List Int) : dif A A ns = [] := by
  unfold dif
  rw [List.filter_eq_nil_iff]
  simp
/-- All nodes that differ are told, if those of both lists are among them. -/
theorem dif_all {L M : List O5} (hs : ∀ o ∈ L, o ∈ M) {n : Int} : n ∈ dif (runS L).1 (runS M).1 (M.map (·.d)) ↔ fnd (runS L).1 n ≠ fnd (runS M).1 n := by
  rw [mem_dif]
  refine ⟨And.right, fun h => ⟨?_, h⟩⟩
  apply Classical.byContradiction
  intro hn
  have hM : ∀ o ∈ M, o.d ≠ n := fun o ho e => hn (List.mem_map.2 ⟨o, ho, e⟩)
  exact h (by rw [runS_out hM, runS_out fun o ho => hM o (hs o ho)])
end Go.Proofs.YtimfeocaghccdaaGreatDoor
namespace Go.Proofs.YtimfeocaghccdaaGreatDoor
open Go.RowKit Go.Maps Go.Shelf Go.Lib Go.Sort
set_option linter.unusedVariables false
set_option maxRecDepth 100000

theorem OneOrder.swo {α : Type} {f : α → α → Int} (h : OneOrder f) : SWO (ltOf f) where
  irrefl x := by show decide (f x x < 0) = false; rw [h.same]; simp
  trans x y z h1 h2 := by
    have h1' : decide (f x y < 0) = true := h1
    have h2' : decide (f y z < 0) = true := h2
    show decide (f x z < 0) = true
    rw [decide_eq_true_eq] at *
    exact h.lt_on h1' h2'
  ntrans x y z h1 h2 := by
    have h1' : decide (f x y < 0) = false := h1
    have h2' : decide (f y z < 0) = false := h2
    show decide (f x z < 0) = false
    rw [decide_eq_false_iff_not] at *
    have := h.up x y z (by omega) (by omega)
    omega
theorem OneOrder.tot {α : Type} {f : α → α → Int} (h : OneOrder f) (x y : α) (h1 : ltOf f x y = false) (h2 : ltOf f y x = false) : x = y := by
  have h1' : decide (f x y < 0) = false := h1
  have h2' : decide (f y x < 0) = false := h2
  rw [decide_eq_false_iff_not] at h1' h2'
  have := h.turn x y
  exact h.like x y (by omega)
/-- Operations in their order. -/
def sortO (l : List O5) : List O5 := l.mergeSort fun x y => !ltOf ocF y x
theorem sortO_perm (l : List O5) : (sortO l).Perm l := List.mergeSort_perm _ _
theorem sortO_length (l : List O5) : (sortO l).length = l.length := (sortO_perm l).length_eq
theorem sortO_sorted (l : List O5) : (sortO l).Pairwise fun x y => ocF x y ≤ 0 := by
  have h := List.pairwise_mergeSort (le := fun x y => !ltOf ocF y x) (fun a b c h1 h2 => by
    have h1' : (!decide (ocF b a < 0)) = true := h1
    have h2' : (!decide (ocF c b < 0)) = true := h2
    show (!decide (ocF c a < 0)) = true
    simp only [Bool.not_eq_true', decide_eq_false_iff_not] at *
    have := ocF_order.up c b a (by omega) (by omega)
    omega) (fun a b => by
    show ((!decide (ocF b a < 0)) || (!decide (ocF a b < 0))) = true
    simp only [Bool.or_eq_true, Bool.not_eq_true', decide_eq_false_iff_not]
    have := ocF_order.turn a b
    omega) l
  refine h.imp ?_
  intro a b hab
  have hab' : (!decide (ocF b a < 0)) = true := hab
  simp only [Bool.not_eq_true', decide_eq_false_iff_not] at hab'
  have := ocF_order.turn a b
  omega
instance : Inhabited O5 := ⟨⟨0, 0, 0, 0, []⟩⟩
theorem cmp_lays (blk off size : Nat) (w : World) : CmpLays Tryz.prog 55 #[] oc 5 ocF blk off size w :=
  fun _ _ _ _ x y => (ocmp_d x.n x.r x.d x.t x.l y.n y.r y.d y.t y.l _).mono fun e w' h => ⟨h.1, h.2.grow⟩
theorem oflat_at (ks : List O5) (t : Nat) (ht : t < ks.length * 5) : (flatK oc 5 ks.toArray)[t]! = (ocs ks)[t]! := by
  rw [get_flatK _ _ _ t (by simpa using ht)]
  have h1 : t / 5 < ks.length := by omega
  have h2 := ocs_at ks (t / 5) (t % 5) h1 (by omega)
  rw [show t / 5 * 5 + t % 5 = t by omega] at h2
  have h3 : (ks.toArray)[t / 5]! = ks[t / 5] := by simp [h1]
  rw [h3, List.getElem!_eq_getElem?_getD, List.getElem!_eq_getElem?_getD, h2]
theorem OwnOps.holds {w : World} {base g cap : Nat} {ks : List O5} (h : OwnOps w base (.slice (some ⟨g, 0, none⟩) ks.length cap) ks) (hb : ∃ cur, w.heap[g]? = some (.cells cur 50 (0, 0))) : HoldsK oc 5 w g 0 ks.toArray := by
  intro j hj
  have hj' : j < ks.length * 5 := by simpa using hj
  have hl := ocs_length ks
  have hc := World.ownsRow.cells (g := g) h rfl j (ocs ks)[j]! (by rw [List.getElem!_eq_getElem?_getD]; rw [List.getElem?_eq_getElem (by omega)]; rfl)
  obtain ⟨cur, hcur⟩ := hb
  refine ⟨?_, Joins.unfrozen_of_block hcur _⟩
  rw [oflat_at ks j hj']
  rw [Addr.add_lit] at hc
  exact hc
theorem osorted_row {w : World} {g cap : Nat} {ks : List O5} {base n : Nat} {os : Array Obj} (h : OwnOps w base (.slice (some ⟨g, 0, none⟩) ks.length cap) ks) :
    OwnOps (sortWorldK oc 5 w g 0 n (sortO ks).toArray os) base (.slice (some ⟨g, 0, none⟩) ks.length cap) (sortO ks) ∧ w.grownBy (sortWorldK oc 5 w g 0 n (sortO ks).toArray os) (some g) := by
  have hlen := sortO_length ks
  rcases h.2 with ⟨h0, _⟩ | ⟨g', cap', cur, h0, h2, h3, h4, h5, h6, h7⟩
  · cases h0
  injection h0 with e1 e2 e3
  injection e1 with e1
  injection e1 with e1
  subst e1 e3
  have hg : g < w.heap.size := (Array.getElem?_eq_some_iff.1 h3).1
  refine ⟨⟨by rw [ocs_length, hlen], .inr ⟨g, cap, putCells id 0 (flatK oc 5 (sortO ks).toArray) cur, by rw [hlen], h2, ?_, by omega, h5, by simp [putCells, h6], ?_⟩⟩, ?_⟩
  · unfold sortWorldK
    rw [heap_grow_old _ _ (by simpa [putRowK] using hg)]
    show ((Sort.ahead w n).heap.modify g (onCells _))[g]? = _
    rw [Array.getElem?_modify, if_pos rfl]
    show Option.map _ w.heap[g]? = _
    rw [h3]
    rfl
  · apply List.ext_getElem?
    intro t
    rw [List.getElem?_take]
    split
    · rename_i ht
      have hts : t < cur.size := by rw [h6]; omega
      rw [Array.getElem?_toList, putCells, Array.getElem?_mapIdx, Array.getElem?_eq_getElem hts]
      have hfl : t < (flatK oc 5 (sortO ks).toArray).size := by simp; omega
      simp only [Option.map_some, Nat.zero_le, Nat.zero_add, true_and, hfl, if_true, Nat.sub_zero, id]
      rw [oflat_at _ t (by omega), List.getElem!_eq_getElem?_getD, List.getElem?_eq_getElem (by rw [ocs_length]; omega)]
      rfl
    · rw [List.getElem?_eq_none (by rw [ocs_length]; omega)]
  · refine ⟨rfl, rfl, rfl, ?_, fun k hk hne => ?_⟩
    · unfold sortWorldK
      simp [putRowK]
    · unfold sortWorldK
      rw [heap_grow_old _ _ (by simpa [putRowK] using hk)]
      show ((Sort.ahead w n).heap.modify g (onCells _))[k]? = _
      rw [Array.getElem?_modify, if_neg (by intro e; exact hne (by rw [e]))]
      rfl
theorem osort_any (base : Nat) (v : Value) (ks : List O5) (w : World) (h : OwnOps w base v ks) (hl : ks.length ≤ 1000000) :
    Calls Tryz.prog 54 #[v, .func (.func 55) #[] #[]] w (fun e w' => e = .returned (.tuple #[]) ∧ OwnOps w' base v (sortO ks) ∧ w.grownBy w' v.ownBlock) := by
  have hrefl : w.grownBy w v.ownBlock := ⟨rfl, rfl, rfl, Nat.le_refl _, fun _ _ _ => rfl⟩
  by_cases h0 : ks = []
  · subst h0
    have e : sortO [] = [] := by simp [sortO]
    rw [e]
    have h' := h
    rcases h'.2 with ⟨rfl, _⟩ | ⟨g, cap, cur, rfl, _⟩
    · refine (AnyF.slices_SortFunc_none { Tryz.sortO with } none 0 _ w).mono ?_
      rintro x w' ⟨rfl, rfl⟩
      exact ⟨rfl, h, hrefl⟩
    · refine (AnyF.slices_SortFunc_none { Tryz.sortO with } (some ⟨g, 0, none⟩) cap _ w).mono ?_
      rintro x w' ⟨rfl, rfl⟩
      exact ⟨rfl, h, hrefl⟩
  · have hp : 0 < ks.length := List.length_pos_iff.2 h0
    have h' := h
    rcases h'.2 with ⟨rfl, h1⟩ | ⟨g, cap, cur, rfl, h2, h3, h4⟩
    · omega
    · have hg : g < w.heap.size := (Array.getElem?_eq_some_iff.1 h3).1
      have eg : ∀ args w, (callFunc 55 args).run Tryz.prog w = .ok (.enter 55 args) w := enters_of Tryz.func55 (by kernel_rfl) rfl
      have hc := AnyQ.slices_SortFunc_total Tryz.sortO 5 (fun w => by kernel_rfl) (fun w => by kernel_rfl) oc (fun _ => rfl) (fun x u hu => ocs_one [x] u (by simpa [ocs] using hu)) ocF ocF_order.swo 55 #[] g 0 cap ks.toArray w eg (cmp_lays g 0 _ w) (h.holds ⟨cur, h3⟩) hg (by simp; omega) ocF_order.tot
      have hc' : Calls Tryz.prog 54 #[.slice (some ⟨g, 0, none⟩) ks.length cap, .func (.func 55) #[] #[]] w _ := hc
      refine hc'.mono ?_
      rintro x w' ⟨rfl, n, os, rfl⟩
      have := osorted_row (n := n) (os := os) h
      exact ⟨rfl, this.1, this.2⟩
end Go.Proofs.YtimfeocaghccdaaGreatDoor
namespace Go.Proofs.YtimfeocaghccdaaGreatDoor
open Go.RowKit
set_option linter.unusedVariables false

/-- Are two operations one? -/
def opE (n r d t : Int) (l : List UInt8) (m s e u : Int) (k : List UInt8) : Bool := decide (n = m ∧ r = s ∧ d = e ∧ t = u ∧ l = k)
set_option maxRecDepth 100000 in
theorem st_eql (dp : Nat) (n r m s : Int) (w : World) :
    (Op.equalIn (dp + 1 + 1) 48 (.agg #[.int .i64 n, .int .i64 r]) (.agg #[.int .i64 m, .int .i64 s])).run Tryz.prog w = .ok (decide (n = m ∧ r = s)) w := by
  have u3 := Tryz.underlying3
  have a3 := Tryz.isAgg3
  have z3 := Tryz.sizeOf3
  rw [run_equalIn_agg w (dp + 1) 48 _ _ (by kernel_rfl) (by kernel_rfl)]
  simp only [Program.fieldsOf, Tryz.underlying48]
  go_simp
  by_cases h1 : n = m <;> by_cases h2 : r = s <;> simp [h1, h2]
set_option maxRecDepth 100000 in
theorem op_eql (n r d t : Int) (l : List UInt8) (m s e u : Int) (k : List UInt8) (w : World) :
    (binOp .eql 50 (opv n r d t l) (opv m s e u k)).run Tryz.prog w = .ok (.bool (opE n r d t l m s e u k)) w := by
  have u3 := Tryz.underlying3
  have a3 := Tryz.isAgg3
  have z3 := Tryz.sizeOf3
  have u9 := Tryz.underlying9
  have a9 := Tryz.isAgg9
  have z9 := Tryz.sizeOf9
  have a23 := Tryz.isAgg48
  have z23 := Tryz.sizeOf48
  have hst := fun dp => st_eql dp n r m s
  unfold opv opE
  rw [run_eql_struct, show (10000 : Nat) = 9997 + 1 + 1 + 1 from rfl, run_equalIn_agg w (9997 + 1 + 1) 50 _ _ (by kernel_rfl) (by kernel_rfl)]
  simp only [Program.fieldsOf, Tryz.underlying50]
  go_simp
  rw [bs_list, bs_list]
  by_cases h1 : n = m <;> by_cases h2 : r = s <;> by_cases h3 : d = e <;> by_cases h4 : t = u <;> by_cases h5 : l = k <;> simp [h1, h2, h3, h4, h5]
end Go.Proofs.YtimfeocaghccdaaGreatDoor
namespace Go.Proofs.YtimfeocaghccdaaGreatDoor
open Go.RowKit
set_option linter.unusedVariables false
set_option maxRecDepth 100000

theorem opE_eq (a b : O5) : opE a.n a.r a.d a.t a.l b.n b.r b.d b.t b.l = decide (a = b) := by
  obtain ⟨n, r, d, t, l⟩ := a
  obtain ⟨m, s, e, u, k⟩ := b
  simp only [opE, O5.mk.injEq]
def SameRel (w : World) (a b : List O5) (i : Value) (wr : World) : Prop := ∃ k : Nat, k ≤ a.length ∧ i = .int .i64 (k : Int) ∧ decide (a.drop k = b.drop k) = decide (a = b) ∧ Below w.heap.size w wr
theorem same_step (a b : List O5) (k : Nat) (h : k < a.length) (h' : k < b.length) : decide (a.drop k = b.drop k) = (decide (a[k] = b[k]) && decide (a.drop (k + 1) = b.drop (k + 1))) := by
  rw [List.drop_eq_getElem_cons h, List.drop_eq_getElem_cons h']
  simp only [List.cons.injEq, Bool.decide_and]
theorem op_neq (a b : O5) (w : World) : (binOp .neq 50 (.agg #[.int .i64 a.n, .int .i64 a.r, .int .i64 a.d, .int .i64 a.t, .string (bs a.l)]) (.agg #[.int .i64 b.n, .int .i64 b.r, .int .i64 b.d, .int .i64 b.t, .string (bs b.l)])).run Tryz.prog w = .ok (.bool (!decide (a = b))) w := by
  rw [← opE_eq]
  have u3 := Tryz.underlying3
  have a3 := Tryz.isAgg3
  have z3 := Tryz.sizeOf3
  have u9 := Tryz.underlying9
  have a9 := Tryz.isAgg9
  have z9 := Tryz.sizeOf9
  have a23 := Tryz.isAgg48
  have z23 := Tryz.sizeOf48
  have hst := fun dp => st_eql dp a.n a.r b.n b.r
  unfold opE
  rw [run_neq_struct, show (10000 : Nat) = 9997 + 1 + 1 + 1 from rfl, run_equalIn_agg w (9997 + 1 + 1) 50 _ _ (by kernel_rfl) (by kernel_rfl)]
  simp only [Program.fieldsOf, Tryz.underlying50]
  go_simp
  rw [bs_list, bs_list]
  by_cases h1 : a.n = b.n <;> by_cases h2 : a.r = b.r <;> by_cases h3 : a.d = b.d <;> by_cases h4 : a.t = b.t <;> by_cases h5 : a.l = b.l <;> simp [h1, h2, h3, h4, h5]
set_option maxHeartbeats 1000000 in
theorem sameOps_any (A : Option Addr) (c : Nat) (a : List O5) (A' : Option Addr) (c' : Nat) (b : List O5) (w : World) (hn : a.length ≤ 1000000) (hn' : b.length ≤ 1000000) (h : Ops w A c a) (h' : Ops w A' c' b) :
    Calls Tryz.prog 14 #[.slice A a.length c, .slice A' b.length c'] w (BoolRet (decide (a = b)) w) := by
  have HA := hide h
  have HB := hide h'
  clear h h'
  go_enter Tryz.func14, Tryz.ntmps14
  by_cases hl : a.length = b.length
  · have HL := hide hl
    have d0 : ((a.length : Int) != (b.length : Int)) = false := by simp; omega
    clear hl
    go_wp2_with fail
    go_loopw [5] (SameRel w a b) (fun i _ => a.length - (intOf i).toNat)
    case atStart => exact ⟨0, Nat.zero_le _, rfl, rfl, Below.refl _ _⟩
    case round =>
      obtain ⟨k, hk, rfl, hs, hb⟩ := hrel
      have HS := hide hs
      have BB := hide hb
      clear hs hb
      by_cases hlt : k < a.length
      · have hlt' : k < b.length := by have := HL.out; omega
        obtain ⟨g, o, rfl, hat⟩ := (HA.out.below BB.out).lit (by omega)
        obtain ⟨g', o', rfl, hat'⟩ := (HB.out.below BB.out).lit (by omega)
        obtain ⟨c0, c1, c2, c3, c4⟩ := hat.five k hlt
        obtain ⟨e0, e1, e2, e3, e4⟩ := hat'.five k hlt'
        have ST := hide (same_step a b k hlt hlt')
        generalize a[k]'hlt = x at c0 c1 c2 c3 c4 ST
        generalize b[k]'hlt' = y at e0 e1 e2 e3 e4 ST
        have hq := op_neq x y
        clear hat hat'
        have i1 : (k : Int) < (a.length : Int) := by omega
        have i2 : (k : Int) < (b.length : Int) := by omega
        have i0 : (0 : Int) ≤ (k : Int) := by omega
        by_cases hxy : x = y
        · have E := hide (show decide (a.drop (k + 1) = b.drop (k + 1)) = decide (a = b) by rw [← HS.out, ST.out, decide_eq_true hxy, Bool.true_and])
          rw [decide_eq_true hxy] at hq
          clear hxy ST
          go_wp2_with fail
          go_quiet (fail)
          go_wp2
          go_roundw
          case rel => exact ⟨k + 1, by omega, by go_num, E.out, belowD' BB.out _⟩
          case measure => simp [intOf]; omega
        · have E := hide (show decide (a = b) = false by rw [← HS.out, ST.out, decide_eq_false hxy, Bool.false_and])
          rw [decide_eq_false hxy] at hq
          clear hxy ST
          go_wp2_with fail
          go_quiet (fail)
          go_wp2
          go_ret
          rw [E.out]
          exact ⟨rfl, belowD' BB.out _⟩
      · obtain rfl : k = a.length := by omega
        have E := hide (show decide (a = b) = true by rw [← HS.out, List.drop_length, HL.out, List.drop_length]; rfl)
        go_wp2
        go_ret
        rw [E.out]
        exact ⟨rfl, BB.out⟩
  · have d0 : ((a.length : Int) != (b.length : Int)) = true := by simp; omega
    have E := hide (show decide (a = b) = false by simp; rintro rfl; exact hl rfl)
    go_wp2
    go_ret
    rw [E.out]
    exact ⟨rfl, Below.refl _ _⟩
end Go.Proofs.YtimfeocaghccdaaGreatDoor
namespace Go.Proofs.YtimfeocaghccdaaGreatDoor
open Go.RowKit Go.Maps Go.Shelf
set_option linter.unusedVariables false
set_option linter.unusedSimpArgs false
set_option maxRecDepth 100000

theorem OwnOps.nil (w : World) (base : Nat) : OwnOps w base (.slice none 0 0) [] := World.ownsRow_nil w base _ _
theorem own_empty5 (w : World) : (w.alloc (.cells #[] 50)).ownsRow w.heap.size 50 5 (.slice (some ⟨w.heap.size, 0, none⟩) 0 0) 0 [] :=
  ⟨rfl, .inr ⟨w.heap.size, 0, #[], rfl, Nat.le_refl _, heap_alloc_new w _, Nat.le_refl _, by simp [maxLen], rfl, rfl⟩⟩
def OCloneRet (w : World) (os : List O5) (e : Ending) (w' : World) : Prop := ∃ v, e = .returned v ∧ OwnOps w' w.heap.size v os ∧ Below w.heap.size w w'
set_option maxHeartbeats 1000000 in
theorem oclone_any (A : Option Addr) (c : Nat) (os : List O5) (hp : os.length < 1000000) (w : World) (h : Ops w A c os) : Calls Tryz.prog 39 #[.slice A os.length c] w (OCloneRet w os) := by
  cases A with
  | none =>
    have e : os = [] := h.nil rfl
    subst e
    have hq := run_eql_slice_nil (P := Tryz.prog) w 27 50 none 0 c Tryz.underlying27
    clear h hp
    go_enter Tryz.func39, Tryz.ntmps39
    go_wp2
    go_ret
    exact ⟨_, rfl, OwnOps.nil _ _, Below.refl _ _⟩
  | some ad =>
    obtain ⟨i0, hi0, hz0, hz1, hz2⟩ := info_parts opinfo
    have HO := hide (own_empty5 w)
    have Bz := (Below.refl w.heap.size w).alloc (Nat.le_refl _) (.cells #[] 50)
    have HC := hide (show ∀ j u, (ocs os)[j]? = some u → (w.alloc (.cells #[] 50)).cell? (ad.add j) = some u from fun j u hu => by
      have hl := ocs_length os
      have hj : j < (ocs os).length := (List.getElem?_eq_some_iff.1 hu).1
      obtain ⟨b, o, e, hat⟩ := h.lit (by omega)
      cases e
      have := hat j u hu
      rw [Addr.add_lit]
      exact (Bz.cell (World.block_lt_of_cell? w _ this)).trans this)
    have HB := hide Bz
    have hl : (ocs os).length = os.length * 5 := ocs_length os
    have HLN := hide hl
    clear h Bz hl
    have hq := run_eql_slice_nil (P := Tryz.prog) w 27 50 (some ad) os.length c Tryz.underlying27
    go_enter Tryz.func39, Tryz.ntmps39
    go_wp2_with (at_builtin; refine wpList_append_own_at _ rfl _ _ 27 rfl w.heap.size 50 i0 _ 5 48 Tryz.underlying27 hi0 hz0 hz1 hz2 rfl (by decide) _ 0 [] rfl HO.out ad os.length c (ocs os) rfl HLN.out HC.out (ocs_one _) (by unfold maxLen; omega) (by omega) (by simp) ?_)
    intro v' w' hown hgr hnil hat
    have HW := hide (show OwnOps w' w.heap.size v' os from hown)
    have HB2 := hide (HB.out.grown hgr (by simp) (fun k hk => by simp [Value.ownBlock] at hk; omega))
    have HF := hide (show ∃ A c, v' = .slice A os.length c by
      obtain ⟨A, c, e, _⟩ := HW.out.ops
      exact ⟨A, c, e⟩)
    clear hown hgr hnil hat HO HC HB HLN
    go_wp2
    go_ret
    exact ⟨_, rfl, HW.out, HB2.out⟩
end Go.Proofs.YtimfeocaghccdaaGreatDoor
namespace Go.Proofs.YtimfeocaghccdaaGreatDoor
open Go.RowKit Go.Maps Go.Shelf
set_option linter.unusedVariables false
set_option linter.unusedSimpArgs false
set_option maxRecDepth 100000

/-- How many stand ahead of one. -/
def plc (L : List O5) (o : O5) : Nat := (L.takeWhile fun y => decide (ocF y o < 0)).length
theorem plc_eq {L : List O5} {o : O5} {i : Nat} (hi : i ≤ L.length) (h1 : ∀ y ∈ L.take i, ocF y o < 0) (h2 : ∀ y ∈ L.drop i, ¬ ocF y o < 0) : plc L o = i := by
  unfold plc
  have e : L.takeWhile (fun y => decide (ocF y o < 0)) = L.take i := by
    conv => lhs; rw [← List.take_append_drop i L]
    rw [List.takeWhile_append_of_pos (by intro y hy; simpa using h1 y hy)]
    cases hd : L.drop i with
    | nil => simp
    | cons y t =>
      have := h2 y (by rw [hd]; simp)
      rw [List.takeWhile_cons_of_neg (by simpa using this)]
      simp
  rw [e, List.length_take]
  omega
theorem cellk {w w' : World} {a : Addr} {v : Value} (hb : Below w.heap.size w w') (h : w.cell? a = some v) : w'.cell? a = some v := (hb.cell (World.block_lt_of_cell? w _ h)).trans h
structure At (L : List O5) (o : O5) (i j : Nat) : Prop where
  le : i ≤ j
  len : j ≤ L.length
  lo : ∀ y ∈ L.take i, ocF y o < 0
  hi : ∀ y ∈ L.drop j, ¬ ocF y o < 0
theorem At.start (L : List O5) (o : O5) : At L o 0 L.length := ⟨Nat.zero_le _, Nat.le_refl _, by simp, by simp⟩
theorem At.up {L : List O5} {o : O5} {i j h : Nat} (hs : SrtO L) (a : At L o i j) (h1 : i ≤ h) (h2 : h < j) (hl : h < L.length) (hc : ocF L[h] o < 0) : At L o (h + 1) j := by
  refine ⟨h2, a.len, ?_, a.hi⟩
  intro y hy
  rw [List.take_succ_eq_append_getElem hl] at hy
  rcases List.mem_append.1 hy with hy | hy
  · obtain ⟨k, hk, rfl⟩ := List.mem_iff_getElem.1 hy
    rw [List.length_take] at hk
    rw [List.getElem_take]
    exact ocF_order.lt_on (List.pairwise_iff_getElem.1 hs k h (by omega) hl (by omega)) hc
  · simp at hy
    rw [hy]
    exact hc
theorem At.down {L : List O5} {o : O5} {i j h : Nat} (hs : SrtO L) (a : At L o i j) (h1 : i ≤ h) (h2 : h < j) (hl : h < L.length) (hc : ¬ ocF L[h] o < 0) : At L o i h := by
  refine ⟨h1, by omega, a.lo, ?_⟩
  intro y hy
  rw [List.drop_eq_getElem_cons hl] at hy
  rcases List.mem_cons.1 hy with rfl | hy
  · exact hc
  · obtain ⟨k, hk, rfl⟩ := List.mem_iff_getElem.1 hy
    rw [List.length_drop] at hk
    rw [List.getElem_drop]
    have := List.pairwise_iff_getElem.1 hs h (h + 1 + k) hl (by omega) (by omega)
    intro hn
    exact hc (ocF_order.lt_on this hn)
theorem At.plc {L : List O5} {o : O5} {i : Nat} (a : At L o i i) : Proofs.YtimfeocaghccdaaGreatDoor.plc L o = i := plc_eq a.len a.lo a.hi
/-- Is it there? -/
theorem At.none {L : List O5} {o : O5} {i : Nat} (a : At L o i i) (hi : ¬ i < L.length) : o ∉ L := by
  intro ho
  have e : L.take i = L := List.take_of_length_le (by omega)
  have := a.lo o (by rw [e]; exact ho)
  rw [ocF_order.same] at this
  omega
theorem mem_drop_self {α : Type} {L : List α} {i : Nat} (hi : i < L.length) : L[i] ∈ L.drop i := by
  rw [List.drop_eq_getElem_cons hi]
  exact List.mem_cons_self
theorem At.there {L : List O5} {o : O5} {i : Nat} (hs : SrtO L) (a : At L o i i) (hi : i < L.length) : o ∈ L ↔ ocF L[i] o = 0 := by
  constructor
  · intro ho
    rw [← List.take_append_drop i L, List.mem_append] at ho
    rcases ho with ho | ho
    · have := a.lo o ho
      rw [ocF_order.same] at this
      omega
    · rw [List.drop_eq_getElem_cons hi] at ho
      rcases List.mem_cons.1 ho with e | ho
      · rw [← e, ocF_order.same]
      · obtain ⟨k, hk, e⟩ := List.mem_iff_getElem.1 ho
        rw [List.length_drop] at hk
        rw [List.getElem_drop] at e
        have := List.pairwise_iff_getElem.1 hs i (i + 1 + k) hi (by omega) (by omega)
        rw [e] at this
        exact absurd this (a.hi _ (mem_drop_self hi))
  · intro e
    rw [← ocF_order.like _ _ e]
    exact List.getElem_mem hi
def SrchRel (w : World) (L : List O5) (o : O5) (vi vj : Value) (wr : World) : Prop :=
  ∃ i j : Nat, vi = .int .i64 (i : Int) ∧ vj = .int .i64 (j : Int) ∧ At L o i j ∧ Below w.heap.size w wr ∧ Bo wr w.heap.size o.n o.r o.d o.t o.l
def SrchRet (w : World) (L : List O5) (o : O5) (e : Ending) (w' : World) : Prop :=
  e = .returned (.tuple #[.int .i64 (plc L o : Int), .bool (decide (o ∈ L))]) ∧ Below w.heap.size w w'
set_option maxHeartbeats 2000000 in
theorem srch_any (A : Option Addr) (c : Nat) (L : List O5) (o : O5) (hs : SrtO L) (hn : L.length ≤ 1000000) (w : World) (h : Ops w A c L) :
    Calls Tryz.prog 73 #[.slice A L.length c, .agg #[.int .i64 o.n, .int .i64 o.r, .int .i64 o.d, .int .i64 o.t, .string (bs o.l)], .func (.func 55) #[] #[]] w (SrchRet w L o) := by
  have HO := hide h
  have HS := hide hs
  have B0 := hide (Bo.new w o.n o.r o.d o.t o.l 50)
  have KC := hide (fun (x : O5) W => ocmp_any x.n x.r x.d x.t x.l o.n o.r o.d o.t o.l W)
  unfold opv at KC
  clear h hs
  go_enter Tryz.func73, Tryz.ntmps73
  go_wp2_with fail
  go_loopw [9, 10] (SrchRel w L o) (fun i j _ => (intOf j).toNat - (intOf i).toNat)
  case atStart => exact ⟨0, L.length, rfl, rfl, At.start L o, (Below.refl _ _).alloc (Nat.le_refl _) _, B0.out⟩
  case round =>
    obtain ⟨i, j, rfl, rfl, hA, hB, hb⟩ := hrel
    have HA := hide hA
    have HB := hide hB
    have hlen := hA.len
    by_cases hlt : i < j
    · have i1 : (i : Int) < (j : Int) := by omega
      obtain ⟨b, of, rfl, hat⟩ := (HO.out.below hB).lit (by omega)
      clear hA hB
      go_upto_region 5 with (fail)
      obtain ⟨h, eh⟩ : ∃ h : Nat, ((i : Int) + (j : Int)) / 2 = (h : Int) := ⟨(i + j) / 2, by omega⟩
      have h1 : i ≤ h := by omega
      have h2 : h < j := by omega
      rw [eh]
      clear eh
      have h3 : h < L.length := by omega
      have i2 : (h : Int) < (L.length : Int) := by omega
      have i3 : (0 : Int) ≤ (h : Int) := by omega
      obtain ⟨c0, c1, c2, c3, c4⟩ := hat.five h h3
      obtain ⟨e0, e1, e2, e3, e4⟩ := hb
      have HU := hide (fun hc => HA.out.up HS.out h1 h2 h3 hc)
      have HD := hide (fun hc => HA.out.down HS.out h1 h2 h3 hc)
      have KX := hide (KC.out (L[h]))
      change Hid (∀ W : World, Calls _ _ _ W (NumRet (ocF L[h] o) W)) at KX
      generalize L[h] = x at c0 c1 c2 c3 c4 HU HD KX
      clear hat
      have hS0 := And.intro c0 (And.intro c1 (And.intro c2 (And.intro c3 (And.intro c4 (And.intro e0 (And.intro e1 (And.intro e2 (And.intro e3 e4))))))))
      go_wp2_with fail
      go_region_held3 (fun w' => w'.cell? ⟨b, of + h * 5, none⟩ = some (.int .i64 x.n) ∧ w'.cell? ⟨b, of + h * 5 + 1, none⟩ = some (.int .i64 x.r) ∧ w'.cell? ⟨b, of + h * 5 + 2, none⟩ = some (.int .i64 x.d) ∧ w'.cell? ⟨b, of + h * 5 + 3, none⟩ = some (.int .i64 x.t) ∧ w'.cell? ⟨b, of + h * 5 + 4, none⟩ = some (.string (bs x.l)) ∧ w'.cell? ⟨w.heap.size, 0, none⟩ = some (.int .i64 o.n) ∧ w'.cell? ⟨w.heap.size, 1, none⟩ = some (.int .i64 o.r) ∧ w'.cell? ⟨w.heap.size, 2, none⟩ = some (.int .i64 o.d) ∧ w'.cell? ⟨w.heap.size, 3, none⟩ = some (.int .i64 o.t) ∧ w'.cell? ⟨w.heap.size, 4, none⟩ = some (.string (bs o.l)))
        (first | with_reducible exact hS1 | with_reducible exact hS0 | go_keep)
        (first
          | (go_at_call 55
             (with_reducible refine (KX.out _).mono ?_)
             rintro e w1 ⟨rfl, hb1⟩
             have hb1' : Below wr.heap.size wr w1 := ⟨hb1.os, hb1.tape, hb1.output, hb1.size, hb1.block⟩
             have hS1 := And.intro (cellk hb1' c0) (And.intro (cellk hb1' c1) (And.intro (cellk hb1' c2) (And.intro (cellk hb1' c3) (And.intro (cellk hb1' c4) (And.intro (cellk hb1' e0) (And.intro (cellk hb1' e1) (And.intro (cellk hb1' e2) (And.intro (cellk hb1' e3) (cellk hb1' e4)))))))))
             have B1 := hide hb1'
             clear hb1 hb1'))
      have B2 := hide (HB.out.trans (B1.out.mono HB.out.size))
      have HBo := hide (show Bo w1 w.heap.size o.n o.r o.d o.t o.l from hS1.2.2.2.2.2)
      clear hS0 c0 c1 c2 c3 c4 e0 e1 e2 e3 e4 KX B1
      by_cases hc : ocF x o < 0
      · have HN := hide (HU.out hc)
        have hc' : decide (ocF x o < 0) = true := decide_eq_true hc
        go_wp2_with fail
        go_roundw
        case rel => exact ⟨h + 1, j, by go_num, rfl, HN.out, B2.out, HBo.out⟩
        case measure => simp [intOf]; omega
      · have HN := hide (HD.out (by omega))
        have hc' : decide (ocF x o < 0) = false := decide_eq_false hc
        go_wp2_with fail
        go_roundw
        case rel => exact ⟨i, h, rfl, rfl, HN.out, B2.out, HBo.out⟩
        case measure => simp [intOf]; omega
    · obtain rfl : i = j := by have := hA.le; omega
      have HP := hide hA.plc
      have i1 : ¬ (i : Int) < (i : Int) := by omega
      by_cases hi : i < L.length
      · obtain ⟨b, of, rfl, hat⟩ := (HO.out.below hB).lit (by omega)
        have HT := hide (hA.there HS.out hi)
        obtain ⟨c0, c1, c2, c3, c4⟩ := hat.five i hi
        obtain ⟨e0, e1, e2, e3, e4⟩ := hb
        have KX := hide (KC.out (L[i]))
        change Hid (∀ W : World, Calls _ _ _ W (NumRet (ocF L[i] o) W)) at KX
        generalize L[i] = x at c0 c1 c2 c3 c4 KX HT
        have i2 : (i : Int) < (L.length : Int) := by omega
        have i3 : (0 : Int) ≤ (i : Int) := by omega
        have hS0 := And.intro c0 (And.intro c1 (And.intro c2 (And.intro c3 (And.intro c4 (And.intro e0 (And.intro e1 (And.intro e2 (And.intro e3 e4))))))))
        clear hat hA hB
        go_wp2_with fail
        go_region_held3 (fun w' => w'.cell? ⟨b, of + i * 5, none⟩ = some (.int .i64 x.n) ∧ w'.cell? ⟨b, of + i * 5 + 1, none⟩ = some (.int .i64 x.r) ∧ w'.cell? ⟨b, of + i * 5 + 2, none⟩ = some (.int .i64 x.d) ∧ w'.cell? ⟨b, of + i * 5 + 3, none⟩ = some (.int .i64 x.t) ∧ w'.cell? ⟨b, of + i * 5 + 4, none⟩ = some (.string (bs x.l)) ∧ w'.cell? ⟨w.heap.size, 0, none⟩ = some (.int .i64 o.n) ∧ w'.cell? ⟨w.heap.size, 1, none⟩ = some (.int .i64 o.r) ∧ w'.cell? ⟨w.heap.size, 2, none⟩ = some (.int .i64 o.d) ∧ w'.cell? ⟨w.heap.size, 3, none⟩ = some (.int .i64 o.t) ∧ w'.cell? ⟨w.heap.size, 4, none⟩ = some (.string (bs o.l)))
          (first | with_reducible exact hS1 | with_reducible exact hS0 | go_keep)
          (first
            | (go_at_call 55
               (with_reducible refine (KX.out _).mono ?_)
               rintro e w1 ⟨rfl, hb1⟩
               have hb1' : Below wr.heap.size wr w1 := ⟨hb1.os, hb1.tape, hb1.output, hb1.size, hb1.block⟩
               have hS1 := And.intro (cellk hb1' c0) (And.intro (cellk hb1' c1) (And.intro (cellk hb1' c2) (And.intro (cellk hb1' c3) (And.intro (cellk hb1' c4) (And.intro (cellk hb1' e0) (And.intro (cellk hb1' e1) (And.intro (cellk hb1' e2) (And.intro (cellk hb1' e3) (cellk hb1' e4)))))))))
               have B1 := hide hb1'
               clear hb1 hb1'))
        have B2 := hide (HB.out.trans (B1.out.mono HB.out.size))
        clear hS0 c0 c1 c2 c3 c4 e0 e1 e2 e3 e4 KX B1
        go_wp2
        go_ret2
        refine ⟨?_, B2.out⟩
        rw [HP.out]
        by_cases hc : ocF x o = 0
        · rw [decide_eq_true (HT.out.2 hc), hc]
          rfl
        · rw [decide_eq_false (fun hm => hc (HT.out.1 hm))]
          show Ending.returned (.tuple #[.int .i64 (i : Int), .bool (ocF x o == 0)]) = _
          rw [show (ocF x o == 0) = false by simpa using hc]
      · have HT := hide (hA.none hi)
        have i2 : ¬ (i : Int) < (L.length : Int) := by omega
        clear hA hB
        go_wp2_with fail
        go_quiet (fail)
        go_wp2
        go_ret2
        refine ⟨?_, belowD' HB.out _⟩
        rw [HP.out, decide_eq_false HT.out]
        rfl
end Go.Proofs.YtimfeocaghccdaaGreatDoor
namespace Go.Proofs.YtimfeocaghccdaaGreatDoor
open Go.RowKit Go.Maps
set_option linter.unusedVariables false
set_option linter.unusedSimpArgs false
set_option maxRecDepth 100000

theorem lopSize (w : World) : (Go.sizeOf 50).run Tryz.prog w = .ok 5 w := by kernel_rfl
theorem lopUnder : Tryz.prog.underlying 27 = some (.slice (Tryz.prog.elem 27)) := by simp [Program.elem, Tryz.underlying27]
theorem lopElem : Tryz.prog.elem 27 = 50 := by simp [Program.elem, Tryz.underlying27]
theorem lops_head (A : Option Addr) (n c q : Nat) (hq : q ≤ c) (w : World) :
    (Instr.slice 27 (.slice A n c) none (some (.int .i64 (q : Int))) none).run Tryz.prog w = .ok (.slice A q c) w := by
  rw [run_slice_h w _ _ _ _ lopUnder .i64 _ (by omega) (by omega), lopElem, lopSize]
  rcases A with _ | ad
  · simp [Result.andThen, sliced]
  · simp [Result.andThen, sliced, Addr.add]
theorem Ops.head {w : World} {A : Option Addr} {c : Nat} {os : List O5} (h : Ops w A c os) (q : Nat) : Ops w A c (os.take q) := by
  have hl : (os.take q).length ≤ os.length := by rw [List.length_take]; omega
  refine ⟨fun e => by rw [h.nil e]; simp, Nat.le_trans hl h.le, h.most, fun hp => ?_⟩
  obtain ⟨b, o, e, hat⟩ := h.lit (by omega)
  refine ⟨b, o, e, fun j u hu => hat j u ?_⟩
  have ht : ocs os = ocs (os.take q) ++ ocs (os.drop q) := by rw [← ocs_append, List.take_append_drop]
  rw [ht, List.getElem?_append_left (List.getElem?_eq_some_iff.1 hu).1]
  exact hu
theorem ocs_drop (os : List O5) (q : Nat) (hq : q ≤ os.length) (j : Nat) : (ocs (os.drop q))[j]? = (ocs os)[q * 5 + j]? := by
  have ht : ocs os = ocs (os.take q) ++ ocs (os.drop q) := by rw [← ocs_append, List.take_append_drop]
  have hl : (ocs (os.take q)).length = q * 5 := by rw [ocs_length, List.length_take, Nat.min_eq_left hq]
  rw [ht, List.getElem?_append_right (by omega), hl]
  congr 1
  omega
/-- The end of a row of operations. -/
theorem ops_tail {w : World} {A : Option Addr} {c : Nat} {os : List O5} (h : Ops w A c os) (q : Nat) (hq : q ≤ os.length) :
    ∃ A', (∀ W, (Instr.slice 27 (.slice A os.length c) (some (.int .i64 (q : Int))) none none).run Tryz.prog W = .ok (.slice A' (os.drop q).length (c - q)) W) ∧ Ops w A' (c - q) (os.drop q) ∧ (∀ b o, A = some ⟨b, o, none⟩ → q < os.length → A' = some ⟨b, o + q * 5, none⟩) := by
  have hle := h.le
  have hmo := h.most
  have hrun : ∀ W, (Instr.slice 27 (.slice A os.length c) (some (.int .i64 (q : Int))) none none).run Tryz.prog W = .ok (.slice (if c = q then A else A.map (·.add (q * 5))) (os.length - q) (c - q)) W := fun W => by
    rw [run_slice_l W _ _ _ _ lopUnder .i64 _ (by omega) (by omega), lopElem, lopSize]
    simp [Result.andThen, sliced]
  refine ⟨_, fun W => by rw [hrun W, List.length_drop], ⟨?_, by rw [List.length_drop]; omega, by omega, fun hp => ?_⟩, ?_⟩
  · intro e
    split at e
    · rename_i hc
      exact List.drop_eq_nil_of_le (by omega)
    · rw [Option.map_eq_none_iff] at e
      rw [h.nil e]
      simp
  · rw [List.length_drop] at hp
    obtain ⟨b, o, rfl, hat⟩ := h.lit (by omega)
    refine ⟨b, o + q * 5, ?_, fun j u hu => ?_⟩
    · rw [if_neg (by omega)]
      by_cases h0 : q = 0
      · subst h0
        simp [Addr.add]
      · have : q * 5 ≠ 0 := by omega
        simp [Addr.add, this, h0]
    · rw [ocs_drop os q hq] at hu
      have := hat _ u hu
      rwa [← Nat.add_assoc] at this
  · rintro b o rfl hlt
    rw [if_neg (by omega)]
    by_cases h0 : q = 0
    · subst h0
      simp [Addr.add]
    · have : q * 5 ≠ 0 := by omega
      simp [Addr.add, this, h0]
/-! ### one in another one's place -/
theorem setCells_get {g : Nat} {t : TypeId} {fz : Nat × Nat} : ∀ (vs : List Value) (o : Nat) (cur : Array Value) (w : World), w.heap[g]? = some (.cells cur t fz) → o + vs.length ≤ cur.size → ∃ cur', (w.setCells g o vs).heap[g]? = some (.cells cur' t fz) ∧ cur'.size = cur.size ∧ ∀ j, cur'[j]? = if o ≤ j ∧ j < o + vs.length then vs[j - o]? else cur[j]?
  | [], o, cur, w, h, _ => ⟨cur, h, rfl, fun j => by rw [if_neg (by simp)]⟩
  | v :: r, o, cur, w, h, hs => by
    simp only [List.length_cons] at hs
    have h1 : (w.setCell ⟨g, o, none⟩ v).heap[g]? = some (.cells (cur.setIfInBounds o v) t fz) := Joins.block_setCell h v
    obtain ⟨cur', h2, h3, h4⟩ := setCells_get r (o + 1) _ _ h1 (by simp; omega)
    refine ⟨cur', h2, by rw [h3]; simp, fun j => ?_⟩
    rw [h4 j]
    simp only [List.length_cons]
    by_cases e : j = o
    · subst e
      rw [if_neg (by omega), if_pos (by omega), Array.getElem?_setIfInBounds]
      simp
      omega
    · by_cases hj : o + 1 ≤ j ∧ j < o + 1 + r.length
      · rw [if_pos hj, if_pos (by omega)]
        obtain ⟨q, hq⟩ : ∃ q, j - o = q + 1 := ⟨j - o - 1, by omega⟩
        rw [hq, List.getElem?_cons_succ]
        congr 1
        omega
      · rw [if_neg hj, if_neg (by omega), Array.getElem?_setIfInBounds, if_neg (by omega)]
theorem ocs_set (m : List O5) (k : Nat) (x : O5) (hk : k < m.length) (j : Nat) : (ocs (m.set k x))[j]? = if k * 5 ≤ j ∧ j < k * 5 + 5 then (oc x)[j - k * 5]? else (ocs m)[j]? := by
  by_cases hj : j < m.length * 5
  · have h1 : j / 5 < m.length := by omega
    have h2 := ocs_at (m.set k x) (j / 5) (j % 5) (by rw [List.length_set]; exact h1) (by omega)
    have h3 := ocs_at m (j / 5) (j % 5) h1 (by omega)
    rw [show j / 5 * 5 + j % 5 = j by omega] at h2 h3
    rw [h2, h3]
    by_cases e : k = j / 5
    · subst e
      rw [if_pos (by omega), List.getElem_set_self]
      congr 1
      omega
    · rw [if_neg (by omega), List.getElem_set_ne e]
  · rw [if_neg (by omega), List.getElem?_eq_none (by rw [ocs_length, List.length_set]; omega), List.getElem?_eq_none (by rw [ocs_length]; omega)]
/-- One stored in another one's place. -/
theorem OwnOps.set {w : World} {base g cap : Nat} {m : List O5} (h : OwnOps w base (.slice (some ⟨g, 0, none⟩) m.length cap) m) (k : Nat) (x : O5) (hk : k < m.length) :
    OwnOps (w.setCells g (k * 5) (oc x)) base (.slice (some ⟨g, 0, none⟩) m.length cap) (m.set k x) := by
  rcases h.2 with ⟨h0, _⟩ | ⟨g', cap', cur, h0, h2, h3, h4, h5, h6, h7⟩
  · cases h0
  · obtain ⟨rfl, rfl⟩ : g' = g ∧ cap' = cap := by
      simp at h0
      exact ⟨h0.1.symm, h0.2.symm⟩
    obtain ⟨cur', c1, c2, c3⟩ := setCells_get (oc x) (k * 5) cur w h3 (by rw [h6]; simp [oc]; omega)
    have hl1 : (ocs (m.set k x)).length = m.length * 5 := by rw [ocs_length, List.length_set]
    have hc : cur'.toList.take (m.length * 5) = ocs (m.set k x) := ?_
    · unfold OwnOps
      rw [List.length_set]
      exact ⟨hl1, .inr ⟨g', cap', cur', rfl, h2, c1, h4, h5, by rw [c2]; exact h6, hc⟩⟩
    apply List.ext_getElem?
    intro j
    rw [ocs_set m k x hk, ← h7, List.getElem?_take, List.getElem?_take, Array.getElem?_toList, Array.getElem?_toList, c3 j]
    have : (oc x).length = 5 := rfl
    rw [this]
    by_cases hj : j < m.length * 5
    · rw [if_pos hj, if_pos hj]
      simp
    · rw [if_neg hj, if_neg hj, if_neg (by omega)]
theorem lmod_setCells {g : Nat} : ∀ (vs : List Value) (o : Nat) (w : World), Mod [g] w (w.setCells g o vs)
  | [], o, w => Mod.refl _ _
  | v :: r, o, w => ((Mod.refl [g] w).setCell (p := ⟨g, o, none⟩) (.inl (by simp)) v).trans (lmod_setCells r (o + 1) _) (by simp)
/-! ### the rest to zeros -/
theorem lzero_op (w : World) : (zeroValue 50).run Tryz.prog w = .ok (opv 0 0 0 0 []) w := by kernel_rfl
theorem zero_one (n : Nat) : ∀ v ∈ (Builtin.zeroCells (opv 0 0 0 0 []).cells n).toList, v.oneCell' = true := by
  intro v hv
  have hc : (opv 0 0 0 0 []).cells = #[.int .i64 0, .int .i64 0, .int .i64 0, .int .i64 0, .string (bs [])] := by kernel_rfl
  rw [hc] at hv
  unfold Builtin.zeroCells at hv
  simp only [Array.toList_map, List.mem_map] at hv
  obtain ⟨i, _, rfl⟩ := hv
  have h5 : i % 5 < 5 := Nat.mod_lt _ (by omega)
  have : i % 5 = 0 ∨ i % 5 = 1 ∨ i % 5 = 2 ∨ i % 5 = 3 ∨ i % 5 = 4 := by omega
  show (#[Value.int .i64 0, .int .i64 0, .int .i64 0, .int .i64 0, .string (bs [])][i % 5]!).oneCell' = true
  rcases this with e | e | e | e | e <;> rw [e] <;> rfl
theorem clear_ops (A : Addr) (g o n c : Nat) (cur : Array Value) (w : World) (hA : 0 < n → A = ⟨g, o, none⟩) (hc : w.heap[g]? = some (.cells cur 50 (0, 0))) (ho : o + n * 5 ≤ cur.size) (ty : TypeId) :
    ∃ vs, (Builtin.clear_ #[27] ty #[.slice (some A) n c]).run Tryz.prog w = .ok (.tuple #[]) (w.setCells g o vs) := by
  rcases Nat.eq_zero_or_pos n with rfl | hn
  · refine ⟨[], ?_⟩
    simp [Builtin.clear_, run_underlying Tryz.underlying27, lzero_op, Builtin.zeroCells, World.setCells]
  · have := hA hn
    subst this
    obtain ⟨n, rfl⟩ : ∃ n', n = n' + 1 := ⟨n - 1, by omega⟩
    refine ⟨(Builtin.zeroCells (opv 0 0 0 0 []).cells (n + 1)).toList, ?_⟩
    have hl : (Builtin.zeroCells (opv 0 0 0 0 []).cells (n + 1)).toList.length = (n + 1) * 5 := by
      have hc : (opv 0 0 0 0 []).cells = #[.int .i64 0, .int .i64 0, .int .i64 0, .int .i64 0, .string (bs [])] := by kernel_rfl
      rw [hc]
      simp [Builtin.zeroCells]
    have hst := run_storeCells_cells (P := Tryz.prog) g o (Builtin.zeroCells (opv 0 0 0 0 []).cells (n + 1)).toList 0 w (by
        intro j hj
        rw [cell_of_row w g (o + 0 + j) cur _ (0, 0) hc, Array.getElem?_eq_getElem (by omega)]
        rfl) (by
        intro j hj
        exact Joins.unfrozen_of_block hc _) (zero_one (n + 1))
    simp only [Nat.add_zero] at hst
    simp [Builtin.clear_, run_underlying Tryz.underlying27, lzero_op]
    show Result.andThen (Sem.run Tryz.prog (storeCells ⟨g, o, none⟩ (Builtin.zeroCells (opv 0 0 0 0 []).cells (n + 1)).toList) w) _ = _
    rw [hst]
    rfl
end Go.Proofs.YtimfeocaghccdaaGreatDoor
namespace Go.Proofs.YtimfeocaghccdaaGreatDoor
open Go.RowKit Go.Maps
set_option linter.unusedVariables false
set_option linter.unusedSimpArgs false
set_option maxRecDepth 100000

def dstep (acc : List O5) (x : O5) : List O5 := if acc.getLast? = some x then acc else acc ++ [x]
/-- Each that is like the one ahead of it is left out. -/
def ddc (l : List O5) : List O5 := l.foldl dstep []
theorem ddc_snoc (l : List O5) (x : O5) : ddc (l ++ [x]) = dstep (ddc l) x := by simp [ddc]
theorem dstep_last (acc : List O5) (x : O5) : (dstep acc x).getLast? = some x := by
  unfold dstep
  split
  · assumption
  · simp
theorem snoc_ind {α : Type} {p : List α → Prop} (h0 : p []) (h1 : ∀ l x, p l → p (l ++ [x])) (l : List α) : p l := by
  have : ∀ n (l : List α), l.length = n → p l := by
    intro n
    induction n with
    | zero => intro l hl; rw [List.length_eq_zero_iff.1 hl]; exact h0
    | succ n ih =>
      intro l hl
      have hne : l ≠ [] := by intro e; subst e; simp at hl
      rw [← List.dropLast_concat_getLast hne]
      exact h1 _ _ (ih _ (by rw [List.length_dropLast, hl]; rfl))
  exact this _ l rfl
theorem ddc_last (l : List O5) : (ddc l).getLast? = l.getLast? := by
  refine snoc_ind (p := fun l => (ddc l).getLast? = l.getLast?) rfl (fun l x _ => ?_) l
  rw [ddc_snoc, dstep_last]
  simp
theorem ddc_mem (l : List O5) (y : O5) : y ∈ ddc l ↔ y ∈ l := by
  refine snoc_ind (p := fun l => y ∈ ddc l ↔ y ∈ l) (by simp [ddc]) (fun l x ih => ?_) l
  rw [ddc_snoc]
  unfold dstep
  split
  · rename_i h
    have := List.mem_of_getLast? h
    rw [List.mem_append, ih]
    constructor
    · exact .inl
    · rintro (h' | h')
      · exact h'
      · simp at h'
        subst h'
        exact ih.1 this
  · rw [List.mem_append, List.mem_append, ih]
theorem ddc_len (l : List O5) : (ddc l).length ≤ l.length := by
  refine snoc_ind (p := fun l => (ddc l).length ≤ l.length) (by simp [ddc]) (fun l x ih => ?_) l
  rw [ddc_snoc]
  unfold dstep
  split <;> simp <;> omega
theorem ddc_sorted (l : List O5) (h : l.Pairwise fun x y => ocF x y ≤ 0) : SrtO (ddc l) := by
  revert h
  refine snoc_ind (p := fun l => (l.Pairwise fun x y => ocF x y ≤ 0) → SrtO (ddc l)) (fun _ => List.Pairwise.nil) (fun l x ih h => ?_) l
  rw [List.pairwise_append] at h
  have hs := ih h.1
  rw [ddc_snoc]
  unfold dstep
  split
  · exact hs
  · rename_i hne
    refine List.pairwise_append.2 ⟨hs, List.pairwise_singleton _ _, ?_⟩
    intro a ha b hb
    simp at hb
    subst hb
    have hle := h.2.2 a ((ddc_mem l a).1 ha) b (by simp)
    rcases Int.lt_or_eq_of_le hle with h1 | h1
    · exact h1
    · have e := ocF_order.like a b h1
      subst e
      -- it is the last one: nothing behind it is greater
      exfalso
      apply hne
      obtain ⟨p, q, e⟩ := List.append_of_mem ha
      cases hq : q with
      | nil => rw [e, hq]; simp
      | cons z t =>
        exfalso
        have hz : z ∈ ddc l := by rw [e, hq]; simp
        have h2 : ocF a z < 0 := by
          have := hs
          rw [e, hq] at this
          exact (List.pairwise_cons.1 (List.pairwise_append.1 this).2.1).1 z (by simp)
        have h3 := h.2.2 z ((ddc_mem l z).1 hz) a (by simp)
        have := ocF_order.turn a z
        omega
theorem ddc_step (l : List O5) (i : Nat) (h : i + 1 < l.length) : ddc (l.take (i + 1 + 1)) = if l[i + 1] = l[i] then ddc (l.take (i + 1)) else ddc (l.take (i + 1)) ++ [l[i + 1]] := by
  rw [List.take_succ_eq_append_getElem h, ddc_snoc]
  unfold dstep
  have e : (ddc (l.take (i + 1))).getLast? = some l[i] := by
    rw [ddc_last, List.getLast?_take]
    simp
  rw [e]
  by_cases hq : l[i + 1] = l[i]
  · rw [if_pos hq, if_pos (by rw [hq])]
  · rw [if_neg hq, if_neg (by simpa [eq_comm] using hq)]
theorem op_eql5 (a b : O5) (w : World) : (binOp .eql 50 (.agg #[.int .i64 a.n, .int .i64 a.r, .int .i64 a.d, .int .i64 a.t, .string (bs a.l)]) (.agg #[.int .i64 b.n, .int .i64 b.r, .int .i64 b.d, .int .i64 b.t, .string (bs b.l)])).run Tryz.prog w = .ok (.bool (decide (a = b))) w := by
  rw [← opE_eq]
  exact op_eql a.n a.r a.d a.t a.l b.n b.r b.d b.t b.l w
/-- All of a list are their own. -/
theorem ddc_all {l : List O5} (h : l.length < 2) : ddc l = l := by
  match l, h with
  | [], _ => rfl
  | [x], _ => rfl
def CompRet (w : World) (v : Value) (l : List O5) (e : Ending) (w' : World) : Prop :=
  ∃ A c, e = .returned (.slice A (ddc l).length c) ∧ Ops w' A c (ddc l) ∧ Mod v.ownBlock.toList w w'
def C1Rel (w : World) (l : List O5) (v : Value) (wr : World) : Prop :=
  ∃ q : Nat, 1 ≤ q ∧ q ≤ l.length ∧ v = .int .i64 (q : Int) ∧ ddc (l.take q) = l.take q ∧ Below w.heap.size w wr
/-- Where the second loop stands: what is ahead of k is done, what is behind q + j - 1 is as it was. -/
structure C2 (l m : List O5) (q k j : Nat) : Prop where
  len : m.length = l.length
  j1 : 1 ≤ j
  jn : q + j ≤ l.length
  kj : k + 1 ≤ q + j
  done : m.take k = ddc (l.take (q + j))
  rest : m.drop (q + j - 1) = l.drop (q + j - 1)
theorem C2.klen {l m : List O5} {q k j : Nat} (h : C2 l m q k j) : k = (ddc (l.take (q + j))).length := by
  rw [← h.done, List.length_take]
  have := h.len
  have := h.jn
  have := h.kj
  omega
theorem C2.at {l m : List O5} {q k j : Nat} (h : C2 l m q k j) (i : Nat) (h1 : q + j ≤ i + 1) (hm : i < m.length) (hl : i < l.length) : m[i] = l[i] := by
  have e := congrArg (fun x => x[i - (q + j - 1)]?) h.rest
  simp only [List.getElem?_drop] at e
  rw [show q + j - 1 + (i - (q + j - 1)) = i by omega, List.getElem?_eq_getElem hm, List.getElem?_eq_getElem hl] at e
  exact Option.some.inj e
theorem C2.skip {l m : List O5} {q k j : Nat} (h : C2 l m q k j) (hj : q + j < l.length) (he : l[q + j] = l[q + j - 1]) : C2 l m q k (j + 1) := by
  have hj1 := h.j1
  refine ⟨h.len, by omega, by omega, by have := h.kj; omega, ?_, ?_⟩
  · have hs := ddc_step l (q + j - 1) (by omega)
    have e1 : q + j - 1 + 1 = q + j := by omega
    simp only [e1] at hs
    rw [if_pos he] at hs
    rw [show q + (j + 1) = q + j + 1 by omega, hs]
    exact h.done
  · have e := congrArg (List.drop 1) h.rest
    rw [List.drop_drop, List.drop_drop] at e
    rw [show q + (j + 1) - 1 = q + j - 1 + 1 by omega]
    exact e
theorem C2.put {l m : List O5} {q k j : Nat} (h : C2 l m q k j) (hj : q + j < l.length) (he : l[q + j] ≠ l[q + j - 1]) : C2 l (m.set k l[q + j]) q (k + 1) (j + 1) := by
  have hj1 := h.j1
  have hkj := h.kj
  have hlen := h.len
  refine ⟨by rw [List.length_set]; exact h.len, by omega, by omega, by omega, ?_, ?_⟩
  · have hs := ddc_step l (q + j - 1) (by omega)
    have e1 : q + j - 1 + 1 = q + j := by omega
    simp only [e1] at hs
    rw [if_neg he] at hs
    rw [show q + (j + 1) = q + j + 1 by omega, hs, ← h.done, List.take_succ_eq_append_getElem (by rw [List.length_set]; omega), List.take_set_of_le (Nat.le_refl _), List.getElem_set_self]
  · have e := congrArg (List.drop 1) h.rest
    rw [List.drop_drop, List.drop_drop] at e
    rw [show q + (j + 1) - 1 = q + j - 1 + 1 by omega, List.drop_set_of_lt (by omega)]
    exact e
theorem C2.start {l : List O5} {q : Nat} (h1 : 1 ≤ q) (hq : q < l.length) (hd : ddc (l.take q) = l.take q) (he : l[q] = l[q - 1]) : C2 l l q q 1 := by
  refine ⟨rfl, by omega, by omega, by omega, ?_, rfl⟩
  have hs := ddc_step l (q - 1) (by omega)
  have e1 : q - 1 + 1 = q := by omega
  simp only [e1] at hs
  rw [if_pos he] at hs
  rw [hs, hd]
theorem ddc_whole {l : List O5} {q : Nat} (h1 : 1 ≤ q) (hq : q < l.length) (hd : ddc (l.take q) = l.take q) (he : l[q] ≠ l[q - 1]) : ddc (l.take (q + 1)) = l.take (q + 1) := by
  have hs := ddc_step l (q - 1) (by omega)
  have e1 : q - 1 + 1 = q := by omega
  simp only [e1] at hs
  rw [if_neg he] at hs
  rw [hs, hd, List.take_succ_eq_append_getElem hq]
def C2Rel (w : World) (base g cap : Nat) (l : List O5) (q : Nat) (vk vj : Value) (wr : World) : Prop :=
  ∃ (m : List O5) (k j : Nat), C2 l m q k j ∧ vk = .int .i64 (k : Int) ∧ vj = .int .i64 (j : Int) ∧ OwnOps wr base (.slice (some ⟨g, 0, none⟩) m.length cap) m ∧ Mod [g] w wr
theorem OwnOps.five {w : World} {base g cap : Nat} {m : List O5} (h : OwnOps w base (.slice (some ⟨g, 0, none⟩) m.length cap) m) (i : Nat) (hi : i < m.length) :
    w.cell? ⟨g, i * 5, none⟩ = some (.int .i64 m[i].n) ∧ w.cell? ⟨g, i * 5 + 1, none⟩ = some (.int .i64 m[i].r) ∧ w.cell? ⟨g, i * 5 + 2, none⟩ = some (.int .i64 m[i].d) ∧ w.cell? ⟨g, i * 5 + 3, none⟩ = some (.int .i64 m[i].t) ∧ w.cell? ⟨g, i * 5 + 4, none⟩ = some (.string (bs m[i].l)) := by
  obtain ⟨A, c, e, hO⟩ := h.ops
  cases e
  obtain ⟨b, o, e, hat⟩ := hO.lit (by omega)
  cases e
  have := hat.five i hi
  simpa only [Nat.zero_add] using this
theorem OwnOps.blk {w : World} {base g cap : Nat} {m : List O5} {n : Nat} (h : OwnOps w base (.slice (some ⟨g, 0, none⟩) n cap) m) : ∃ cur, w.heap[g]? = some (.cells cur 50 (0, 0)) ∧ cur.size = cap * 5 ∧ m.length ≤ cap ∧ cap ≤ maxLen := by
  rcases h.2 with ⟨h0, _⟩ | ⟨g', cap', cur, h0, h2, h3, h4, h5, h6, h7⟩
  · cases h0
  · simp at h0
    obtain ⟨rfl, _, rfl⟩ := h0
    exact ⟨cur, h3, h6, h4, h5⟩
theorem OwnOps.free {w : World} {base g cap : Nat} {m : List O5} {n : Nat} (h : OwnOps w base (.slice (some ⟨g, 0, none⟩) n cap) m) (i : Nat) : w.frozen? ⟨g, i, none⟩ = false := by
  obtain ⟨cur, hc, _⟩ := h.blk
  exact Joins.unfrozen_of_block hc i
set_option maxHeartbeats 4000000 in
theorem comp_any (base : Nat) (v : Value) (l : List O5) (hn : l.length ≤ 1000000) (w : World) (h : OwnOps w base v l) :
    Calls Tryz.prog 56 #[v] w (CompRet w v l) := by
  by_cases h2 : l.length < 2
  · obtain ⟨A, c, rfl, hO⟩ := h.ops
    have HO := hide hO
    have E := hide (ddc_all h2)
    have i1 : (l.length : Int) < 2 := by omega
    clear h hO h2
    go_enter Tryz.func56, Tryz.ntmps56
    go_wp2
    go_ret
    refine ⟨A, c, ?_, ?_, Mod.refl _ _⟩
    · rw [E.out]
      rfl
    · rw [E.out]
      exact HO.out
  · have h' := h
    rcases h'.2 with ⟨rfl, h0⟩ | ⟨g, cap, cur, rfl, hb, hg, hc1, hc2, hc3, hc4⟩
    · omega
    have HW := hide h
    have i1 : ¬ (l.length : Int) < 2 := by omega
    clear h h' hg hc4 hc3
    go_enter Tryz.func56, Tryz.ntmps56
    go_wp2_with fail
    go_loopw [3] (C1Rel w l) (fun k _ => l.length - (intOf k).toNat)
    case atStart =>
      refine ⟨1, Nat.le_refl _, by omega, rfl, ?_, Below.refl _ _⟩
      exact ddc_all (by rw [List.length_take]; omega)
    case round =>
      rename World => wi
      obtain ⟨q, hq1, hq, rfl, hd, hB⟩ := hrel
      have HD := hide hd
      have HB := hide hB
      have HW1 := hide (HW.out.below hB)
      clear hd hB
      by_cases hlt : q < l.length
      · have i2 : (q : Int) < (l.length : Int) := by omega
        have i3 : (0 : Int) ≤ (q : Int) := by omega
        obtain ⟨p, hp⟩ : ∃ p, p + 1 = q := ⟨q - 1, by omega⟩
        have i4 : (q : Int) - 1 = (p : Int) := by omega
        have i5 : (p : Int) < (l.length : Int) := by omega
        have i6 : (0 : Int) ≤ (p : Int) := by omega
        obtain ⟨c0, c1, c2, c3, c4⟩ := HW1.out.five q hlt
        obtain ⟨e0, e1, e2, e3, e4⟩ := HW1.out.five p (by omega)
        have HY := hide (fun he => C2.start hq1 hlt HD.out he)
        have HN := hide (fun he => ddc_whole hq1 hlt HD.out he)
        have ep : q - 1 = p := by omega
        simp only [ep] at HY HN
        generalize l[q] = x at c0 c1 c2 c3 c4 HY HN
        generalize l[p] = y at e0 e1 e2 e3 e4 HY HN
        clear ep hp
        have hq' := op_eql5 x y
        by_cases hxy : x = y
        · rw [decide_eq_true hxy] at hq'
          have HC := hide (HY.out hxy)
          obtain ⟨A2, hA2, hO2, hF2⟩ := ops_tail (w := w) (by obtain ⟨A, c, e, hO⟩ := HW.out.ops; cases e; exact hO) q (Nat.le_of_lt hlt)
          have e2' : A2 = some ⟨g, 0 + q * 5, none⟩ := hF2 g 0 rfl hlt
          subst e2'
          rw [Nat.zero_add] at hA2
          clear hO2 hF2 hxy HY HN
          go_wp2_with fail
          go_quiet (fail)
          go_wp2_with fail
          have S1 := hide (show C2Rel w base g cap l q (.int .i64 (q : Int)) (.int .i64 1) (wi.drewN nq) from ⟨l, q, 1, HC.out, rfl, rfl, HW1.out.below (belowD' (Below.refl _ _) nq), Mod.of_below (belowD' HB.out nq)⟩)
          clear c0 c1 c2 c3 c4 e0 e1 e2 e3 e4 hq' hA2 HC HW1 HB
          go_loopw [3, 5] (C2Rel w base g cap l q) (fun _ j _ => l.length - (intOf j).toNat)
          case atStart => exact S1.out
          case round =>
            rename World => wj
            obtain ⟨m, k, j, hC, rfl, rfl, hO, hM⟩ := hrel
            have hlen := hC.len
            have hj1 := hC.j1
            have hjn := hC.jn
            have hkj := hC.kj
            have HC := hide hC
            have HO := hide hO
            have HM := hide hM
            clear hC hM S1 i4 i5 i6 i2 i3
            by_cases hlt2 : q + j < l.length
            · have j1 : (j : Int) < ((l.length - q : Nat) : Int) := by omega
              have j2 : (0 : Int) ≤ (j : Int) := by omega
              obtain ⟨r, hr⟩ : ∃ r, r + 1 = j := ⟨j - 1, by omega⟩
              have j3 : (j : Int) - 1 = (r : Int) := by omega
              have j4 : (r : Int) < ((l.length - q : Nat) : Int) := by omega
              have j5 : (0 : Int) ≤ (r : Int) := by omega
              obtain ⟨c0, c1, c2, c3, c4⟩ := hO.five (q + j) (by omega)
              obtain ⟨e0, e1, e2, e3, e4⟩ := hO.five (q + r) (by omega)
              have ea := HC.out.at (q + j) (by omega) (by omega) hlt2
              have eb := HC.out.at (q + r) (by omega) (by omega) (by omega)
              rw [ea, Nat.add_mul] at c0 c1 c2 c3 c4
              rw [eb, Nat.add_mul] at e0 e1 e2 e3 e4
              have HY := hide (fun he => HC.out.skip hlt2 he)
              have HN := hide (fun he => HC.out.put hlt2 he)
              have ep : q + j - 1 = q + r := by omega
              simp only [ep] at HY HN
              clear ea eb
              generalize l[q + j] = x at c0 c1 c2 c3 c4 HY HN
              generalize l[q + r] = y at e0 e1 e2 e3 e4 HY HN
              clear ep hr
              have hq' := op_neq x y
              by_cases hxy : x = y
              · rw [decide_eq_true hxy] at hq'
                have HC1 := hide (HY.out hxy)
                clear hxy HY HN hO
                go_wp2_with fail
                go_quiet (fail)
                go_wp2_with fail
                go_roundw
                case rel => exact ⟨m, k, j + 1, HC1.out, rfl, by go_num, HO.out.below (belowD' (Below.refl _ _) _), HM.out.trans (fs' := []) (Mod.of_below (belowD' (Below.refl _ _) _)) (by simp)⟩
                case measure => simp [intOf]; omega
              · rw [decide_eq_false hxy] at hq'
                have HC1 := hide (HN.out (by simpa using hxy))
                clear hxy HY HN hO
                go_wp2_with fail
                go_quiet (fail)
                go_upto_region 12 with (fail)
                have HO1 := hide (HO.out.below (belowD' (Below.refl _ _) nq))
                have HM1 := hide (HM.out.trans (fs' := []) (Mod.of_below (belowD' (Below.refl _ _) nq)) (by simp))
                clear e0 e1 e2 e3 e4 hq' HO HM
                have c0' : (wj.drewN nq).cell? ⟨g, q * 5 + j * 5, none⟩ = _ := c0
                have c1' : (wj.drewN nq).cell? ⟨g, q * 5 + j * 5 + 1, none⟩ = _ := c1
                have c2' : (wj.drewN nq).cell? ⟨g, q * 5 + j * 5 + 2, none⟩ = _ := c2
                have c3' : (wj.drewN nq).cell? ⟨g, q * 5 + j * 5 + 3, none⟩ = _ := c3
                have c4' : (wj.drewN nq).cell? ⟨g, q * 5 + j * 5 + 4, none⟩ = _ := c4
                clear c0 c1 c2 c3 c4
                generalize wj.drewN nq = wk at HO1 HM1 c0' c1' c2' c3' c4' ⊢
                have k1 : (k : Int) < (l.length : Int) := by omega
                have k2 : (0 : Int) ≤ (k : Int) := by omega
                obtain ⟨s0, s1, s2, s3, s4⟩ := HO1.out.five k (by omega)
                have f0 := HO1.out.free (k * 5)
                have f1 := HO1.out.free (k * 5 + 1)
                have f2 := HO1.out.free (k * 5 + 2)
                have f3 := HO1.out.free (k * 5 + 3)
                have f4 := HO1.out.free (k * 5 + 4)
                have HO2 := hide (HO1.out.set k x (by omega))
                have HM2 := hide (HM1.out.trans (fs' := [g]) (lmod_setCells (oc x) (k * 5) wk) (by simp))
                clear HO1 HM1
                go_upto_region 13 with (fail)
                change Code.wp _ _ _ _ (wk.setCells g (k * 5) (oc x))
                generalize wk.setCells g (k * 5) (oc x) = wz at HO2 HM2 ⊢
                have HO3 := hide (show OwnOps wz base (.slice (some ⟨g, 0, none⟩) (m.set k x).length cap) (m.set k x) by rw [List.length_set]; exact HO2.out)
                clear s0 s1 s2 s3 s4 f0 f1 f2 f3 f4 c0' c1' c2' c3' c4' HO2
                go_wp2_with fail
                go_roundw
                case rel => exact ⟨m.set k x, k + 1, j + 1, HC1.out, by go_num, by go_num, HO3.out, HM2.out⟩
                case measure => simp [intOf]; omega
            · have j1 : ¬ (j : Int) < ((l.length - q : Nat) : Int) := by omega
              have ej : q + j = l.length := by omega
              have hk := HC.out.klen
              rw [ej, List.take_length] at hk
              obtain ⟨A, c, e, hOp⟩ := hO.ops
              cases e
              have km : k ≤ m.length := by omega
              obtain ⟨A2, hA2, hO2, hF2⟩ := ops_tail hOp k km
              obtain ⟨cur2, hcur, hsz, hle, _⟩ := hO.blk
              have hA2' : ∃ ad, A2 = some ad := by
                cases hA : A2 with
                | some ad => exact ⟨ad, rfl⟩
                | none =>
                  subst hA
                  have := hA2 wj
                  rw [run_slice_l wj _ _ _ _ lopUnder .i64 _ (by omega) (by omega), lopElem, lopSize] at this
                  simp [Result.andThen, sliced] at this
                  split at this <;> simp at this
              obtain ⟨ad, rfl⟩ := hA2'
              obtain ⟨vs, hcl⟩ := clear_ops ad g (k * 5) (m.drop k).length (cap - k) cur2 wj (fun hp => by
                rw [List.length_drop] at hp
                have := hF2 g 0 rfl (by omega)
                simpa using this) hcur (by rw [hsz, List.length_drop]; omega) 0
              have hH := lops_head (some ⟨g, 0, none⟩) l.length cap k (by omega)
              have HK := hide hk
              have HOp := hide (hOp.head k)
              have HT := hide HC.out.done
              rw [ej, List.take_length] at HT
              rw [hlen] at hA2
              clear hk hOp hO2 hF2 hcur hsz ej hO HO
              generalize (m.drop k).length = d at hA2 hcl
              go_wp2
              go_ret
              refine ⟨some ⟨g, 0, none⟩, cap, ?_, ?_, HM.out.trans (fs' := [g]) (lmod_setCells _ _ _) (by simp)⟩
              · rw [← HK.out]
                rfl
              · have h1 := HOp.out
                rw [HT.out] at h1
                refine ⟨h1.nil, h1.le, h1.most, fun hp => ?_⟩
                obtain ⟨b, o, e, hat⟩ := h1.lit hp
                cases e
                refine ⟨g, 0, rfl, fun i u hu => ?_⟩
                rw [World.cell?_setCells_out]
                · exact hat i u hu
                · intro _ _
                  left
                  have hi := (List.getElem?_eq_some_iff.1 hu).1
                  rw [ocs_length, ← HK.out] at hi
                  show 0 + i < k * 5
                  omega
        · rw [decide_eq_false hxy] at hq'
          have HC := hide (HN.out hxy)
          clear hxy HY HN
          go_wp2_with fail
          go_quiet (fail)
          go_wp2
          go_roundw
          case rel => exact ⟨q + 1, by omega, by omega, by go_num, HC.out, belowD' HB.out _⟩
          case measure => simp [intOf]; omega
      · have i2 : ¬ (q : Int) < (l.length : Int) := by omega
        have E := hide (show ddc l = l by
          have := HD.out
          rwa [List.take_of_length_le (by omega)] at this)
        go_wp2
        go_ret
        refine ⟨some ⟨g, 0, none⟩, cap, ?_, ?_, Mod.of_below HB.out⟩
        · rw [E.out]
          rfl
        · rw [E.out]
          obtain ⟨A, c, e, hO⟩ := HW1.out.ops
          cases e
          exact hO
end Go.Proofs.YtimfeocaghccdaaGreatDoor
