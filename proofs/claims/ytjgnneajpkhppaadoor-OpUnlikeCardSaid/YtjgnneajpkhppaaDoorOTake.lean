/-
  The contract of package op's Take. Conditions: the two tables of unicode/utf8 as the program's text lays them.
-/
import Derived.Test.YtjgnneajpkhppaaDoorOPut
import Derived.Laws.ResultCell
import Derived.Lib.SmallJoins
import Derived.Deep.CutRange
namespace Go.Proofs.YtjgnneajpkhppaaDoor
open Go.RowKit
set_option linter.unusedVariables false

/-- A reader's block is none of the two tables. -/
theorem Env.grown {w w' : World} {g e : Nat} {l : List UInt8} (hE : Env w) (hr : Rd w g l e) (gr : w.grownBy w' (some g)) : Env w' := by
  obtain ⟨sv, hc, hs⟩ := hr
  have h0 := hc.c0
  have hsv : ∃ A n c, sv = .slice A n c := by
    obtain ⟨A, c, h, _⟩ := hs.form
    exact ⟨A, _, c, h⟩
  obtain ⟨A, n, c, rfl⟩ := hsv
  have key : ∀ (b : Nat) (x : Int), w.cell? ⟨b, 0, none⟩ = some (.int .u8 x) → ∀ j u, w.cell? ⟨b, j, none⟩ = some u → w'.cell? ⟨b, j, none⟩ = some u := by
    intro b x hx j u hu
    have hne : b ≠ g := by
      rintro rfl
      rw [h0] at hx
      cases hx
    have hlt : b < w.heap.size := World.block_lt_of_cell? w ⟨b, j, none⟩ hu
    rw [← hu]
    exact World.cell?_of_block (gr.block b hlt (by intro h; injection h with h; exact hne h))
  obtain ⟨t1, t2⟩ := hE.tabs
  exact ⟨fun c hc => key _ _ (t1 0 (by omega)) _ _ (t1 c hc), fun i hi => ⟨key _ _ (t2 0 (by omega)).1 _ _ (t2 i hi).1, key _ _ (t2 0 (by omega)).1 _ _ (t2 i hi).2⟩⟩

/-- What is taken: the four numbers, the name, what is left, the error. -/
def tk1 (l : List UInt8) (e : Nat) : Nat × List UInt8 × Nat := rNum 16777215 l e
def tk2 (l : List UInt8) (e : Nat) : Nat × List UInt8 × Nat := rNum 255 (tk1 l e).2.1 (tk1 l e).2.2
def tk3 (l : List UInt8) (e : Nat) : Nat × List UInt8 × Nat := rNum 4294967295 (tk2 l e).2.1 (tk2 l e).2.2
def tk4 (l : List UInt8) (e : Nat) : Nat × List UInt8 × Nat := rNum 4294967295 (tk3 l e).2.1 (tk3 l e).2.2
def tk5 (l : List UInt8) (e : Nat) : List UInt8 × List UInt8 × Nat := rTxt 20 (tk4 l e).2.1 (tk4 l e).2.2
/-- Whether there is one. -/
def tkR (l : List UInt8) (e : Nat) : Bool := opR (tk1 l e).1 (tk2 l e).1 (tk3 l e).1 (tk4 l e).1 (tk5 l e).1
/-- What is answered. -/
def tkV (l : List UInt8) (e : Nat) : Value := if tkR l e = true then opv (tk1 l e).1 (tk2 l e).1 (tk3 l e).1 (tk4 l e).1 (tk5 l e).1 else opv 0 0 0 0 []
def TakeRet (w : World) (g : Nat) (l : List UInt8) (e : Nat) (ed : Ending) (w' : World) : Prop :=
  ed = .returned (.tuple #[tkV l e, .bool (tkR l e)]) ∧ Rd w' g (tk5 l e).2.1 (tk5 l e).2.2 ∧ w.grownBy w' (some g)
/-- Where Take stands: the reader, the answer's block, the block of what was read by now. -/
structure TkS (w : World) (g : Nat) (l : List UInt8) (e : Nat) (cs : Array Value) (wk : World) : Prop where
  rd : Rd wk g l e
  res : wk.heap[w.heap.size]? = some (.cells #[.int .i64 0, .int .i64 0, .int .i64 0, .int .i64 0, .string (bs [])] 25 (0, 0))
  opb : wk.heap[w.heap.size + 1]? = some (.cells cs 25 (0, 0))
  gr : w.grownBy wk (some g)
  sz : wk.heap.size = w.heap.size + 2
theorem TkS.num {w wk w' : World} {g e e' : Nat} {l l' : List UInt8} {cs : Array Value} (h : TkS w g l e cs wk) (hg : g < w.heap.size) (hr : Rd w' g l' e') (ho : Only g wk w') : TkS w g l' e' cs w' := by
  have s := h.sz
  refine ⟨hr, ?_, ?_, ⟨ho.grown.os.trans h.gr.os, ho.grown.tape.trans h.gr.tape, ho.grown.output.trans h.gr.output, Nat.le_trans h.gr.size ho.grown.size, fun k hk hne => ?_⟩, by rw [ho.size, s]⟩
  · rw [ho.grown.block _ (by omega) (by intro hh; injection hh with hh; omega)]
    exact h.res
  · rw [ho.grown.block _ (by omega) (by intro hh; injection hh with hh; omega)]
    exact h.opb
  · rw [ho.grown.block _ (by omega) hne]
    exact h.gr.block k hk hne
theorem TkS.set {w wk : World} {g e : Nat} {l : List UInt8} {cs : Array Value} (h : TkS w g l e cs wk) (hg : g < w.heap.size) (j : Nat) (v : Value) : TkS w g l e (cs.setIfInBounds j v) (wk.setCell ⟨w.heap.size + 1, j, none⟩ v) := by
  obtain ⟨sv, hc, hs⟩ := h.rd
  have ok : ∀ k, k ≠ w.heap.size + 1 → (wk.setCell ⟨w.heap.size + 1, j, none⟩ v).heap[k]? = wk.heap[k]? := fun k hk => Below.heap_setCell wk _ v k hk
  refine ⟨⟨sv, (ok g (by omega)).trans hc, hs.keep fun k cur hk => ok k ?_⟩, (ok _ (by omega)).trans h.res, Joins.block_setCell h.opb v, ⟨h.gr.os, h.gr.tape, h.gr.output, ?_, fun k hk hne => (ok k (by omega)).trans (h.gr.block k hk hne)⟩, ?_⟩
  · rintro rfl
    have := h.opb
    rw [hk] at this
    injection this with this
    injection this with _ ht
    exact absurd ht (by decide)
  · have := h.sz
    simp [World.setCell]
    omega
  · have := h.sz
    simp [World.setCell]
    omega
theorem TkS.c {w wk : World} {g e : Nat} {l : List UInt8} {cs : Array Value} (h : TkS w g l e cs wk) (j : Nat) (v : Value) (hj : cs[j]? = some v) : wk.cell? ⟨w.heap.size + 1, j, none⟩ = some v := by
  rw [cell_of_row wk _ j _ _ (0, 0) h.opb]
  simpa using hj
theorem TkS.z {w wk : World} {g e : Nat} {l : List UInt8} {cs : Array Value} (h : TkS w g l e cs wk) (j : Nat) : wk.frozen? ⟨w.heap.size + 1, j, none⟩ = false := Joins.unfrozen_of_block h.opb j
theorem TkS.start {w : World} {g e : Nat} {l : List UInt8} (hr : Rd w g l e) :
    TkS w g l e #[.int .i64 0, .int .i64 0, .int .i64 0, .int .i64 0, .string (bs [])] ((w.alloc (.cells #[.int .i64 0, .int .i64 0, .int .i64 0, .int .i64 0, .string (bs [])] 25)).alloc (.cells #[.int .i64 0, .int .i64 0, .int .i64 0, .int .i64 0, .string (bs [])] 25)) := by
  have b := below_two w (.cells #[.int .i64 0, .int .i64 0, .int .i64 0, .int .i64 0, .string (bs [])] 25) (.cells #[.int .i64 0, .int .i64 0, .int .i64 0, .int .i64 0, .string (bs [])] 25)
  refine ⟨hr.below b, ?_, ?_, ⟨b.os, b.tape, b.output, b.size, fun k hk _ => b.block k hk⟩, by simp⟩
  · rw [Below.heap_alloc _ _ _ (by simp)]
    exact heap_alloc_new w _
  · have := heap_alloc_new (w.alloc (.cells #[.int .i64 0, .int .i64 0, .int .i64 0, .int .i64 0, .string (bs [])] 25)) (.cells #[.int .i64 0, .int .i64 0, .int .i64 0, .int .i64 0, .string (bs [])] 25)
    rwa [show (w.alloc (.cells #[.int .i64 0, .int .i64 0, .int .i64 0, .int .i64 0, .string (bs [])] 25)).heap.size = w.heap.size + 1 by simp] at this
/-- Where Take ends: the reader, the answer's block. -/
structure TkE (w : World) (g : Nat) (l : List UInt8) (e : Nat) (cs : Array Value) (wk : World) : Prop where
  rd : Rd wk g l e
  res : wk.heap[w.heap.size]? = some (.cells cs 25 (0, 0))
  gr : w.grownBy wk (some g)
theorem TkE.set {w wk : World} {g e : Nat} {l : List UInt8} {cs : Array Value} (h : TkE w g l e cs wk) (hg : g < w.heap.size) (j : Nat) (v : Value) : TkE w g l e (cs.setIfInBounds j v) (wk.setCell ⟨w.heap.size, j, none⟩ v) := by
  obtain ⟨sv, hc, hs⟩ := h.rd
  have ok : ∀ k, k ≠ w.heap.size → (wk.setCell ⟨w.heap.size, j, none⟩ v).heap[k]? = wk.heap[k]? := fun k hk => Below.heap_setCell wk _ v k hk
  refine ⟨⟨sv, (ok g (by omega)).trans hc, hs.keep fun k cur hk => ok k ?_⟩, Joins.block_setCell h.res v, ⟨h.gr.os, h.gr.tape, h.gr.output, ?_, fun k hk hne => (ok k (by omega)).trans (h.gr.block k hk hne)⟩⟩
  · rintro rfl
    have := h.res
    rw [hk] at this
    injection this with this
    injection this with _ ht
    exact absurd ht (by decide)
  · have := h.gr.size
    simpa [World.setCell] using this
theorem TkE.c {w wk : World} {g e : Nat} {l : List UInt8} {cs : Array Value} (h : TkE w g l e cs wk) (j : Nat) (v : Value) (hj : cs[j]? = some v) : wk.cell? ⟨w.heap.size, j, none⟩ = some v := by
  rw [cell_of_row wk _ j _ _ (0, 0) h.res]
  simpa using hj
theorem rNum_most (most : Int) (l : List UInt8) (e : Nat) (h : 0 ≤ most) : ((rNum most l e).1 : Int) ≤ most := by
  unfold rNum
  split
  · simpa using h
  · split
    · simpa using h
    · split
      · simpa using h
      · simp only
        omega
theorem rTxt_20 (l : List UInt8) (e : Nat) : (rTxt 20 l e).1.length ≤ 20 := by
  have h := rNum_most 20 l e (by omega)
  unfold rTxt
  generalize rNum 20 l e = p at h ⊢
  obtain ⟨n, l1, e1⟩ := p
  simp only at h ⊢
  split
  · simp
  · split
    · simp
    · simp only [List.length_take]
      omega
set_option maxHeartbeats 4000000 in
set_option maxRecDepth 100000 in
theorem otake_any (g e : Nat) (l : List UInt8) (w : World) (h : Rd w g l e) (hE : Env w) : Calls Tryd.prog 20 #[.pointer (some ⟨g, 0, none⟩)] w (TakeRet w g l e) := by
  have T0 := hide (TkS.start h)
  have hg : g < w.heap.size := h.lt
  have HE := hide hE
  have HR := hide h
  clear h hE
  go_enter Tryd.func20, Tryd.ntmps20
  go_wp2_with fail
  refine (number_any g e l 16777215 _ T0.out.rd).mono ?_
  rintro ed w1 ⟨rfl, hr1, ho1⟩
  have T1 := hide (T0.out.num hg hr1 ho1)
  clear hr1 ho1 T0
  change Hid (TkS w g (tk1 l e).2.1 (tk1 l e).2.2 _ w1) at T1
  have e1 : (rNum 16777215 l e).1 = (tk1 l e).1 := rfl
  rw [e1]
  clear e1
  have Q2 : Hid (rNum 255 (tk1 l e).2.1 (tk1 l e).2.2 = tk2 l e) := hide rfl
  have Q3 : Hid (rNum 4294967295 (tk2 l e).2.1 (tk2 l e).2.2 = tk3 l e) := hide rfl
  have Q4 : Hid (rNum 4294967295 (tk3 l e).2.1 (tk3 l e).2.2 = tk4 l e) := hide rfl
  have Q5 : Hid (rTxt 20 (tk4 l e).2.1 (tk4 l e).2.2 = tk5 l e) := hide rfl
  have hlen : (tk5 l e).1.length ≤ maxLen := by
    have := rTxt_20 (tk4 l e).2.1 (tk4 l e).2.2
    rw [Q5.out] at this
    exact Nat.le_trans this (by decide)
  have RV : Hid (∀ ed w', ed = .returned (.tuple #[if tkR l e = true then opv (tk1 l e).1 (tk2 l e).1 (tk3 l e).1 (tk4 l e).1 (tk5 l e).1 else opv 0 0 0 0 [], .bool (tkR l e)]) → Rd w' g (tk5 l e).2.1 (tk5 l e).2.2 → w.grownBy w' (some g) → TakeRet w g l e ed w') := hide fun ed w' h1 h2 h3 => ⟨h1, h2, h3⟩
  have RR : Hid (tkR l e = opR (tk1 l e).1 (tk2 l e).1 (tk3 l e).1 (tk4 l e).1 (tk5 l e).1) := hide rfl
  generalize tkR l e = R at RV RR
  generalize tk5 l e = p5 at *
  generalize tk4 l e = p4 at *
  generalize tk3 l e = p3 at *
  generalize tk2 l e = p2 at *
  generalize tk1 l e = p1 at *
  obtain ⟨n1, l1, x1⟩ := p1
  obtain ⟨n2, l2, x2⟩ := p2
  obtain ⟨n3, l3, x3⟩ := p3
  obtain ⟨n4, l4, x4⟩ := p4
  obtain ⟨s5, l5, x5⟩ := p5
  simp only at *
  have c0 := T1.out.c 0 _ rfl
  have z0 := T1.out.z 0
  go_wp2_with fail
  refine (number_any g x1 l1 255 _ (T1.out.set hg 0 _).rd).mono ?_
  rw [Q2.out]
  rintro ed w2 ⟨rfl, hr2, ho2⟩
  have T2 := hide ((T1.out.set hg 0 (.int .i64 n1)).num hg hr2 ho2)
  clear hr2 ho2 T1 c0 z0
  have c1 := T2.out.c 1 _ rfl
  have z1 := T2.out.z 1
  go_wp2_with fail
  refine (number_any g x2 l2 4294967295 _ (T2.out.set hg 1 _).rd).mono ?_
  rw [Q3.out]
  rintro ed w3 ⟨rfl, hr3, ho3⟩
  have T3 := hide ((T2.out.set hg 1 (.int .i64 n2)).num hg hr3 ho3)
  clear hr3 ho3 T2 c1 z1
  have c2 := T3.out.c 2 _ rfl
  have z2 := T3.out.z 2
  go_wp2_with fail
  refine (number_any g x3 l3 4294967295 _ (T3.out.set hg 2 _).rd).mono ?_
  rw [Q4.out]
  rintro ed w4 ⟨rfl, hr4, ho4⟩
  have T4 := hide ((T3.out.set hg 2 (.int .i64 n3)).num hg hr4 ho4)
  clear hr4 ho4 T3 c2 z2
  have c3 := T4.out.c 3 _ rfl
  have z3 := T4.out.z 3
  go_wp2_with fail
  refine (text_any g x4 l4 20 _ (T4.out.set hg 3 _).rd).mono ?_
  rw [Q5.out]
  rintro ed w5 ⟨rfl, hr5, ho5⟩
  have T5 := hide ((T4.out.set hg 3 (.int .i64 n4)).num hg hr5 ho5)
  clear hr5 ho5 T4 c3 z3
  have c4 := T5.out.c 4 _ rfl
  have z4 := T5.out.z 4
  have T6 : Hid (TkS w g l5 x5 #[.int .i64 n1, .int .i64 n2, .int .i64 n3, .int .i64 n4, .string (bs s5)] (w5.setCell ⟨w.heap.size + 1, 4, none⟩ (.string (bs s5)))) := hide (T5.out.set hg 4 (.string (bs s5)))
  go_upto_region 7 with (fail)
  clear c4 z4 T5
  generalize w5.setCell ⟨w.heap.size + 1, 4, none⟩ (.string (bs s5)) = w6 at T6 ⊢
  have c0 := T6.out.c 0 _ rfl
  have c1 := T6.out.c 1 _ rfl
  have c2 := T6.out.c 2 _ rfl
  have c3 := T6.out.c 3 _ rfl
  have c4 := T6.out.c 4 _ rfl
  simp only [List.getElem_toArray, List.getElem_cons_zero, List.getElem_cons_succ] at c0 c1 c2 c3 c4
  have KR := hide (oright_any n1 n2 n3 n4 s5 w6 hlen (HE.out.grown HR.out T6.out.gr))
  unfold opv at KR
  rw [← RR.out] at KR
  go_wp2_with fail
  refine KR.out.mono ?_
  rintro ed w7 ⟨rfl, hb7⟩
  have hs6 := T6.out.sz
  have d0 := (hb7.cell (p := ⟨w.heap.size + 1, 0, none⟩) (by simp; omega)).trans c0
  have d1 := (hb7.cell (p := ⟨w.heap.size + 1, 1, none⟩) (by simp; omega)).trans c1
  have d2 := (hb7.cell (p := ⟨w.heap.size + 1, 2, none⟩) (by simp; omega)).trans c2
  have d3 := (hb7.cell (p := ⟨w.heap.size + 1, 3, none⟩) (by simp; omega)).trans c3
  have d4 := (hb7.cell (p := ⟨w.heap.size + 1, 4, none⟩) (by simp; omega)).trans c4
  have hres := (hb7.block w.heap.size (by omega)).trans T6.out.res
  have RS := hide hres
  have R7 := hide (T6.out.rd.below hb7)
  have G7 : Hid (w.grownBy w7 (some g)) := hide ⟨hb7.os.trans T6.out.gr.os, hb7.tape.trans T6.out.gr.tape, hb7.output.trans T6.out.gr.output, Nat.le_trans T6.out.gr.size hb7.size, fun k hk hne => (hb7.block k (by omega)).trans (T6.out.gr.block k hk hne)⟩
  clear hb7 KR c0 c1 c2 c3 c4 T6
  have r0 := cell_of_row w7 w.heap.size 0 _ _ (0, 0) hres
  have r1 := cell_of_row w7 w.heap.size 1 _ _ (0, 0) hres
  have r2 := cell_of_row w7 w.heap.size 2 _ _ (0, 0) hres
  have r3 := cell_of_row w7 w.heap.size 3 _ _ (0, 0) hres
  have r4 := cell_of_row w7 w.heap.size 4 _ _ (0, 0) hres
  simp only [List.getElem?_toArray, List.getElem?_cons_zero, List.getElem?_cons_succ] at r0 r1 r2 r3 r4
  have z : ∀ j, w7.frozen? ⟨w.heap.size, j, none⟩ = false := fun j => Joins.unfrozen_of_block hres j
  have z0 := z 0
  have z1 := z 1
  have z2 := z 2
  have z3 := z 3
  have z4 := z 4
  clear z hres
  have E7 : Hid (∀ (a b c d : Int) (s : ByteArray), TkE w g l5 x5 #[.int .i64 a, .int .i64 b, .int .i64 c, .int .i64 d, .string s] (((((w7.setCell ⟨w.heap.size, 0, none⟩ (.int .i64 a)).setCell ⟨w.heap.size, 1, none⟩ (.int .i64 b)).setCell ⟨w.heap.size, 2, none⟩ (.int .i64 c)).setCell ⟨w.heap.size, 3, none⟩ (.int .i64 d)).setCell ⟨w.heap.size, 4, none⟩ (.string s))) :=
    hide fun a b c d s => (((((TkE.mk R7.out RS.out G7.out).set hg 0 (.int .i64 a)).set hg 1 (.int .i64 b)).set hg 2 (.int .i64 c)).set hg 3 (.int .i64 d)).set hg 4 (.string s)
  cases R with
  | false =>
    go_wp2
    (try simp only [Exit.inBlock, Exit.then])
    have E8 := hide (E7.out 0 0 0 0 ⟨#[]⟩)
    generalize ((((w7.setCell ⟨w.heap.size, 0, none⟩ (.int .i64 0)).setCell ⟨w.heap.size, 1, none⟩ (.int .i64 0)).setCell ⟨w.heap.size, 2, none⟩ (.int .i64 0)).setCell ⟨w.heap.size, 3, none⟩ (.int .i64 0)).setCell ⟨w.heap.size, 4, none⟩ (.string ⟨#[]⟩) = w8 at E8 ⊢
    have e0 := E8.out.c 0 _ rfl
    have e1 := E8.out.c 1 _ rfl
    have e2 := E8.out.c 2 _ rfl
    have e3 := E8.out.c 3 _ rfl
    have e4 := E8.out.c 4 _ rfl
    simp only [List.getElem_toArray, List.getElem_cons_zero, List.getElem_cons_succ] at e0 e1 e2 e3 e4
    refine bodyPost_ret (v := .tuple #[.agg #[.int .i64 0, .int .i64 0, .int .i64 0, .int .i64 0, .string ⟨#[]⟩], .bool false]) ?_ rfl (RV.out _ _ ?_ E8.out.rd E8.out.gr)
    · rw [results_cell_tmp rfl]
      go_simp
    · rfl
  | true =>
    go_wp2
    (try simp only [Exit.inBlock, Exit.then])
    have E8 := hide (E7.out n1 n2 n3 n4 (bs s5))
    generalize ((((w7.setCell ⟨w.heap.size, 0, none⟩ (.int .i64 (n1 : Int))).setCell ⟨w.heap.size, 1, none⟩ (.int .i64 (n2 : Int))).setCell ⟨w.heap.size, 2, none⟩ (.int .i64 (n3 : Int))).setCell ⟨w.heap.size, 3, none⟩ (.int .i64 (n4 : Int))).setCell ⟨w.heap.size, 4, none⟩ (.string (bs s5)) = w8 at E8 ⊢
    have e0 := E8.out.c 0 _ rfl
    have e1 := E8.out.c 1 _ rfl
    have e2 := E8.out.c 2 _ rfl
    have e3 := E8.out.c 3 _ rfl
    have e4 := E8.out.c 4 _ rfl
    simp only [List.getElem_toArray, List.getElem_cons_zero, List.getElem_cons_succ] at e0 e1 e2 e3 e4
    refine bodyPost_ret (v := .tuple #[.agg #[.int .i64 n1, .int .i64 n2, .int .i64 n3, .int .i64 n4, .string (bs s5)], .bool true]) ?_ rfl (RV.out _ _ ?_ E8.out.rd E8.out.gr)
    · rw [results_cell_tmp rfl]
      go_simp
    · rfl
end Go.Proofs.YtjgnneajpkhppaaDoor
