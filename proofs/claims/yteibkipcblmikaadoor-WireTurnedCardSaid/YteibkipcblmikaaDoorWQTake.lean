/-
  The contract of the document's Take: an operation is read off the document's reader. Conditions: the reader stands in a block of its own, its bytes in an elder one.
-/
import Derived.Test.YteibkipcblmikaaDoorQText
import Derived.Test.YteibkipcblmikaaDoorM5
import Derived.Test.YteibkipcblmikaaDoorM3
namespace Go.Proofs.YteibkipcblmikaaDoor
open Go.RowKit
set_option linter.unusedVariables false
set_option maxRecDepth 100000

def QTakeRet (w : World) (B g : Nat) (l : List UInt8) (e : Nat) (ed : Ending) (w' : World) : Prop :=
  ed = .returned (.tuple #[tkV l e, .bool (tkR l e)]) ∧ Qd w' B g (tk5 l e).2.1 (tk5 l e).2.2 ∧ w.grownBy w' (some g)
/-- Where Take stands: the reader, the answer's block. -/
structure QtE (w : World) (B g : Nat) (l : List UInt8) (e : Nat) (cs : Array Value) (wk : World) : Prop where
  qd : Qd wk B g l e
  res : wk.heap[w.heap.size]? = some (.cells cs 48 (0, 0))
  gr : w.grownBy wk (some g)
theorem grown_below {w wk w' : World} {row : Option Nat} (h : w.grownBy wk row) (hb : Below wk.heap.size wk w') : w.grownBy w' row :=
  ⟨hb.os.trans h.os, hb.tape.trans h.tape, hb.output.trans h.output, Nat.le_trans h.size hb.size, fun k hk hne => (hb.block k (Nat.lt_of_lt_of_le hk h.size)).trans (h.block k hk hne)⟩
theorem grown_trans {w wk w' : World} {row : Option Nat} (h : w.grownBy wk row) (hb : wk.grownBy w' row) : w.grownBy w' row :=
  ⟨hb.os.trans h.os, hb.tape.trans h.tape, hb.output.trans h.output, Nat.le_trans h.size hb.size, fun k hk hne => (hb.block k (Nat.lt_of_lt_of_le hk h.size) hne).trans (h.block k hk hne)⟩
theorem Qd.below {w w' : World} {B g e : Nat} {l : List UInt8} (h : Qd w B g l e) (hBg : B ≤ g) (hb : Below w.heap.size w w') : Qd w' B g l e := by
  have hlt := h.lt
  obtain ⟨sv, hc, hs⟩ := h
  exact ⟨sv, (hb.block g hlt).trans hc, hs.below (hb.mono (by omega))⟩
theorem QtE.num {w wk w' : World} {B g e e' : Nat} {l l' : List UInt8} {cs : Array Value} (h : QtE w B g l e cs wk) (hg : g < w.heap.size) (hr : Qd w' B g l' e') (ho : Only g wk w') : QtE w B g l' e' cs w' := by
  refine ⟨hr, ?_, grown_trans h.gr ho.grown⟩
  exact (ho.grown.block _ (Array.getElem?_eq_some_iff.1 h.res).1 (by intro hh; injection hh with hh; omega)).trans h.res
theorem QtE.belw {w wk w' : World} {B g e : Nat} {l : List UInt8} {cs : Array Value} (h : QtE w B g l e cs wk) (hBg : B ≤ g) (hb : Below wk.heap.size wk w') : QtE w B g l e cs w' :=
  ⟨h.qd.below hBg hb, (hb.block _ (Array.getElem?_eq_some_iff.1 h.res).1).trans h.res, grown_below h.gr hb⟩
theorem QtE.set {w wk : World} {B g e : Nat} {l : List UInt8} {cs : Array Value} (h : QtE w B g l e cs wk) (hBg : B ≤ g) (hg : g < w.heap.size) (j : Nat) (v : Value) : QtE w B g l e (cs.setIfInBounds j v) (wk.setCell ⟨w.heap.size, j, none⟩ v) := by
  obtain ⟨sv, hc, hs⟩ := h.qd
  have ok : ∀ k, k ≠ w.heap.size → (wk.setCell ⟨w.heap.size, j, none⟩ v).heap[k]? = wk.heap[k]? := fun k hk => Below.heap_setCell wk _ v k hk
  refine ⟨⟨sv, (ok g (by omega)).trans hc, hs.below ⟨rfl, rfl, rfl, by simp [World.setCell], fun k hk => ok k (by omega)⟩⟩, Joins.block_setCell h.res v, ⟨h.gr.os, h.gr.tape, h.gr.output, ?_, fun k hk hne => (ok k (by omega)).trans (h.gr.block k hk hne)⟩⟩
  have := h.gr.size
  simpa [World.setCell] using this
theorem QtE.c {w wk : World} {B g e : Nat} {l : List UInt8} {cs : Array Value} (h : QtE w B g l e cs wk) (j : Nat) (v : Value) (hj : cs[j]? = some v) : wk.cell? ⟨w.heap.size, j, none⟩ = some v := by
  rw [cell_of_row wk _ j _ _ (0, 0) h.res]
  simpa using hj
theorem QtE.z {w wk : World} {B g e : Nat} {l : List UInt8} {cs : Array Value} (h : QtE w B g l e cs wk) (j : Nat) : wk.frozen? ⟨w.heap.size, j, none⟩ = false := Joins.unfrozen_of_block h.res j
theorem QtE.start {w : World} {B g e : Nat} {l : List UInt8} (hBg : B ≤ g) (hr : Qd w B g l e) :
    QtE w B g l e #[.int .i64 0, .int .i64 0, .int .i64 0, .int .i64 0, .string ⟨#[]⟩] (w.alloc (.cells #[.int .i64 0, .int .i64 0, .int .i64 0, .int .i64 0, .string ⟨#[]⟩] 48)) := by
  have b := (Below.refl w.heap.size w).alloc (Nat.le_refl _) (.cells #[.int .i64 0, .int .i64 0, .int .i64 0, .int .i64 0, .string ⟨#[]⟩] 48)
  exact ⟨hr.below hBg b, heap_alloc_new w _, ⟨b.os, b.tape, b.output, b.size, fun k hk _ => b.block k hk⟩⟩
set_option maxHeartbeats 1000000 in
theorem qtake_any (B g e : Nat) (l : List UInt8) (w : World) (hBg : B ≤ g) (h : Qd w B g l e) : Calls Tryd.prog 37 #[.pointer (some ⟨g, 0, none⟩)] w (QTakeRet w B g l e) := by
  have hg := h.lt
  have N1 := hide (fun W h => show Calls Tryd.prog 36 _ W (QdRet W B g (.int .i64 (tk1 l e).1) (tk1 l e).2.1 (tk1 l e).2.2) from qnumber_any B g e l 16777215 W hBg h)
  have N2 := hide (fun W h => show Calls Tryd.prog 36 _ W (QdRet W B g (.int .i64 (tk2 l e).1) (tk2 l e).2.1 (tk2 l e).2.2) from qnumber_any B g (tk1 l e).2.2 (tk1 l e).2.1 255 W hBg h)
  have N3 := hide (fun W h => show Calls Tryd.prog 36 _ W (QdRet W B g (.int .i64 (tk3 l e).1) (tk3 l e).2.1 (tk3 l e).2.2) from qnumber_any B g (tk2 l e).2.2 (tk2 l e).2.1 4294967295 W hBg h)
  have N4 := hide (fun W h => show Calls Tryd.prog 36 _ W (QdRet W B g (.int .i64 (tk4 l e).1) (tk4 l e).2.1 (tk4 l e).2.2) from qnumber_any B g (tk3 l e).2.2 (tk3 l e).2.1 4294967295 W hBg h)
  have N5 := hide (fun W h => show Calls Tryd.prog 57 _ W (QdRet W B g (.string (bs (tk5 l e).1)) (tk5 l e).2.1 (tk5 l e).2.2) from qtext_any B g (tk4 l e).2.2 (tk4 l e).2.1 20 W hBg h)
  have hlen : (tk5 l e).1.length ≤ 1000 := Nat.le_trans (rTxt_20 (tk4 l e).2.1 (tk4 l e).2.2) (by omega)
  have KR := hide (fun W => show Calls Tryd.prog 27 #[opv (tk1 l e).1 (tk2 l e).1 (tk3 l e).1 (tk4 l e).1 (tk5 l e).1] W (BoolRet (tkR l e) W) from orefRight_any _ _ _ _ _ W hlen)
  have RV := hide (show ∀ ed w', ed = .returned (.tuple #[if tkR l e = true then opv (tk1 l e).1 (tk2 l e).1 (tk3 l e).1 (tk4 l e).1 (tk5 l e).1 else opv 0 0 0 0 [], .bool (tkR l e)]) → Qd w' B g (tk5 l e).2.1 (tk5 l e).2.2 → w.grownBy w' (some g) → QTakeRet w B g l e ed w' from fun _ _ h1 h2 h3 => ⟨h1, h2, h3⟩)
  have T0 := hide (QtE.start hBg h)
  generalize QTakeRet w B g l e = Post at RV ⊢
  generalize tkR l e = R at RV KR
  generalize tk5 l e = r5 at N5 KR RV
  generalize tk4 l e = r4 at N4 N5 KR RV
  generalize tk3 l e = r3 at N3 N4 KR RV
  generalize tk2 l e = r2 at N2 N3 KR RV
  generalize tk1 l e = r1 at N1 N2 KR RV
  obtain ⟨n1, l1, x1⟩ := r1
  obtain ⟨n2, l2, x2⟩ := r2
  obtain ⟨n3, l3, x3⟩ := r3
  obtain ⟨n4, l4, x4⟩ := r4
  obtain ⟨s5, l5, x5⟩ := r5
  clear h hlen
  simp only at N1 N2 N3 N4 N5 KR RV
  unfold opv at KR RV
  go_enter Tryd.func37, Tryd.ntmps37
  go_wp2_with fail
  generalize w.alloc (.cells #[.int .i64 0, .int .i64 0, .int .i64 0, .int .i64 0, .string ⟨#[]⟩] 48) = w0 at T0 ⊢
  refine (N1.out w0 T0.out.qd).mono ?_
  rintro ed w1 ⟨rfl, hq, ho⟩
  have T1 := hide (T0.out.num hg hq ho)
  clear hq ho T0 N1
  go_wp2_with fail
  refine (N2.out w1 T1.out.qd).mono ?_
  rintro ed w2 ⟨rfl, hq, ho⟩
  have T2 := hide (T1.out.num hg hq ho)
  clear hq ho T1 N2
  go_wp2_with fail
  refine (N3.out w2 T2.out.qd).mono ?_
  rintro ed w3 ⟨rfl, hq, ho⟩
  have T3 := hide (T2.out.num hg hq ho)
  clear hq ho T2 N3
  go_wp2_with fail
  refine (N4.out w3 T3.out.qd).mono ?_
  rintro ed w4 ⟨rfl, hq, ho⟩
  have T4 := hide (T3.out.num hg hq ho)
  clear hq ho T3 N4
  go_wp2_with fail
  refine (N5.out w4 T4.out.qd).mono ?_
  rintro ed w5 ⟨rfl, hq, ho⟩
  have T5 := hide (T4.out.num hg hq ho)
  clear hq ho T4 N5
  go_wp2_with fail
  have bz := (Below.refl w5.heap.size w5).alloc (Nat.le_refl _) (.cells #[.int .i64 n1, .int .i64 n2, .int .i64 n3, .int .i64 n4, .string (bs s5)] 48)
  have T6 := hide (T5.out.belw hBg bz)
  have BO := hide (Bo.new w5 n1 n2 n3 n4 s5 48)
  clear bz T5
  generalize w5.alloc (.cells #[.int .i64 n1, .int .i64 n2, .int .i64 n3, .int .i64 n4, .string (bs s5)] 48) = w6 at T6 BO ⊢
  refine (KR.out w6).mono ?_
  rintro ed w7 ⟨rfl, hb⟩
  have T7 := hide (T6.out.belw hBg hb)
  obtain ⟨d0, d1, d2, d3, d4⟩ := BO.out.below hb BO.out.lt
  clear hb T6 BO KR
  have hres := T7.out.res
  have r0 := cell_of_row w7 w.heap.size 0 _ _ (0, 0) hres
  have r1 := cell_of_row w7 w.heap.size 1 _ _ (0, 0) hres
  have r2 := cell_of_row w7 w.heap.size 2 _ _ (0, 0) hres
  have r3 := cell_of_row w7 w.heap.size 3 _ _ (0, 0) hres
  have r4 := cell_of_row w7 w.heap.size 4 _ _ (0, 0) hres
  simp only [List.getElem?_toArray, List.getElem?_cons_zero, List.getElem?_cons_succ] at r0 r1 r2 r3 r4
  have z0 := T7.out.z 0
  have z1 := T7.out.z 1
  have z2 := T7.out.z 2
  have z3 := T7.out.z 3
  have z4 := T7.out.z 4
  clear hres
  have E7 := hide (fun (a b c d : Int) (s : ByteArray) => ((((T7.out.set hBg hg 0 (.int .i64 a)).set hBg hg 1 (.int .i64 b)).set hBg hg 2 (.int .i64 c)).set hBg hg 3 (.int .i64 d)).set hBg hg 4 (.string s))
  cases R with
  | false =>
    go_wp2
    (try simp only [Exit.inBlock, Exit.then])
    have E8 := hide (E7.out 0 0 0 0 ⟨#[]⟩)
    generalize ((((w7.setCell ⟨w.heap.size, 0, none⟩ (.int .i64 0)).setCell ⟨w.heap.size, 1, none⟩ (.int .i64 0)).setCell ⟨w.heap.size, 2, none⟩ (.int .i64 0)).setCell ⟨w.heap.size, 3, none⟩ (.int .i64 0)).setCell ⟨w.heap.size, 4, none⟩ (.string ⟨#[]⟩) = w8 at E8 ⊢
    have e0 := E8.out.c 0 _ rfl
    have e1 := E8.out.c 1 _ rfl
    have e2 := E8.out.c 2 _ rfl
    have e3 := E8.out.c 3 _ rfl
    have e4 := E8.out.c 4 _ rfl
    (try simp only [List.getElem_toArray, List.getElem_cons_zero, List.getElem_cons_succ] at e0 e1 e2 e3 e4)
    refine bodyPost_ret (v := .tuple #[.agg #[.int .i64 0, .int .i64 0, .int .i64 0, .int .i64 0, .string ⟨#[]⟩], .bool false]) ?_ rfl (RV.out _ _ ?_ E8.out.qd E8.out.gr)
    · rw [results_cell_tmp rfl]
      go_simp
    · rfl
  | true =>
    go_wp2
    (try simp only [Exit.inBlock, Exit.then])
    have E8 := hide (E7.out n1 n2 n3 n4 (bs s5))
    generalize ((((w7.setCell ⟨w.heap.size, 0, none⟩ (.int .i64 (n1 : Int))).setCell ⟨w.heap.size, 1, none⟩ (.int .i64 (n2 : Int))).setCell ⟨w.heap.size, 2, none⟩ (.int .i64 (n3 : Int))).setCell ⟨w.heap.size, 3, none⟩ (.int .i64 (n4 : Int))).setCell ⟨w.heap.size, 4, none⟩ (.string (bs s5)) = w8 at E8 ⊢
    have e0 := E8.out.c 0 _ rfl
    have e1 := E8.out.c 1 _ rfl
    have e2 := E8.out.c 2 _ rfl
    have e3 := E8.out.c 3 _ rfl
    have e4 := E8.out.c 4 _ rfl
    (try simp only [List.getElem_toArray, List.getElem_cons_zero, List.getElem_cons_succ] at e0 e1 e2 e3 e4)
    refine bodyPost_ret (v := .tuple #[.agg #[.int .i64 n1, .int .i64 n2, .int .i64 n3, .int .i64 n4, .string (bs s5)], .bool true]) ?_ rfl (RV.out _ _ ?_ E8.out.qd E8.out.gr)
    · rw [results_cell_tmp rfl]
      go_simp
    · rfl
end Go.Proofs.YteibkipcblmikaaDoor
