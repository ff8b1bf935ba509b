/-
  The contracts of wire's must and caught, and of the calls that Encode, Decode and Cut defer: of a frame that returns, of a frame that panics with an error. No conditions.
  The contract of wire's split: the pieces of bytes that were handed in. Conditions: the bytes can be read, and are not longer than 2^40.
  Batches as plain functions: the bytes of operations, reading them, cutting them off; there and back. No conditions.
  Slices of operations: how they lie in cells. No conditions.
  The contract of wire's written: the bytes that the sum is of, or a panic. Conditions: the operations can be read, their names are not longer than memory.
  The contract of wire.Encode. Conditions: the operations can be read, their names are not longer than memory.
  The contract of wire's read: the operations of a body, or a panic. Conditions: the bytes can be read, and are not longer than 2^40.
  The contract of wire.Decode. Conditions: the bytes can be read, and are not longer than 2^40.
  The contract of the document's Same: are two lists of operations one? Conditions: both can be read.
  The contract of the document's Encode. Conditions: the operations can be read, their names are not longer than a thousand bytes.
  The contract of the laws' awake: the chapter's example, and a batch of one. Conditions: the two tables of unicode/utf8 are laid.
-/
import Derived.Test.YteibkipcblmikaaDoorM1
import Derived.Defers
import Derived.Recover
import Derived.Laws.Pointers
import Derived.Test.YteibkipcblmikaaDoorM2
import Derived.Test.YteibkipcblmikaaDoorM5
import Derived.Deep.QuietTactic
import Derived.BigQuiet
import Derived.Test.YteibkipcblmikaaDoorM7
import Derived.Test.YteibkipcblmikaaDoorM6
import Derived.LoopTactic
import Derived.Lib.Walk
import Derived.StillTailTactics
namespace Go.Proofs.YteibkipcblmikaaDoor
open Go.RowKit
set_option linter.unusedVariables false
set_option maxRecDepth 100000

/-- What is panicked with. -/
def pe (e : Int) (r : Bool) : PanicEntry := { v := .iface 26 (.int .i64 e), recovered := r }
theorem must_yes (e : Int) (w : World) : Calls Tryd.prog 33 #[.bool true, .int .i64 e] w fun ed w' => ed = .returned (.tuple #[]) ∧ w' = w := by
  go_enter Tryd.func33, Tryd.ntmps33
  go_wp2
  go_end0
  exact ⟨rfl, rfl⟩
theorem must_no (e : Int) (w : World) : Calls Tryd.prog 33 #[.bool false, .int .i64 e] w fun ed w' => ed = .panicked [pe e false] ∧ w' = w := by
  go_enter Tryd.func33, Tryd.ntmps33
  go_wp2
  exact ⟨rfl, rfl, rfl⟩
theorem caught_nil (w : World) : Calls Tryd.prog 21 #[.nilIface] w fun ed w' => ed = .returned (.int .i64 0) ∧ w' = w := by
  go_enter Tryd.func21, Tryd.ntmps21
  go_wp2
  go_ret
  exact ⟨rfl, rfl⟩
theorem caught_some (e : Int) (w : World) : Calls Tryd.prog 21 #[.iface 26 (.int .i64 e)] w fun ed w' => ed = .returned (.int .i64 e) ∧ w' = w := by
  have ha : ∀ (v : Value) (w : World), (Instr.typeAssert (.iface 26 v) 20 26 false).run Tryd.prog w = .ok v w := by
    intro v w
    simp [Instr.typeAssert, go_sem]
  go_enter Tryd.func21, Tryd.ntmps21
  go_wp2
  go_ret
  exact ⟨rfl, rfl⟩
theorem enc_idle (p : Addr) (x : Int) (w : World) (hc : w.cell? p = some (.int .i64 x)) (hz : w.frozen? p = false) :
    CallsD Tryd.prog 20 #[.pointer (some p)] .returning w fun e u' w' => e = .returned (.tuple #[]) ∧ u' = .returning ∧ w' = w.setCell p (.int .i64 0) := by
  refine callsD_of_wpS Tryd.func20 rfl fun c₀ cs hu => ?_
  apply wpS_region
  simp [wpOpsS, go_sem, recoverD, hu, Tryd.ntmps20]
  refine (caught_nil w).mono ?_
  rintro e w' ⟨rfl, rfl⟩
  cases c₀
  simp_all [go_sem, bodyPostS, results, Tryd.results20]
theorem enc_caught (p : Addr) (x n : Int) (w : World) (hc : w.cell? p = some (.int .i64 x)) (hz : w.frozen? p = false) :
    CallsD Tryd.prog 20 #[.pointer (some p)] (.panicking [pe n false]) w fun e u' w' => e = .returned (.tuple #[]) ∧ u' = .panicking [pe n true] ∧ w' = w.setCell p (.int .i64 n) := by
  refine callsD_of_wpS Tryd.func20 rfl fun c₀ cs hu => ?_
  apply wpS_region
  simp [wpOpsS, go_sem, recoverD, hu, pe, Tryd.ntmps20]
  refine (caught_some n w).mono ?_
  rintro e w' ⟨rfl, rfl⟩
  simp [go_sem, hc, hz, bodyPostS, results, Tryd.results20]
theorem cut_idle (p : Addr) (x : Int) (w : World) (hc : w.cell? p = some (.int .i64 x)) (hz : w.frozen? p = false) :
    CallsD Tryd.prog 38 #[.pointer (some p)] .returning w fun e u' w' => e = .returned (.tuple #[]) ∧ u' = .returning ∧ w' = w.setCell p (.int .i64 0) := by
  refine callsD_of_wpS Tryd.func38 rfl fun c₀ cs hu => ?_
  apply wpS_region
  simp [wpOpsS, go_sem, recoverD, hu, Tryd.ntmps38]
  refine (caught_nil w).mono ?_
  rintro e w' ⟨rfl, rfl⟩
  cases c₀
  simp_all [go_sem, bodyPostS, results, Tryd.results38]
theorem cut_caught (p : Addr) (x n : Int) (w : World) (hc : w.cell? p = some (.int .i64 x)) (hz : w.frozen? p = false) :
    CallsD Tryd.prog 38 #[.pointer (some p)] (.panicking [pe n false]) w fun e u' w' => e = .returned (.tuple #[]) ∧ u' = .panicking [pe n true] ∧ w' = w.setCell p (.int .i64 n) := by
  refine callsD_of_wpS Tryd.func38 rfl fun c₀ cs hu => ?_
  apply wpS_region
  simp [wpOpsS, go_sem, recoverD, hu, pe, Tryd.ntmps38]
  refine (caught_some n w).mono ?_
  rintro e w' ⟨rfl, rfl⟩
  simp [go_sem, hc, hz, bodyPostS, results, Tryd.results38]
theorem dec_idle (p : Addr) (w : World) :
    CallsD Tryd.prog 31 #[.pointer (some p)] .returning w fun e u' w' => e = .returned (.tuple #[]) ∧ u' = .returning ∧ w' = w := by
  refine callsD_of_wpS Tryd.func31 rfl fun c₀ cs hu => ?_
  apply wpS_seq
  apply wpS_region
  simp [wpOpsS, go_sem, recoverD, hu, Tryd.ntmps31, Exit.thenS]
  refine (caught_nil w).mono ?_
  rintro e w' ⟨rfl, rfl⟩
  simp [go_sem]
  refine wpS_cond (t := false) (by simp [Act.eval, Array.replicate]) ?_
  simp only [Bool.false_eq_true, if_false]
  refine wpS_of_wp (wp_skip ?_)
  cases c₀
  simp_all [bodyPostS, results, Tryd.results31]
theorem dec_caught (p : Addr) (x n : Int) (w : World) (hn : n ≠ 0) (hc : w.cell? p = some (.int .i64 x)) (hz : w.frozen? p = false) :
    CallsD Tryd.prog 31 #[.pointer (some p)] (.panicking [pe n false]) w fun e u' w' => e = .returned (.tuple #[]) ∧ u' = .panicking [pe n true] ∧ w' = w.setCell p (.int .i64 3) := by
  refine callsD_of_wpS Tryd.func31 rfl fun c₀ cs hu => ?_
  apply wpS_seq
  apply wpS_region
  simp [wpOpsS, go_sem, recoverD, hu, pe, Tryd.ntmps31, Exit.thenS]
  refine (caught_some n w).mono ?_
  rintro e w' ⟨rfl, rfl⟩
  simp [go_sem]
  refine wpS_cond (t := true) (by simp [Act.eval, Array.replicate, hn]) ?_
  simp only [if_true]
  apply wpS_region
  simp [wpOpsS, go_sem, hc, hz, bodyPostS, results, Tryd.results31]
end Go.Proofs.YteibkipcblmikaaDoor
namespace Go.Proofs.YteibkipcblmikaaDoor
open Go.RowKit
set_option linter.unusedVariables false
set_option maxRecDepth 100000

/-- Where a slice begins whose first q bytes are cut off. -/
def cutB (A : Option Addr) (c q : Nat) : Option Addr := if c = q then A else A.map (·.add q)
theorem size_u8 (w : World) : (Go.sizeOf 5).run Tryd.prog w = .ok 1 w := by
  obtain ⟨i0, hi0, _, hz1, _⟩ := info_parts u8info
  simp [Go.sizeOf, typeInfo, hi0, hz1]
theorem run_mid (A : Option Addr) (n c i j : Nat) (hi : i ≤ j) (hj : j ≤ c) (w : World) :
    (Instr.slice 25 (.slice A n c) (some (.int .i64 (i : Int))) (some (.int .i64 (j : Int))) none).run Tryd.prog w = .ok (.slice (cutB A c i) (j - i) (c - i)) w := by
  have ht' : Tryd.prog.underlying 25 = some (.slice (Tryd.prog.elem 25)) := by simp [Program.elem, Tryd.underlying25]
  have he : Tryd.prog.elem 25 = 5 := by simp [Program.elem, Tryd.underlying25]
  rw [run_slice_lh w _ _ _ _ ht' .i64 .i64 _ _ (by omega) (by omega) (by omega), he, size_u8]
  simp [Result.andThen, sliced, cutB]
theorem run_tail (A : Option Addr) (n c i : Nat) (hi : i ≤ n) (w : World) :
    (Instr.slice 25 (.slice A n c) (some (.int .i64 (i : Int))) none none).run Tryd.prog w = .ok (.slice (cutB A c i) (n - i) (c - i)) w := by
  have ht' : Tryd.prog.underlying 25 = some (.slice (Tryd.prog.elem 25)) := by simp [Program.elem, Tryd.underlying25]
  have he : Tryd.prog.elem 25 = 5 := by simp [Program.elem, Tryd.underlying25]
  rw [run_slice_l w _ _ _ _ ht' .i64 _ (by omega) (by omega), he, size_u8]
  simp [Result.andThen, sliced, cutB]
theorem Addr.add_two (a : Addr) (i j : Nat) : (a.add i).add j = a.add (i + j) := by
  obtain ⟨b, o, s⟩ := a
  by_cases hi : i = 0
  · subst hi; simp [Addr.add]
  · by_cases hj : j = 0
    · subst hj; simp [Addr.add]
    · simp [Addr.add, hi, hj, Nat.add_assoc]
theorem Hnd.mid {w : World} {A : Option Addr} {n c : Nat} {l : List UInt8} (h : Hnd w (.slice A n c) l) (i m : Nat) (hm : i + m ≤ n) (hc : n ≤ c) : Hnd w (.slice (cutB A c i) m (c - i)) ((l.drop i).take m) := by
  obtain ⟨A', c', he, h1, h2⟩ := h
  injection he with e1 e2 e3
  subst e1 e2 e3
  refine ⟨cutB A c i, c - i, by rw [List.length_take, List.length_drop, Nat.min_eq_left (by omega)], fun h => ?_, fun ad had j u hu => ?_⟩
  · unfold cutB at h
    split at h
    · rw [h1 h]; simp
    · rcases A with _ | a
      · rw [h1 rfl]; simp
      · cases h
  · have hj : j < ((l.drop i).take m).length := by
      have := (List.getElem?_eq_some_iff.1 hu).1
      simpa [bc] using this
    rw [List.length_take, List.length_drop] at hj
    unfold cutB at had
    rw [if_neg (by omega)] at had
    rcases A with _ | a
    · cases had
    · injection had with had
      subst had
      rw [Addr.add_two]
      refine h2 a rfl (i + j) u ?_
      unfold bc at hu ⊢
      rw [List.map_take, List.map_drop, List.getElem?_take, if_pos (by omega), List.getElem?_drop] at hu
      exact hu
theorem rNum_len (most : Int) (l : List UInt8) (e : Nat) : (rNum most l e).2.1.length ≤ l.length := by
  unfold rNum
  split
  · exact Nat.le_refl _
  · split
    · simp
    · split
      · simp
      · simp
/-- What was wrong with the first number, and the bytes behind it; where they begin; how many. -/
def spE (l : List UInt8) : Nat := if (rNum 65535 l 0).2.2 = 0 then (if (rNum 65535 l 0).1 ≤ (rNum 65535 l 0).2.1.length then 0 else 2) else (rNum 65535 l 0).2.2
def spK (l : List UInt8) : Nat := l.length - (rNum 65535 l 0).2.1.length
def spN (l : List UInt8) : Nat := (rNum 65535 l 0).1
def WSplitR (A : Option Addr) (c : Nat) (l : List UInt8) (r : Nat × List UInt8 × Nat) (w : World) (e : Ending) (w' : World) : Prop :=
  Below w.heap.size w w' ∧ ((if r.2.2 = 0 then (if r.1 ≤ r.2.1.length then 0 else 2) else r.2.2) ≠ 0 → e = .panicked [pe ((if r.2.2 = 0 then (if r.1 ≤ r.2.1.length then 0 else 2) else r.2.2 : Nat)) false]) ∧ ((if r.2.2 = 0 then (if r.1 ≤ r.2.1.length then 0 else 2) else r.2.2) = 0 → (l.length - r.2.1.length) + r.1 ≤ l.length ∧
    e = .returned (.tuple #[.slice A (l.length - r.2.1.length) c, .slice (cutB A c (l.length - r.2.1.length)) r.1 (c - (l.length - r.2.1.length)), .slice (cutB A c (l.length - r.2.1.length + r.1)) (l.length - (l.length - r.2.1.length + r.1)) (c - (l.length - r.2.1.length + r.1))]))
def WSplitRet (A : Option Addr) (c : Nat) (l : List UInt8) (w : World) (e : Ending) (w' : World) : Prop :=
  Below w.heap.size w w' ∧ (spE l ≠ 0 → e = .panicked [pe (spE l) false]) ∧ (spE l = 0 → spK l + spN l ≤ l.length ∧
    e = .returned (.tuple #[.slice A (spK l) c, .slice (cutB A c (spK l)) (spN l) (c - spK l), .slice (cutB A c (spK l + spN l)) (l.length - (spK l + spN l)) (c - (spK l + spN l))]))
theorem belowD {B : Nat} {a w : World} (h : Below B a w) (n : Nat) : Below B a (w.drewN n) := ⟨h.os, h.tape, h.output, h.size, h.block⟩
theorem split_nums (L T n : Nat) (h0 : L ≤ 1099511627776) (h1 : T ≤ L) (h2 : n ≤ T) : ∃ k m : Nat, wrap64 ((L : Int) - (T : Int)) = (k : Int) ∧ wrap64 ((k : Int) + (n : Int)) = (m : Int) ∧ m - k = n ∧ k + n = m ∧ L - T = k ∧ L - T + n ≤ L ∧ k ≤ m ∧ m ≤ L := by
  refine ⟨L - T, L - T + n, ?_, ?_, by omega, by omega, by omega, by omega, by omega, by omega⟩
  · rw [wrap64_in _ (by omega) (by omega)]; omega
  · rw [wrap64_in _ (by omega) (by omega)]; omega
set_option maxHeartbeats 400000 in
theorem split_any (A : Option Addr) (c : Nat) (l : List UInt8) (w : World) (hl : l.length ≤ 1099511627776) (hc : l.length ≤ c) (hm : c ≤ maxLen) (h : Hnd w (.slice A l.length c) l) :
    Calls Tryd.prog 32 #[.slice A l.length c] w (WSplitRet A c l w) := by
  have HN := hide (new_any _ l w hl h)
  have HL := hide (rNum_len 65535 l 0)
  have HNum := hide (fun g w h => number_any g 0 l 65535 w h)
  clear h
  show Calls _ _ _ _ (WSplitR A c l (rNum 65535 l 0) w)
  generalize rNum 65535 l 0 = r at HL HNum ⊢
  obtain ⟨n, t, x⟩ := r
  have hlt := HL.out
  clear HL
  unfold maxLen at hm
  go_enter Tryd.func32, Tryd.ntmps32
  go_wp2_with fail
  refine HN.out.mono ?_
  rintro e w1 ⟨g, rfl, hg, hRd, hB⟩
  have RD := hide hRd
  have BB := hide hB
  clear hRd hB HN
  go_wp2_with fail
  refine (HNum.out g w1 RD.out).mono ?_
  rintro e w2 ⟨rfl, hRd2, hO⟩
  have BB2 := hide (hO.below BB.out BB.out.size hg)
  have RD2 := hide hRd2
  clear hRd2 hO RD BB HNum
  by_cases hx : x = 0
  · subst hx
    go_wp2_with fail
    refine (err_any g 0 t w2 RD2.out).mono ?_
    rintro e w3 ⟨rfl, rfl⟩
    go_wp2_with fail
    refine (err_any g 0 t _ RD2.out).mono ?_
    rintro e w3 ⟨rfl, rfl⟩
    go_wp2_with fail
    refine (must_yes _ _).mono ?_
    rintro e w3 ⟨rfl, rfl⟩
    go_wp2_with fail
    refine (left_any g 0 t _ RD2.out).mono ?_
    rintro e w3 ⟨rfl, rfl⟩
    by_cases hn : n ≤ t.length
    · have d1 : decide ((n : Int) ≤ (t.length : Int)) = true := by simp; omega
      go_wp2_with fail
      refine (must_yes _ _).mono ?_
      rintro e w3 ⟨rfl, rfl⟩
      clear d1
      go_wp2_with fail
      refine (left_any g 0 t _ RD2.out).mono ?_
      rintro e w3 ⟨rfl, rfl⟩
      obtain ⟨k, m, hk1, hk2, he1, he2, he3, he4, he5, he6⟩ := split_nums l.length t.length n hl hlt hn
      have r1 := run_head_any A l.length c k (Nat.le_trans he5 (Nat.le_trans he6 hc))
      have r2 := run_mid A l.length c k m he5 (Nat.le_trans he6 hc)
      have r3 := run_tail A l.length c m he6
      have HE := hide (And.intro he1 (And.intro he2 (And.intro he3 he4)))
      have HN2 := hide hn
      clear he1 he2 he3 he4 he5 he6 hn hlt
      go_wp2_with fail
      go_quiet (fail)
      go_wp2
      go_ret3
      obtain ⟨e1, e2, e3, e4⟩ := HE.out
      refine ⟨belowD BB2.out nq, ?_, ?_⟩
      · intro h; simp [HN2.out] at h
      · intro _
        simp only [e3, e2] at e4 ⊢
        refine ⟨e4, ?_⟩
        show Ending.returned (.tuple #[.slice A k c, .slice (cutB A c k) (m - k) (c - k), .slice (cutB A c m) (l.length - m) (c - m)]) = _
        rw [e1]
    · have d1 : decide ((n : Int) ≤ (t.length : Int)) = false := by simp; omega
      go_wp2_with fail
      refine (must_no _ _).mono ?_
      rintro e w3 ⟨rfl, rfl⟩
      clear d1
      go_wp2_with fail
      exact ⟨rfl, BB2.out, by intro; simp [hn], by simp [hn]⟩
  · have d0 : ((x : Int) == 0) = false := by simp; omega
    go_wp2_with fail
    refine (err_any g x t w2 RD2.out).mono ?_
    rintro e w3 ⟨rfl, rfl⟩
    go_wp2_with fail
    refine (err_any g x t _ RD2.out).mono ?_
    rintro e w3 ⟨rfl, rfl⟩
    go_wp2_with fail
    refine (must_no _ _).mono ?_
    rintro e w3 ⟨rfl, rfl⟩
    go_wp2_with fail
    exact ⟨rfl, BB2.out, by intro; simp [hx], by simp [hx]⟩
end Go.Proofs.YteibkipcblmikaaDoor
namespace Go.Proofs.YteibkipcblmikaaDoor
open Go.RowKit
set_option linter.unusedVariables false
set_option maxRecDepth 100000

def O5.R (o : O5) : Bool := opR o.n o.r o.d o.t o.l
def wBody (os : List O5) : List UInt8 := b8 1 :: (num os.length ++ (os.map O5.B).flatten)
def wAll (os : List O5) : List UInt8 := wBody os ++ four (sumN 0 (wBody os))
def wEnc (os : List O5) : List UInt8 := num (wAll os).length ++ wAll os
def wOk (os : List O5) : Bool := decide (os.length ≤ 64) && os.all O5.R
theorem wOk_t {os : List O5} (h : wOk os = true) : os.length ≤ 64 ∧ ∀ o ∈ os, o.R = true := by
  simpa [wOk] using h
theorem wOk_of {os : List O5} (h : os.length ≤ 64) (h2 : ∀ o ∈ os, o.R = true) : wOk os = true := by
  simp [wOk]; exact ⟨h, h2⟩
def tkO (l : List UInt8) (e : Nat) : O5 := ⟨(tk1 l e).1, (tk2 l e).1, (tk3 l e).1, (tk4 l e).1, (tk5 l e).1⟩
/-- That many operations are taken. -/
def rdL : Nat → List UInt8 → Nat → Option (List O5 × List UInt8 × Nat)
  | 0, l, e => some ([], l, e)
  | k + 1, l, e => if tkR l e = true then (rdL k (tk5 l e).2.1 (tk5 l e).2.2).map (fun x => (tkO l e :: x.1, x.2)) else none
theorem rdL_succ (k : Nat) (l : List UInt8) (e : Nat) : rdL (k + 1) l e = if tkR l e = true then (rdL k (tk5 l e).2.1 (tk5 l e).2.2).map (fun x => (tkO l e :: x.1, x.2)) else none := rfl
theorem rdL_sound : ∀ (k : Nat) (l : List UInt8) (e : Nat) (os : List O5) (l' : List UInt8) (e' : Nat), rdL k l e = some (os, l', e') →
    os.length = k ∧ (∀ o ∈ os, o.R = true) ∧ l = (os.map O5.B).flatten ++ l' ∧ e' = e
  | 0, l, e, os, l', e', h => by
    simp [rdL] at h
    obtain ⟨rfl, rfl, rfl⟩ := h
    simp
  | k + 1, l, e, os, l', e', h => by
    unfold rdL at h
    split at h
    · rename_i hR
      rcases hx : rdL k (tk5 l e).2.1 (tk5 l e).2.2 with _ | ⟨os1, l1, e1⟩
      · rw [hx] at h; cases h
      · rw [hx] at h
        simp at h
        obtain ⟨rfl, rfl, rfl⟩ := h
        obtain ⟨h1, h2, h3, h4⟩ := rdL_sound k _ _ _ _ _ hx
        obtain ⟨t1, t2, t3⟩ := take_put hR
        refine ⟨by simp [h1], ?_, ?_, by rw [h4, t2, t1]⟩
        · intro o ho
          rcases List.mem_cons.1 ho with rfl | ho
          · exact hR
          · exact h2 o ho
        · have e1 : (tkO l e).B = opB (tk1 l e).1 (tk2 l e).1 (tk3 l e).1 (tk4 l e).1 (tk5 l e).1 := rfl
          rw [List.map_cons, List.flatten_cons, List.append_assoc, ← h3, e1]
          exact t3
    · cases h
theorem tkO_put {o : O5} (h : o.R = true) (more : List UInt8) : tkR (o.B ++ more) 0 = true ∧ tkO (o.B ++ more) 0 = o ∧ (tk5 (o.B ++ more) 0).2 = (more, 0) := by
  obtain ⟨h1, h2, h3⟩ := put_take (show opR o.n o.r o.d o.t o.l = true from h) more
  refine ⟨h1, ?_, h3⟩
  have h4 := h2
  unfold tkV at h4
  rw [if_pos h1] at h4
  obtain ⟨a, b, c, d, e⟩ := opv_inj h4
  unfold tkO O5.B
  rw [a, b, c, d, e]
theorem rdL_put : ∀ (os : List O5) (more : List UInt8), (∀ o ∈ os, o.R = true) → rdL os.length ((os.map O5.B).flatten ++ more) 0 = some (os, more, 0)
  | [], more, _ => rfl
  | o :: os, more, h => by
    obtain ⟨h1, h2, h3⟩ := tkO_put (h o (by simp)) ((os.map O5.B).flatten ++ more)
    have e : ((o :: os).map O5.B).flatten ++ more = o.B ++ ((os.map O5.B).flatten ++ more) := by simp
    rw [e]
    rw [List.length_cons, rdL_succ, if_pos h1, h2, h3]
    simp only
    rw [rdL_put os more (fun o ho => h o (by simp [ho]))]
    rfl
theorem rNum_ne0 {most : Int} {l : List UInt8} {e : Nat} (h : (rNum most l e).1 ≠ 0) : (rNum most l e).2.2 = 0 := by
  unfold rNum at h ⊢
  split
  · rename_i h1; rw [if_pos h1] at h; simp at h
  · rename_i h1
    rw [if_neg h1] at h
    split
    · rename_i h2; rw [if_pos h2] at h; simp at h
    · rename_i h2
      rw [if_neg h2] at h
      split
      · rename_i h3; rw [if_pos h3] at h; simp at h
      · rfl
theorem num_one : num 1 = [b8 1] := by decide
/-- The operations that are read of a body. -/
def rd (b : List UInt8) : Option (List O5) :=
  if (rNum 1 b 0).1 = 1 then
    match rdL (rNum 64 (rNum 1 b 0).2.1 (rNum 1 b 0).2.2).1 (rNum 64 (rNum 1 b 0).2.1 (rNum 1 b 0).2.2).2.1 (rNum 64 (rNum 1 b 0).2.1 (rNum 1 b 0).2.2).2.2 with
    | some (os, l', e') => if e' = 0 ∧ l' = [] then some os else none
    | none => none
  else none
theorem rd_sound {b : List UInt8} {os : List O5} (h : rd b = some os) : b = wBody os ∧ wOk os = true := by
  unfold rd at h
  split at h
  · rename_i h1
    have e1 := rNum_ne0 (most := 1) (l := b) (e := 0) (by omega)
    obtain ⟨_, hb⟩ := rNum_ok e1
    rw [h1] at hb
    generalize hr2 : rNum 64 (rNum 1 b 0).2.1 (rNum 1 b 0).2.2 = r2 at h
    split at h
    · rename_i os1 l1 e2 hx
      split at h
      · rename_i h2
        obtain ⟨rfl, rfl⟩ := h2
        injection h with h
        subst h
        obtain ⟨s1, s2, s3, s4⟩ := rdL_sound _ _ _ _ _ _ hx
        have e2 : (rNum 64 (rNum 1 b 0).2.1 (rNum 1 b 0).2.2).2.2 = 0 := by rw [hr2]; exact s4.symm
        obtain ⟨_, hc⟩ := rNum_ok e2
        have hm := rNum_most 64 (rNum 1 b 0).2.1 (rNum 1 b 0).2.2 (by omega)
        rw [hr2] at hc hm
        refine ⟨?_, wOk_of (by omega) s2⟩
        rw [hb, hc, s3, show ((1 : Nat) : Int) = 1 from rfl, num_one]
        simp [wBody, s1]
      · cases h
    · cases h
  · cases h
theorem rd_put {os : List O5} (h : wOk os = true) : rd (wBody os) = some os := by
  obtain ⟨h1, h2⟩ := wOk_t h
  have e1 : rNum 1 (wBody os) 0 = (1, num os.length ++ (os.map O5.B).flatten, 0) := by
    have := rNum_put 1 1 (by omega) (by omega) (by omega) (num os.length ++ (os.map O5.B).flatten)
    rw [num_one] at this
    exact this
  have e2 : rNum 64 (num os.length ++ (os.map O5.B).flatten) 0 = (os.length, (os.map O5.B).flatten, 0) := by
    have := rNum_put os.length 64 (by omega) (by omega) (by omega) (os.map O5.B).flatten
    simpa using this
  have e3 := rdL_put os [] h2
  rw [List.append_nil] at e3
  unfold rd
  rw [e1]
  simp only [if_true]
  rw [e2]
  simp only
  rw [e3]
  simp
theorem B_le {o : O5} (h : o.R = true) : o.B.length ≤ 50 := by
  obtain ⟨_, _, _, h4⟩ := opR_t h
  have hr := right_ne h4
  have e : o.B = num o.n ++ num o.r ++ num o.d ++ num o.t ++ txt o.l := if_pos h
  rw [e]
  have h1 := num_le o.n
  have h2 := num_le o.r
  have h3 := num_le o.d
  have h4 := num_le o.t
  have h5 : (txt o.l).length ≤ 25 := by
    rw [txt_in _ (by omega), List.length_append]
    have := num_le o.l.length
    rw [num_in _ (by omega) (by omega)] at this
    simp only [Int.toNat_natCast] at this
    omega
  simp only [List.length_append]
  omega
theorem Bs_le : ∀ (os : List O5), (∀ o ∈ os, o.R = true) → (os.map O5.B).flatten.length ≤ 50 * os.length
  | [], _ => by simp
  | o :: os, h => by
    have h1 := Bs_le os (fun o ho => h o (by simp [ho]))
    have h2 := B_le (h o (by simp))
    simp only [List.map_cons, List.flatten_cons, List.length_append, List.length_cons]
    omega
theorem wBody_le {os : List O5} (h : wOk os = true) : (wBody os).length ≤ 4000 := by
  obtain ⟨h1, h2⟩ := wOk_t h
  have h3 := Bs_le os h2
  have h4 := num_le os.length
  simp only [wBody, List.length_cons, List.length_append]
  omega
theorem four_len (s : Nat) : (four s).length = 4 := rfl
theorem wAll_len (os : List O5) : (wAll os).length = (wBody os).length + 4 := by rw [wAll, List.length_append, four_len]
theorem wEnc_le {os : List O5} (h : wOk os = true) : (wEnc os).length ≤ 5000 := by
  have h1 := wBody_le h
  have h2 := wAll_len os
  have h3 := num_le (wAll os).length
  rw [wEnc, List.length_append]
  omega
/-- What is cut off bytes. -/
theorem sp_put {n : Nat} (t : List UInt8) (hn : n ≤ 65535) (ht : n ≤ t.length) : spE (num n ++ t) = 0 ∧ spK (num n ++ t) = (num n).length ∧ spN (num n ++ t) = n := by
  have e := rNum_put n 65535 (by omega) (by omega) (by omega) t
  simp only [Int.toNat_natCast] at e
  unfold spE spK spN
  rw [e]
  simp [ht]
theorem sp_ok {l : List UInt8} (h : spE l = 0) : l = num (spN l) ++ l.drop (spK l) ∧ spN l ≤ (l.drop (spK l)).length ∧ spK l = (num (spN l)).length ∧ spN l ≤ 65535 := by
  unfold spE at h
  have hk : (rNum 65535 l 0).2.2 = 0 := by
    split at h
    · assumption
    · omega
  have hn : (rNum 65535 l 0).1 ≤ (rNum 65535 l 0).2.1.length := by
    rw [if_pos hk] at h
    split at h
    · assumption
    · cases h
  obtain ⟨_, hl⟩ := rNum_ok hk
  have hm := rNum_most 65535 l 0 (by omega)
  have hK : spK l = (num (spN l)).length := by
    unfold spK spN
    have := congrArg List.length hl
    rw [List.length_append] at this
    omega
  have hd : l.drop (spK l) = (rNum 65535 l 0).2.1 := by
    rw [hK]
    exact (congrArg (List.drop (num (spN l)).length) hl).trans List.drop_left
  refine ⟨?_, ?_, hK, ?_⟩
  · rw [hd]; exact hl
  · rw [hd]; exact hn
  · unfold spN; omega
/-- The bytes that are counted; without their sum. -/
def cntd (l : List UInt8) : List UInt8 := (l.drop (spK l)).take (spN l)
def bodyOf (l : List UInt8) : List UInt8 := (cntd l).take ((cntd l).length - 4)
def sumOf (l : List UInt8) : List UInt8 := (cntd l).drop ((cntd l).length - 4)
def framed (l : List UInt8) : Bool := decide (spE l = 0) && decide (l.length = spK l + spN l) && decide (4 ≤ spN l)
def dec? (l : List UInt8) : Option (List O5) := if framed l = true ∧ four (sumN 0 (bodyOf l)) = sumOf l then rd (bodyOf l) else none
theorem framed_t {l : List UInt8} (h : framed l = true) : ∃ c, l = num c.length ++ c ∧ 4 ≤ c.length ∧ c.length ≤ 65535 ∧ cntd l = c := by
  simp only [framed, Bool.and_eq_true, decide_eq_true_eq] at h
  obtain ⟨⟨h1, h2⟩, h3⟩ := h
  obtain ⟨e1, e2, e3, e4⟩ := sp_ok h1
  have hl : (l.drop (spK l)).length = spN l := by rw [List.length_drop]; omega
  have hc : cntd l = l.drop (spK l) := by
    unfold cntd
    rw [List.take_of_length_le (by omega)]
  refine ⟨l.drop (spK l), ?_, by omega, by omega, hc⟩
  rw [hl]
  exact e1
theorem framed_put (c : List UInt8) (h4 : 4 ≤ c.length) (h : c.length ≤ 65535) : framed (num c.length ++ c) = true ∧ cntd (num c.length ++ c) = c := by
  obtain ⟨e1, e2, e3⟩ := sp_put c h (Nat.le_refl _)
  refine ⟨?_, ?_⟩
  · simp only [framed, e1, e2, e3, List.length_append]
    simp [h4]
  · unfold cntd
    rw [e2, e3, List.drop_left, List.take_length]
theorem dec_sound {l : List UInt8} {os : List O5} (h : dec? l = some os) : wOk os = true ∧ l = wEnc os := by
  unfold dec? at h
  split at h
  · rename_i hc
    obtain ⟨hf, hs⟩ := hc
    obtain ⟨e1, e2⟩ := rd_sound h
    obtain ⟨c, c1, c2, c3, c4⟩ := framed_t hf
    refine ⟨e2, ?_⟩
    have hc : c = wAll os := by
      unfold wAll
      rw [← e1, hs]
      unfold bodyOf sumOf
      rw [c4, List.take_append_drop]
    rw [c1, hc]
    rfl
  · cases h
theorem dec_put {os : List O5} (h : wOk os = true) : dec? (wEnc os) = some os := by
  have hb := wBody_le h
  have hl := wAll_len os
  obtain ⟨f1, f2⟩ := framed_put (wAll os) (by omega) (by omega)
  have e1 : bodyOf (wEnc os) = wBody os := by
    unfold bodyOf wEnc
    rw [f2, hl, Nat.add_sub_cancel]
    exact List.take_left
  have e2 : sumOf (wEnc os) = four (sumN 0 (wBody os)) := by
    unfold sumOf wEnc
    rw [f2, hl, Nat.add_sub_cancel]
    exact List.drop_left
  unfold dec?
  rw [e1, e2, if_pos ⟨f1, rfl⟩, rd_put h]
theorem wEnc_inj {a b : List O5} (ha : wOk a = true) (hb : wOk b = true) (h : wEnc a = wEnc b) : a = b := by
  have h1 := dec_put ha
  rw [h, dec_put hb] at h1
  injection h1 with h1
  exact h1.symm
theorem wEnc_none (os : List O5) : wEnc os ≠ [] := by
  have h := wAll_len os
  intro he
  have := congrArg List.length he
  rw [wEnc, List.length_append, List.length_nil] at this
  omega
/-- What is encoded. -/
def encB (os : List O5) : List UInt8 := if wOk os = true then wEnc os else []
def encE (os : List O5) : Nat := if wOk os = true then 0 else 1
/-- The document's way to read. -/
def rdQ (l : List UInt8) : Option (List O5 × List UInt8 × Nat) :=
  rdL (rNum 64 (rNum 1 (rNum 65535 l 0).2.1 (rNum 65535 l 0).2.2).2.1 (rNum 1 (rNum 65535 l 0).2.1 (rNum 65535 l 0).2.2).2.2).1
    (rNum 64 (rNum 1 (rNum 65535 l 0).2.1 (rNum 65535 l 0).2.2).2.1 (rNum 1 (rNum 65535 l 0).2.1 (rNum 65535 l 0).2.2).2.2).2.1
    (rNum 64 (rNum 1 (rNum 65535 l 0).2.1 (rNum 65535 l 0).2.2).2.1 (rNum 1 (rNum 65535 l 0).2.1 (rNum 65535 l 0).2.2).2.2).2.2
def decQ (l : List UInt8) : Option (List O5) :=
  match rdQ l with
  | some x => if encB x.1 = l then some x.1 else none
  | none => none
theorem rdQ_put {os : List O5} (h : wOk os = true) : ∃ y, rdQ (wEnc os) = some (os, y) := by
  obtain ⟨h1, h2⟩ := wOk_t h
  have hb := wBody_le h
  have hl := wAll_len os
  have e0 : rNum 65535 (wEnc os) 0 = ((wAll os).length, wAll os, 0) := by
    have := rNum_put (wAll os).length 65535 (by omega) (by omega) (by omega) (wAll os)
    simpa [wEnc] using this
  have e1 : rNum 1 (wAll os) 0 = (1, num os.length ++ ((os.map O5.B).flatten ++ four (sumN 0 (wBody os))), 0) := by
    have := rNum_put 1 1 (by omega) (by omega) (by omega) (num os.length ++ ((os.map O5.B).flatten ++ four (sumN 0 (wBody os))))
    rw [num_one] at this
    have e : wAll os = [b8 1] ++ (num os.length ++ ((os.map O5.B).flatten ++ four (sumN 0 (wBody os)))) := by
      simp [wAll, wBody]
    rw [e]
    exact this
  have e2 : rNum 64 (num os.length ++ ((os.map O5.B).flatten ++ four (sumN 0 (wBody os)))) 0 = (os.length, (os.map O5.B).flatten ++ four (sumN 0 (wBody os)), 0) := by
    have := rNum_put os.length 64 (by omega) (by omega) (by omega) ((os.map O5.B).flatten ++ four (sumN 0 (wBody os)))
    simpa using this
  unfold rdQ
  rw [e0]
  simp only
  rw [e1]
  simp only
  rw [e2]
  exact ⟨_, rdL_put os _ h2⟩
theorem decQ_eq (l : List UInt8) : decQ l = dec? l := by
  rcases hd : dec? l with _ | os
  · unfold decQ
    rcases hq : rdQ l with _ | x
    · rfl
    · simp only
      split
      · rename_i he
        exfalso
        unfold encB at he
        split at he
        · rename_i hk
          rw [← he, dec_put hk] at hd
          cases hd
        · rename_i hk
          subst he
          have : rdQ [] = some ([], [], 2) := by rfl
          rw [this] at hq
          injection hq with hq
          subst hq
          exact hk rfl
      · rfl
  · obtain ⟨h1, h2⟩ := dec_sound hd
    subst h2
    obtain ⟨y, hy⟩ := rdQ_put h1
    unfold decQ
    rw [hy]
    simp only
    unfold encB
    rw [if_pos h1, if_pos rfl]
end Go.Proofs.YteibkipcblmikaaDoor
namespace Go.Proofs.YteibkipcblmikaaDoor
open Go.RowKit
set_option linter.unusedVariables false
set_option maxRecDepth 100000

def O5.v (o : O5) : Value := opv o.n o.r o.d o.t o.l
/-- An operation's cells; those of many. -/
def oc (o : O5) : List Value := [.int .i64 o.n, .int .i64 o.r, .int .i64 o.d, .int .i64 o.t, .string (bs o.l)]
def ocs (os : List O5) : List Value := (os.map oc).flatten
theorem ocs_length : ∀ (os : List O5), (ocs os).length = os.length * 5
  | [] => rfl
  | o :: os => by
    have := ocs_length os
    simp only [ocs, List.map_cons, List.flatten_cons, List.length_append, List.length_cons] at this ⊢
    rw [this]
    simp [oc]
    omega
theorem ocs_append (a b : List O5) : ocs (a ++ b) = ocs a ++ ocs b := by simp [ocs]
theorem ocs_one (os : List O5) : ∀ u ∈ ocs os, u.oneCell' = true := by
  intro u hu
  simp only [ocs, List.mem_flatten, List.mem_map] at hu
  obtain ⟨x, ⟨o, _, rfl⟩, hu⟩ := hu
  simp only [oc, List.mem_cons, List.not_mem_nil, or_false] at hu
  rcases hu with rfl | rfl | rfl | rfl | rfl <;> rfl
theorem ocs_at : ∀ (os : List O5) (j i : Nat) (h : j < os.length), i < 5 → (ocs os)[j * 5 + i]? = (oc os[j])[i]?
  | [], j, i, h, _ => by simp at h
  | o :: os, 0, i, h, hi => by
    simp only [ocs, List.map_cons, List.flatten_cons, Nat.zero_mul, Nat.zero_add, List.getElem_cons_zero]
    rw [List.getElem?_append_left (by simpa [oc] using hi)]
  | o :: os, j + 1, i, h, hi => by
    have := ocs_at os j i (by simpa using h) hi
    simp only [ocs, List.map_cons, List.flatten_cons, List.getElem_cons_succ] at this ⊢
    rw [← this, List.getElem?_append_right (by simp [oc]; omega)]
    congr 1
    simp [oc]
    omega
/-- Operations that can be read, from a place on. -/
def OpsAt (w : World) (b o : Nat) (os : List O5) : Prop := ∀ j u, (ocs os)[j]? = some u → w.cell? ⟨b, o + j, none⟩ = some u
/-- A slice of operations that can be read. -/
structure Ops (w : World) (A : Option Addr) (c : Nat) (os : List O5) : Prop where
  nil : A = none → os = []
  le : os.length ≤ c
  most : c ≤ maxLen
  lit : 0 < os.length → ∃ b o, A = some ⟨b, o, none⟩ ∧ OpsAt w b o os
theorem OpsAt.five {w : World} {b o : Nat} {os : List O5} (h : OpsAt w b o os) (j : Nat) (hj : j < os.length) :
    w.cell? ⟨b, o + j * 5, none⟩ = some (.int .i64 os[j].n) ∧ w.cell? ⟨b, o + j * 5 + 1, none⟩ = some (.int .i64 os[j].r) ∧ w.cell? ⟨b, o + j * 5 + 2, none⟩ = some (.int .i64 os[j].d) ∧ w.cell? ⟨b, o + j * 5 + 3, none⟩ = some (.int .i64 os[j].t) ∧ w.cell? ⟨b, o + j * 5 + 4, none⟩ = some (.string (bs os[j].l)) := by
  refine ⟨?_, ?_, ?_, ?_, ?_⟩
  · exact h (j * 5 + 0) _ (by rw [ocs_at os j 0 hj (by omega)]; rfl)
  · exact h (j * 5 + 1) _ (by rw [ocs_at os j 1 hj (by omega)]; rfl)
  · exact h (j * 5 + 2) _ (by rw [ocs_at os j 2 hj (by omega)]; rfl)
  · exact h (j * 5 + 3) _ (by rw [ocs_at os j 3 hj (by omega)]; rfl)
  · exact h (j * 5 + 4) _ (by rw [ocs_at os j 4 hj (by omega)]; rfl)
theorem OpsAt.below {w w' : World} {b o : Nat} {os : List O5} (h : OpsAt w b o os) (hb : Below w.heap.size w w') : OpsAt w' b o os := fun j u hu => by
  have := h j u hu
  exact (hb.cell (World.block_lt_of_cell? w _ this)).trans this
theorem Ops.below {w w' : World} {A : Option Addr} {c : Nat} {os : List O5} (h : Ops w A c os) (hb : Below w.heap.size w w') : Ops w' A c os :=
  ⟨h.nil, h.le, h.most, fun hp => by obtain ⟨b, o, e, h⟩ := h.lit hp; exact ⟨b, o, e, h.below hb⟩⟩
/-- What a call leaves that gives a new row of operations. -/
def OwnOps (w : World) (base : Nat) (v : Value) (os : List O5) : Prop := w.ownsRow base 48 5 v os.length (ocs os)
theorem OwnOps.ops {w : World} {base : Nat} {v : Value} {os : List O5} (h : OwnOps w base v os) : ∃ A c, v = .slice A os.length c ∧ Ops w A c os := by
  rcases h.2 with ⟨rfl, h0⟩ | ⟨g, cap, cur, rfl, hb, hg, hn, hm, hs, ht⟩
  · have : os = [] := List.length_eq_zero_iff.1 h0
    subst this
    exact ⟨none, 0, rfl, fun _ => rfl, Nat.le_refl _, Nat.zero_le _, fun h => by simp at h⟩
  · refine ⟨_, cap, rfl, (by intro h; cases h), hn, hm, fun hp => ⟨g, 0, rfl, fun j u hu => ?_⟩⟩
    have := h.cells (g := g) rfl j u hu
    rwa [Addr.add_lit] at this
theorem OwnOps.below {w w' : World} {base : Nat} {v : Value} {os : List O5} (h : OwnOps w base v os) (hb : Below w.heap.size w w') : OwnOps w' base v os := by
  refine ⟨h.1, ?_⟩
  rcases h.2 with h0 | ⟨g, cap, cur, h1, h2, h3, h4⟩
  · exact .inl h0
  · exact .inr ⟨g, cap, cur, h1, h2, (hb.block g (Array.getElem?_eq_some_iff.1 h3).1).trans h3, h4⟩
theorem OwnOps.base {w : World} {base base' : Nat} {v : Value} {os : List O5} (h : OwnOps w base v os) (hb : base' ≤ base) : OwnOps w base' v os := by
  refine ⟨h.1, ?_⟩
  rcases h.2 with h0 | ⟨g, cap, cur, h1, h2, h3⟩
  · exact .inl h0
  · exact .inr ⟨g, cap, cur, h1, by omega, h3⟩
end Go.Proofs.YteibkipcblmikaaDoor
namespace Go.Proofs.YteibkipcblmikaaDoor
open Go.RowKit
set_option linter.unusedVariables false
set_option maxRecDepth 100000

def wPart (n : Nat) (os : List O5) : List UInt8 := b8 1 :: (num n ++ (os.map O5.B).flatten)
theorem wPart_step (n : Nat) (os : List O5) (k : Nat) (h : k < os.length) : wPart n (os.take (k + 1)) = wPart n (os.take k) ++ os[k].B := by
  unfold wPart
  rw [List.take_succ_eq_append_getElem h, List.map_append, List.flatten_append]
  simp only [List.map_cons, List.map_nil, List.flatten_cons, List.flatten_nil, List.append_nil, List.cons_append, List.append_assoc]
theorem wPart_le (n : Nat) (os : List O5) (h : os.length ≤ 64) : (wPart n os).length ≤ 330000 := by
  have h1 : ∀ os : List O5, (os.map O5.B).flatten.length ≤ 5000 * os.length := by
    intro os
    induction os with
    | nil => simp
    | cons o os ih =>
      have := opB_le o.n o.r o.d o.t o.l
      have e : o.B = opB o.n o.r o.d o.t o.l := rfl
      simp only [List.map_cons, List.flatten_cons, List.length_append, List.length_cons, e]
      omega
  have h2 := h1 os
  have h3 := num_le n
  unfold wPart
  rw [List.length_cons, List.length_append]
  omega
def WrRet (w : World) (os : List O5) (e : Ending) (w' : World) : Prop := (wOk os = true → OwnRet w (wBody os) e w') ∧ (wOk os = false → e = .panicked [pe 1 false] ∧ Below w.heap.size w w')
def WrRel (w : World) (os : List O5) (v i : Value) (w' : World) : Prop :=
  ∃ k : Nat, k ≤ os.length ∧ i = .int .i64 (k : Int) ∧ w'.ownsRow w.heap.size 5 1 v (wPart os.length (os.take k)).length (bc (wPart os.length (os.take k))) ∧ Below w.heap.size w w' ∧ ∀ o ∈ os.take k, o.R = true
theorem wOk_false {os : List O5} {k : Nat} (hk : k < os.length) (h : os[k].R = false) : wOk os = false := by
  cases hw : wOk os with
  | false => rfl
  | true =>
    have := (wOk_t hw).2 os[k] (List.getElem_mem hk)
    rw [h] at this
    cases this
set_option maxHeartbeats 1000000 in
theorem written_any (A : Option Addr) (c : Nat) (os : List O5) (w : World) (hn : os.length ≤ 1000000) (hm : ∀ o ∈ os, o.l.length ≤ maxLen) (hE : Env w) (h : Ops w A c os) :
    Calls Tryd.prog 22 #[.slice A os.length c] w (WrRet w os) := by
  have HE := hide hE
  have HO := hide h
  have HM := hide hm
  clear hE h hm
  go_enter Tryd.func22, Tryd.ntmps22
  by_cases h64 : os.length ≤ 64
  · have d1 : decide ((os.length : Int) ≤ 64) = true := by simp; omega
    go_wp2_with fail
    refine (must_yes _ _).mono ?_
    rintro e w3 ⟨rfl, h3⟩
    rw [h3]
    clear d1 h3 w3
    go_wp2_with fail
    have O1 := hide (own_new1 w w.heap.size (Nat.le_refl _) 1 (b8 1) rfl)
    have B1 := hide ((Below.refl w.heap.size w).alloc (Nat.le_refl _) (.cells #[.int .u8 1] 5))
    generalize hw1 : w.alloc (.cells #[.int .u8 1] 5) = w1 at O1 B1 ⊢
    have S1 := hide (show w.heap.size ≤ w1.heap.size from B1.out.size)
    clear hw1
    refine (num_any os.length _).mono ?_
    rintro e w2 ⟨v2, rfl, hown, hb⟩
    obtain ⟨A2, c2, rfl, f1, f2, f3⟩ := (RSl.of_own hown).form
    have O2 := hide (own_below O1.out hb)
    have N2 := hide (Hnd.of_RSl (RSl.of_own hown))
    have B2 := hide (B1.out.trans (hb.mono S1.out))
    have S2 := hide (show w.heap.size ≤ w2.heap.size from B2.out.size)
    have F1 := hide f1
    have hnl := num_le os.length
    clear hown hb f1 f2 f3 O1 B1 S1
    go_wp2_with (at_builtin; refine wpList_append_b _ rfl _ _ rfl w.heap.size _ 1 [b8 1] rfl O2.out A2 (num os.length).length c2 (num os.length) rfl rfl F1.out N2.out (by omega) S2.out ?_)
    intro v3 w3 hown3 hg3 _
    have B3 := hide (B2.out.grown hg3 S2.out (by intro k hk; simp [Value.ownBlock] at hk; omega))
    have O3 := hide (show w3.ownsRow w.heap.size 5 1 v3 (wPart os.length (os.take 0)).length (bc (wPart os.length (os.take 0))) by
      have e : wPart os.length (os.take 0) = [b8 1] ++ num os.length := by simp [wPart]
      rw [e, List.length_append]
      exact hown3)
    clear hown3 hg3 O2 N2 B2 S2 F1 hnl
    go_wp2_with fail
    go_loopw [3, 17] (WrRel w os) (fun _ i _ => os.length - (intOf i).toNat)
    case atStart => exact ⟨0, Nat.zero_le _, rfl, O3.out, B3.out, by simp⟩
    case round =>
      obtain ⟨k, hk, rfl, ho, hb, hr⟩ := hrel
      have O := hide ho
      have B := hide hb
      have R := hide hr
      have sz := hb.size
      clear ho hb hr O3 B3
      by_cases hlt : k < os.length
      · obtain ⟨b, o, rfl, hat⟩ := (HO.out.below B.out).lit (by omega)
        obtain ⟨c0, c1, c2, c3, c4⟩ := hat.five k hlt
        have HK := hide (show os[k]'hlt ∈ os from List.getElem_mem hlt)
        have ST := hide (wPart_step os.length os k hlt)
        have HF := hide (@wOk_false os k hlt)
        have HT := hide (List.take_succ_eq_append_getElem hlt)
        have HML := hide (HM.out _ HK.out)
        generalize hx : os[k]'hlt = x at c0 c1 c2 c3 c4 HK ST HF HT HML
        clear hx hat
        go_wp2_with fail
        have BO := hide (Bo.new wr x.n x.r x.d x.t x.l 48)
        have Oa := hide (own_below O.out ((Below.refl wr.heap.size wr).alloc (Nat.le_refl _) (.cells #[.int .i64 x.n, .int .i64 x.r, .int .i64 x.d, .int .i64 x.t, .string (bs x.l)] 48)))
        have Ba := hide (B.out.alloc sz (.cells #[.int .i64 x.n, .int .i64 x.r, .int .i64 x.d, .int .i64 x.t, .string (bs x.l)] 48))
        generalize hwa : wr.alloc (.cells #[.int .i64 x.n, .int .i64 x.r, .int .i64 x.d, .int .i64 x.t, .string (bs x.l)] 48) = wa at BO Oa Ba ⊢
        clear hwa c0 c1 c2 c3 c4 O B
        have za := Ba.out.size
        refine (oright_any x.n x.r x.d x.t x.l wa HML.out (HE.out.below Ba.out)).mono ?_
        rintro e wb ⟨rfl, hb⟩
        have Bb := hide (Ba.out.trans (hb.mono za))
        have Ob := hide (own_below Oa.out hb)
        have BOb := hide (BO.out.below hb BO.out.lt)
        clear hb Oa Ba BO
        have zb := Bb.out.size
        cases hR : x.R with
        | true =>
          have hR2 : opR x.n x.r x.d x.t x.l = true := hR
          rw [hR2]
          clear hR2
          have HR := hide hR
          clear hR
          go_wp2_with fail
          refine (must_yes _ _).mono ?_
          rintro e w4 ⟨rfl, h4⟩
          rw [h4]
          clear h4 w4
          obtain ⟨c0, c1, c2, c3, c4⟩ := BOb.out
          go_wp2_with fail
          refine (oput_any x.n x.r x.d x.t x.l wb HML.out (HE.out.below Bb.out)).mono ?_
          rintro e w5 ⟨v5, rfl, hown, hb⟩
          obtain ⟨A5, c5, rfl, f1, f2, f3⟩ := (RSl.of_own hown).form
          have B5 := hide (Bb.out.trans (hb.mono zb))
          have O5' := hide (own_below Ob.out hb)
          have N5 := hide (Hnd.of_RSl (RSl.of_own hown))
          have F1 := hide f1
          have S5 := hide (show w.heap.size ≤ w5.heap.size from B5.out.size)
          have hle1 := wPart_le os.length (os.take k) (by rw [List.length_take]; omega)
          have hle2 := opB_le x.n x.r x.d x.t x.l
          clear hown hb f1 f2 f3 c0 c1 c2 c3 c4 BOb Bb Ob
          go_wp2_with (at_builtin; refine wpList_append_b _ rfl _ _ rfl w.heap.size _ _ _ rfl O5'.out A5 (opB x.n x.r x.d x.t x.l).length c5 (opB x.n x.r x.d x.t x.l) rfl rfl F1.out N5.out (by omega) S5.out ?_)
          intro v6 w6 hown6 hg6 _
          have B6 := hide (B5.out.grown hg6 S5.out (by
            intro k hk
            rcases O5'.out.2 with ⟨rfl, _⟩ | ⟨g, cap, cur, rfl, hb, _⟩
            · simp [Value.ownBlock] at hk
            · simp [Value.ownBlock] at hk; omega))
          have O6 := hide (show w6.ownsRow w.heap.size 5 1 v6 (wPart os.length (os.take (k + 1))).length (bc (wPart os.length (os.take (k + 1)))) by
            rw [ST.out, List.length_append]
            exact hown6)
          clear hown6 hg6 hle1 hle2 O5' N5 S5 F1 B5
          go_wp2_with fail
          go_roundw
          case rel =>
            refine ⟨k + 1, by omega, by go_num, O6.out, B6.out, ?_⟩
            rw [HT.out]
            intro o ho
            rcases List.mem_append.1 ho with ho | ho
            · exact R.out o ho
            · rw [List.mem_singleton.1 ho]; exact HR.out
          case measure => simp [intOf]; omega
        | false =>
          have hR2 : opR x.n x.r x.d x.t x.l = false := hR
          rw [hR2]
          clear hR2
          have HW := hide (HF.out hR)
          clear hR
          go_wp2_with fail
          refine (must_no _ _).mono ?_
          rintro e w4 ⟨rfl, h4⟩
          rw [h4]
          clear h4 w4
          go_wp2_with fail
          refine ⟨rfl, ⟨fun h => ?_, fun _ => ⟨rfl, Bb.out⟩⟩⟩
          rw [HW.out] at h
          cases h
      · obtain rfl : k = os.length := by omega
        go_wp2_with fail
        go_ret
        have hk : wOk os = true := wOk_of h64 (fun o ho => R.out o (by rw [List.take_length]; exact ho))
        refine ⟨fun _ => ⟨_, rfl, ?_, B.out⟩, fun h => ?_⟩
        · have := O.out
          rw [List.take_length] at this
          exact this
        · rw [hk] at h
          cases h
  · have d1 : decide ((os.length : Int) ≤ 64) = false := by simp; omega
    go_wp2_with fail
    refine (must_no _ _).mono ?_
    rintro e w3 ⟨rfl, h3⟩
    rw [h3]
    clear h3 w3
    go_wp2_with fail
    have hk : wOk os = false := by simp [wOk]; omega
    refine ⟨rfl, ⟨fun h => ?_, fun _ => ⟨rfl, Below.refl _ _⟩⟩⟩
    rw [hk] at h
    cases h
end Go.Proofs.YteibkipcblmikaaDoor
namespace Go.Proofs.YteibkipcblmikaaDoor
open Go.RowKit
set_option linter.unusedVariables false
set_option maxRecDepth 100000

/-- Bytes and an error are answered. -/
def BytesErr (w : World) (l : List UInt8) (n : Nat) (e : Ending) (w' : World) : Prop :=
  ∃ v, e = .returned (.tuple #[v, .int .i64 n]) ∧ w'.ownsRow w.heap.size 5 1 v l.length (bc l) ∧ Below w.heap.size w w'
def ECell (w wk : World) : Prop := wk.heap[w.heap.size]? = some (.cells #[.int .i64 0] 26 (0, 0))
theorem ECell.new (w : World) : ECell w (w.alloc (.cells #[.int .i64 0] 26)) := heap_alloc_new w _
theorem ECell.below {w wk w' : World} (h : ECell w wk) (hb : Below wk.heap.size wk w') : ECell w w' := (hb.block _ (Array.getElem?_eq_some_iff.1 h).1).trans h
theorem ECell.cell {w wk : World} (h : ECell w wk) : wk.cell? ⟨w.heap.size, 0, none⟩ = some (.int .i64 0) := cell_of_row wk w.heap.size 0 _ _ (0, 0) h
theorem ECell.froz {w wk : World} (h : ECell w wk) : wk.frozen? ⟨w.heap.size, 0, none⟩ = false := by
  unfold ECell at h
  simp [World.frozen?, h]
theorem ECell.set {w wk : World} (h : ECell w wk) (x : Int) : (wk.setCell ⟨w.heap.size, 0, none⟩ (.int .i64 x)).cell? ⟨w.heap.size, 0, none⟩ = some (.int .i64 x) := by
  refine cell_of_row _ w.heap.size 0 #[.int .i64 x] 26 (0, 0) ?_
  unfold ECell at h
  simp [World.setCell, Array.getElem?_modify, h]
theorem ECell.grown {w wk w' : World} {row : Option Nat} (h : ECell w wk) (hg : wk.grownBy w' row) (hr : row ≠ some w.heap.size) : ECell w w' :=
  (hg.block _ (Array.getElem?_eq_some_iff.1 h).1 (by intro e; exact hr e.symm)).trans h
theorem ECell.set0 {w wk : World} (h : ECell w wk) : ECell w (wk.setCell ⟨w.heap.size, 0, none⟩ (.int .i64 0)) := by
  unfold ECell at h ⊢
  simp [World.setCell, Array.getElem?_modify, h]
theorem own_set {w : World} {base g : Nat} {e : TypeId} {sz : Nat} {v : Value} {n : Nat} {xs : List Value} (h : w.ownsRow base e sz v n xs) (hg : g < base) (u : Value) : (w.setCell ⟨g, 0, none⟩ u).ownsRow base e sz v n xs := by
  refine ⟨h.1, ?_⟩
  rcases h.2 with h0 | ⟨g', cap, cur, h1, h2, h3, h4⟩
  · exact .inl h0
  · exact .inr ⟨g', cap, cur, h1, h2, (Below.heap_setCell w _ u g' (by show g' ≠ g; omega)).trans h3, h4⟩
set_option maxHeartbeats 1000000 in
theorem encode_any (A : Option Addr) (c : Nat) (os : List O5) (w : World) (hn : os.length ≤ 1000000) (hm : ∀ o ∈ os, o.l.length ≤ maxLen) (hE : Env w) (h : Ops w A c os) :
    Calls Tryd.prog 11 #[.slice A os.length c] w (BytesErr w (encB os) (encE os)) := by
  have hmf : ∀ (fn : Fn) (first cap : Array Value) (w : World), (Instr.makeFunc fn first cap).run Tryd.prog w = .ok (.func fn first cap) w := fun _ _ _ _ => rfl
  have B1 := hide ((Below.refl w.heap.size w).alloc (Nat.le_refl _) (.cells #[.int .i64 0] 26))
  have C1 := hide (ECell.new w)
  have S1 := hide (show (w.alloc (.cells #[.int .i64 0] 26)).heap.size = w.heap.size + 1 by simp)
  go_enter_defers Tryd.func11, Tryd.ntmps11
  go_wp2_with fail
  generalize w.alloc (.cells #[.int .i64 0] 26) = w1 at B1 C1 S1 ⊢
  refine (written_any A c os w1 hn hm (hE.below B1.out) (h.below B1.out)).mono ?_
  clear hE h hm
  rintro e w2 ⟨hyes, hno⟩
  cases hk : wOk os with
  | true =>
    obtain ⟨v2, rfl, hown, hb⟩ := hyes hk
    have HB := hide (show encB os = num (wAll os).length ++ wAll os from if_pos hk)
    have HX := hide (show encE os = 0 from if_pos hk)
    have hbl := wBody_le hk
    have hal := wAll_len os
    have HA := hide (show wAll os = wBody os ++ four (sumN 0 (wBody os)) from rfl)
    have HS := hide (sumN_lt 0 (wBody os))
    have HSum := hide (fun v W h => sumOf_any v (wBody os) W (show (wBody os).length ≤ maxLen by unfold maxLen; omega) h)
    generalize sumN 0 (wBody os) = sm at HA HS HSum
    generalize wAll os = W at HA HB hal
    generalize wBody os = Bd at HA HSum hbl hal hown
    have z1 : w.heap.size + 1 ≤ w1.heap.size := by have := S1.out; omega
    have hw4 : W.length ≤ 4004 := by omega
    clear hal
    have B2 := hide (B1.out.trans (hb.mono (by omega)))
    have C2 := hide (C1.out.below hb)
    have z2 := hb.size
    obtain ⟨A2, c2, rfl, f1, f2, f3⟩ := (RSl.of_own hown).form
    have O2 := hide hown
    clear hyes hno hb B1 C1 hk hown f1 f2 f3 S1
    go_wp2_with fail
    refine (HSum.out _ _ (Hnd.of_RSl (RSl.of_own O2.out))).mono ?_
    rintro e w3 ⟨rfl, hb⟩
    have B3 := hide (B2.out.trans (hb.mono (by omega)))
    have C3 := hide (C2.out.below hb)
    have O3 := hide (own_below O2.out hb)
    have z3 := hb.size
    clear hb B2 C2 O2 HSum
    go_wp2_with fail
    refine (Four_any sm w3 HS.out).mono ?_
    rintro e w4 ⟨v4, rfl, hown, hb⟩
    obtain ⟨A4, c4, rfl, f1, f2, f3⟩ := (RSl.of_own hown).form
    have B4 := hide (B3.out.trans (hb.mono (by omega)))
    have C4 := hide (C3.out.below hb)
    have O4 := hide (own_below O3.out hb)
    have N4 := hide (Hnd.of_RSl (RSl.of_own hown))
    have F4 := hide f1
    have z4 := hb.size
    have h4 : (four sm).length ≤ 4 := Nat.le_of_eq (four_len sm)
    clear hb B3 C3 O3 hown f1 f2 f3 HS
    go_wp2_with (at_builtin; refine wpList_append_b _ rfl _ _ rfl w1.heap.size _ Bd.length Bd rfl O4.out A4 (four sm).length c4 (four sm) rfl rfl F4.out N4.out (by omega) (by omega) ?_)
    intro v5 w5 hown5 hg5 _
    have hrow : ∀ k, (Value.slice A2 Bd.length c2).ownBlock = some k → w1.heap.size ≤ k := by
      intro k hk
      rcases O4.out.2 with ⟨h0, _⟩ | ⟨g, cap, cur, h0, hb, _⟩
      · rw [h0] at hk; simp [Value.ownBlock] at hk
      · rw [h0] at hk; simp [Value.ownBlock] at hk; omega
    have B5 := hide (B4.out.grown hg5 (by omega) (fun k hk => by have := hrow k hk; omega))
    have C5 := hide (C4.out.grown hg5 (by intro hk; have := hrow _ hk; omega))
    have z5 := hg5.size
    have O5' := hide (show w5.ownsRow w1.heap.size 5 1 v5 W.length (bc W) by
      rw [HA.out, List.length_append]
      exact hown5)
    obtain ⟨A5, c5, rfl, f1, f2, f3⟩ := (RSl.of_own O5'.out).form
    have F5 := hide f1
    clear hown5 hg5 hrow B4 C4 O4 N4 F4 f1 f2 f3 HA
    go_wp2_with fail
    refine (num_any W.length w5).mono ?_
    rintro e w6 ⟨v6, rfl, hown, hb⟩
    have B6 := hide (B5.out.trans (hb.mono (by omega)))
    have C6 := hide (C5.out.below hb)
    have N6 := hide (Hnd.of_RSl (RSl.of_own (own_below O5'.out hb)))
    have O6 := hide hown
    have z6 := hb.size
    have h6 := num_le W.length
    clear hb B5 C5 hown
    go_wp2_with (at_builtin; refine wpList_append_b _ rfl _ _ rfl w5.heap.size _ (num W.length).length (num W.length) rfl O6.out A5 W.length c5 W rfl rfl F5.out N6.out (by omega) (by omega) ?_)
    intro v7 w7 hown7 hg7 _
    have hrow : ∀ k, v6.ownBlock = some k → w5.heap.size ≤ k := by
      intro k hk
      rcases O6.out.2 with ⟨h0, _⟩ | ⟨g, cap, cur, h0, hb, _⟩
      · rw [h0] at hk; simp [Value.ownBlock] at hk
      · rw [h0] at hk; simp [Value.ownBlock] at hk; omega
    have B7 := hide (B6.out.grown hg7 (by omega) (fun k hk => by have := hrow k hk; omega))
    have C7 := hide (C6.out.grown hg7 (by intro hk; have := hrow _ hk; omega))
    have O7 := hide (show w7.ownsRow (w.heap.size + 1) 5 1 v7 (encB os).length (bc (encB os)) by
      rw [HB.out, List.length_append]
      exact own_base hown7 (by omega))
    clear hown7 hg7 hrow B6 C6 O6 N6 O5' F5
    have c7 := C7.out.cell
    have z7 := C7.out.froz
    go_wp2_with fail
    have C8 := C7.out.set0
    refine leaves_cons (f := 20) (args := #[.pointer (some ⟨w.heap.size, 0, none⟩)]) (by simp) (by simp [go_sem]) ?_
    refine (enc_idle ⟨w.heap.size, 0, none⟩ 0 _ C8.cell C8.froz).mono ?_
    rintro e u' w'' ⟨rfl, rfl, rfl⟩
    have ce := C8.set 0
    simp [Leaves, settle, results, Tryd.results11, go_sem, ce]
    rw [HX.out]
    exact ⟨_, rfl, own_base (own_set (own_set O7.out (Nat.lt_succ_self _) _) (Nat.lt_succ_self _) _) (Nat.le_succ _), (B7.out.setCell (Nat.le_refl _) _).setCell (Nat.le_refl _) _⟩
  | false =>
    obtain ⟨rfl, hb⟩ := hno hk
    have B2 := hide (B1.out.trans (hb.mono (by have := S1.out; omega)))
    have C2 := hide (C1.out.below hb)
    have HB := hide (show encB os = [] by simp [encB, hk])
    have HX := hide (show encE os = 1 by simp [encE, hk])
    clear hyes hno hb B1 C1 hk
    go_wp2_with fail
    refine leaves_cons (f := 20) (args := #[.pointer (some ⟨w.heap.size, 0, none⟩)]) (by simp) (by simp [go_sem]) ?_
    refine (enc_caught ⟨w.heap.size, 0, none⟩ 0 1 _ C2.out.cell C2.out.froz).mono ?_
    rintro e u' w'' ⟨rfl, rfl, rfl⟩
    have ce := C2.out.set 1
    simp [Leaves, settle, results, Tryd.results11, go_sem, pe, ce]
    rw [HB.out, HX.out]
    exact ⟨_, rfl, World.ownsRow_nil _ _ _ _, B2.out.setCell (Nat.le_refl _) _⟩
end Go.Proofs.YteibkipcblmikaaDoor
namespace Go.Proofs.YteibkipcblmikaaDoor
open Go.RowKit
set_option linter.unusedVariables false
set_option maxRecDepth 100000

theorem opinfo : (Tryd.prog.info? 48).map (fun i => (i.zero, i.size, i.bytes)) = some (some (opv 0 0 0 0 []), 5, 48) := by kernel_rfl
theorem cells_new5 (w : World) (x : O5) : ∀ j u, (ocs [x])[j]? = some u → (w.alloc (.cells #[.int .i64 x.n, .int .i64 x.r, .int .i64 x.d, .int .i64 x.t, .string (bs x.l)] 48)).cell? ((⟨w.heap.size, 0, none⟩ : Addr).add j) = some u := by
  intro j u hu
  rw [Addr.add_lit, Nat.zero_add, cell_of_row _ w.heap.size j _ _ (0, 0) (heap_alloc_new w _)]
  have e : ocs [x] = (#[.int .i64 x.n, .int .i64 x.r, .int .i64 x.d, .int .i64 x.t, .string (bs x.l)] : Array Value).toList := by simp [ocs, oc]
  rw [e] at hu
  simpa using hu
/-- An operation that is appended to a row of the program's own. -/
theorem wpList_append_op (w : World) {ops : Array Oper} {rest : List Oper} {o : Oper} {a : Act} {Q : Exit → Act → World → Prop} (hgd : o.guard = none) (s x : Operand)
    (ho : o.op = .call { callee := .builtin .append, args := #[s, x], argTypes := #[22, 22] })
    (base : Nat) (v : Value) (os : List O5) (hs : a.eval s = v) (hown : OwnOps w base v os)
    (ad : Addr) (c : Nat) (y : O5) (hx : a.eval x = .slice (some ad) 1 c) (hh : ∀ j u, (ocs [y])[j]? = some u → w.cell? (ad.add j) = some u)
    (h63 : os.length ≤ 1000000) (hbase : base ≤ w.heap.size)
    (h : ∀ v' w', OwnOps w' base v' (os ++ [y]) → w.grownBy w' v.ownBlock → wpList Tryd.prog ops Q rest (a.put o.dst v') w') : wpList Tryd.prog ops Q (o :: rest) a w := by
  obtain ⟨i0, hi0, hz0, hz1, hz2⟩ := info_parts opinfo
  refine wpList_append_own w hgd s x 22 ho base 48 i0 (opv 0 0 0 0 []) 5 48 Tryd.underlying22 hi0 hz0 hz1 hz2 rfl (by decide) v os.length (ocs os) hs hown ad 1 c (ocs [y]) hx (by rw [ocs_length]; rfl) hh (ocs_one _) (by unfold maxLen; omega) (by omega) hbase ?_
  intro v' w' h1 h2 _
  refine h v' w' ?_ h2
  unfold OwnOps
  rw [ocs_append, List.length_append]
  exact h1
theorem OwnOps.grown {w w' : World} {base : Nat} {v : Value} {os : List O5} {g : Nat} (h : OwnOps w base v os) (hg : w.grownBy w' (some g)) (hb : g < base) : OwnOps w' base v os := by
  refine ⟨h.1, ?_⟩
  rcases h.2 with h0 | ⟨g', cap, cur, h1, h2, h3, h4⟩
  · exact .inl h0
  · exact .inr ⟨g', cap, cur, h1, h2, (hg.block g' (Array.getElem?_eq_some_iff.1 h3).1 (by intro e; injection e with e; omega)).trans h3, h4⟩
theorem OwnOps.row {w : World} {base : Nat} {v : Value} {os : List O5} (h : OwnOps w base v os) : ∀ k, v.ownBlock = some k → base ≤ k := by
  intro k hk
  rcases h.2 with ⟨h0, _⟩ | ⟨g, cap, cur, h0, hb, _⟩
  · rw [h0] at hk; simp [Value.ownBlock] at hk
  · rw [h0] at hk; simp [Value.ownBlock] at hk; omega
theorem Rd.grown {w w' : World} {g e : Nat} {l : List UInt8} {row : Option Nat} (h : Rd w g l e) (hg : w.grownBy w' row) (hr : row ≠ some g) (hr2 : ∀ k cur, row = some k → w.heap[k]? ≠ some (.cells cur 5 (0, 0))) : Rd w' g l e := by
  obtain ⟨sv, hc, hs⟩ := h
  refine ⟨sv, (hg.block g (Array.getElem?_eq_some_iff.1 hc).1 (fun e => hr e.symm)).trans hc, hs.keep fun k cur hk => ?_⟩
  exact hg.block k (Array.getElem?_eq_some_iff.1 hk).1 (fun e => hr2 k cur e.symm hk)
theorem OwnOps.notU8 {w : World} {base : Nat} {v : Value} {os : List O5} (h : OwnOps w base v os) : ∀ k cur, v.ownBlock = some k → w.heap[k]? ≠ some (.cells cur 5 (0, 0)) := by
  intro k cur hk he
  rcases h.2 with ⟨h0, _⟩ | ⟨g, cap, cur', h0, hb, hg, _⟩
  · rw [h0] at hk; simp [Value.ownBlock] at hk
  · rw [h0] at hk
    simp [Value.ownBlock] at hk
    subst hk
    rw [he] at hg
    simp at hg
def OpsRet (w : World) (r : Option (List O5)) (e : Ending) (w' : World) : Prop :=
  (∀ os, r = some os → ∃ v, e = .returned v ∧ OwnOps w' w.heap.size v os ∧ Below w.heap.size w w') ∧ (r = none → e = .panicked [pe 3 false] ∧ Below w.heap.size w w')
def pre (os : List O5) (x : Option (List O5 × List UInt8 × Nat)) : Option (List O5 × List UInt8 × Nat) := x.map fun y => (os ++ y.1, y.2)
def ReadRel (w w1 : World) (g n : Nat) (tot : Option (List O5 × List UInt8 × Nat)) (v i : Value) (wr : World) : Prop :=
  ∃ (k : Nat) (os : List O5) (l : List UInt8) (e : Nat), k ≤ n ∧ i = .int .i64 (k : Int) ∧ os.length = k ∧ OwnOps wr w1.heap.size v os ∧ Rd wr g l e ∧ Below w.heap.size w wr ∧ w1.heap.size ≤ wr.heap.size ∧ tot = pre os (rdL (n - k) l e)
/-- What is told, when the operations have been taken. -/
def fin (x : Option (List O5 × List UInt8 × Nat)) : Option (List O5) :=
  match x with
  | some (os, l', e') => if e' = 0 ∧ l' = [] then some os else none
  | none => none
theorem tkV_no {l : List UInt8} {e : Nat} (h : tkR l e = false) : tkV l e = opv 0 0 0 0 [] := if_neg (by rw [h]; decide)
theorem tkV_yes {l : List UInt8} {e : Nat} (h : tkR l e = true) : tkV l e = (tkO l e).v := if_pos h
set_option maxHeartbeats 1000000 in
theorem read_any (v : Value) (l : List UInt8) (w : World) (hl : l.length ≤ 1099511627776) (hE : Env w) (h : Hnd w v l) :
    Calls Tryd.prog 35 #[v] w (OpsRet w (rd l)) := by
  have HN := hide (new_any v l w hl h)
  have HE := hide hE
  have H1 := hide (fun g w h => number_any g 0 l 1 w h)
  have H2 := hide (fun g w h => number_any g (rNum 1 l 0).2.2 (rNum 1 l 0).2.1 64 w h)
  have HM := hide (rNum_most 64 (rNum 1 l 0).2.1 (rNum 1 l 0).2.2 (by omega))
  have HR := hide (show rd l = if (rNum 1 l 0).1 = 1 then fin (rdL (rNum 64 (rNum 1 l 0).2.1 (rNum 1 l 0).2.2).1 (rNum 64 (rNum 1 l 0).2.1 (rNum 1 l 0).2.2).2.1 (rNum 64 (rNum 1 l 0).2.1 (rNum 1 l 0).2.2).2.2) else none from rfl)
  generalize rNum 64 (rNum 1 l 0).2.1 (rNum 1 l 0).2.2 = r2 at H2 HR HM
  generalize rNum 1 l 0 = r1 at H1 H2 HR
  obtain ⟨n1, l1, e1⟩ := r1
  obtain ⟨n, l2, e2⟩ := r2
  clear h hE
  go_enter Tryd.func35, Tryd.ntmps35
  go_wp2_with fail
  refine HN.out.mono ?_
  rintro e w1 ⟨g, rfl, hg, hRd, hB⟩
  have RD := hide hRd
  have BB := hide hB
  have hz1 := hB.size
  have hlt := hRd.lt
  clear hRd hB HN
  go_wp2_with fail
  refine (H1.out g w1 RD.out).mono ?_
  rintro e w2 ⟨rfl, hRd2, hO⟩
  have B2 := hide (hO.below BB.out BB.out.size hg)
  have RD2 := hide hRd2
  have hz2 := hO.grown.size
  clear hRd2 hO RD BB H1
  by_cases h1 : n1 = 1
  · have HR2 := hide (show rd l = fin (rdL n l2 e2) by rw [HR.out]; exact if_pos h1)
    subst h1
    clear HR
    go_wp2_with fail
    refine (must_yes _ _).mono ?_
    rintro e w3 ⟨rfl, h3⟩
    rw [h3]
    clear h3 w3
    go_wp2_with fail
    refine (H2.out g w2 RD2.out).mono ?_
    rintro e w3 ⟨rfl, hRd3, hO⟩
    have B3 := hide (hO.below B2.out B2.out.size hg)
    have RD3 := hide hRd3
    have hz3 := hO.grown.size
    have hn : n ≤ 64 := by have := HM.out; omega
    clear hRd3 hO RD2 B2 H2 HM
    go_wp2_with fail
    go_loopw [4, 15] (ReadRel w w1 g n (rdL n l2 e2)) (fun _ i _ => n - (intOf i).toNat)
    case atStart => exact ⟨0, [], l2, e2, Nat.zero_le _, rfl, rfl, World.ownsRow_nil _ _ _ _, RD3.out, B3.out, by omega, by cases rdL n l2 e2 <;> simp [pre]⟩
    case round =>
      obtain ⟨k, os, lk, ek, hk, rfl, hos, ho, hrd, hb, hz, ht⟩ := hrel
      have O := hide ho
      have R := hide hrd
      have B := hide hb
      have T := hide ht
      have HOS := hide hos
      have sz := hb.size
      have hlen : os.length ≤ 64 := by omega
      clear ho hrd hb ht hos RD3 B3
      by_cases hkn : k < n
      · have hstep : rdL (n - k) lk ek = if tkR lk ek = true then (rdL (n - (k + 1)) (tk5 lk ek).2.1 (tk5 lk ek).2.2).map (fun x => (tkO lk ek :: x.1, x.2)) else none := by
          rw [show n - k = (n - (k + 1)) + 1 by omega, rdL_succ]
        have ST := hide hstep
        have HT := hide (otake_any g ek lk wr R.out (HE.out.below B.out))
        clear hstep
        go_wp2_with fail
        refine HT.out.mono ?_
        rintro e w4 ⟨rfl, hRd4, hg4⟩
        have B4 := hide (B.out.grown hg4 sz (by intro k hk; injection hk with hk; omega))
        have O4 := hide (O.out.grown hg4 hlt)
        have R4 := hide hRd4
        have sz4 := hg4.size
        clear hRd4 hg4 HT O R B
        cases hR : tkR lk ek with
        | true =>
          rw [tkV_yes hR]
          have ST2 := hide (show rdL (n - k) lk ek = (rdL (n - (k + 1)) (tk5 lk ek).2.1 (tk5 lk ek).2.2).map (fun x => (tkO lk ek :: x.1, x.2)) by rw [ST.out, if_pos hR])
          clear ST hR
          generalize tk5 lk ek = t5 at R4 ST2
          generalize tkO lk ek = x at ST2
          unfold O5.v opv
          go_wp2_with fail
          have BO := hide (Bo.new w4 x.n x.r x.d x.t x.l 48)
          have bz := (Below.refl w4.heap.size w4).alloc (Nat.le_refl _) (.cells #[.int .i64 x.n, .int .i64 x.r, .int .i64 x.d, .int .i64 x.t, .string (bs x.l)] 48)
          have Oa := hide (O4.out.below bz)
          have Ra := hide (R4.out.below bz)
          have Ba := hide (B4.out.alloc (by omega) (.cells #[.int .i64 x.n, .int .i64 x.r, .int .i64 x.d, .int .i64 x.t, .string (bs x.l)] 48))
          have za := bz.size
          clear bz O4 R4 B4
          generalize w4.alloc (.cells #[.int .i64 x.n, .int .i64 x.r, .int .i64 x.d, .int .i64 x.t, .string (bs x.l)] 48) = wa at BO Oa Ra Ba za ⊢
          refine (must_yes _ _).mono ?_
          rintro e w5 ⟨rfl, h5⟩
          rw [h5]
          clear h5 w5
          obtain ⟨c0, c1, c2, c3, c4⟩ := BO.out
          have bz := (Below.refl wa.heap.size wa).alloc (Nat.le_refl _) (.cells #[.int .i64 x.n, .int .i64 x.r, .int .i64 x.d, .int .i64 x.t, .string (bs x.l)] 48)
          have Ob := hide (Oa.out.below bz)
          have Rb := hide (Ra.out.below bz)
          have Bb := hide (Ba.out.alloc (by omega) (.cells #[.int .i64 x.n, .int .i64 x.r, .int .i64 x.d, .int .i64 x.t, .string (bs x.l)] 48))
          have zb := bz.size
          have N5 := hide (cells_new5 wa x)
          clear bz Oa Ra Ba BO
          generalize hwb : wa.alloc (.cells #[.int .i64 x.n, .int .i64 x.r, .int .i64 x.d, .int .i64 x.t, .string (bs x.l)] 48) = wb at Ob Rb Bb zb N5
          go_wp2_with (at_builtin; refine wpList_append_op _ rfl _ _ rfl w1.heap.size _ os rfl Ob.out ⟨wa.heap.size, 0, none⟩ 1 x rfl N5.out (by omega) (by omega) ?_)
          intro v6 w6 hown6 hg6
          have R6 := hide (Rb.out.grown hg6 (by intro hk; have := Ob.out.row _ hk; omega) Ob.out.notU8)
          have B6 := hide (Bb.out.grown hg6 (by omega) (fun k hk => by have := Ob.out.row _ hk; omega))
          have O6 := hide hown6
          have z6 := hg6.size
          have T6 := hide (show rdL n l2 e2 = pre (os ++ [x]) (rdL (n - (k + 1)) t5.2.1 t5.2.2) by
            rw [T.out, ST2.out]
            cases rdL (n - (k + 1)) t5.2.1 t5.2.2 <;> simp [pre])
          clear hown6 hg6 Ob Rb Bb N5 hwb c0 c1 c2 c3 c4 T ST2
          go_wp2_with fail
          go_roundw
          case rel => exact ⟨k + 1, os ++ [x], t5.2.1, t5.2.2, by omega, by go_num, by rw [List.length_append, HOS.out]; rfl, O6.out, R6.out, B6.out, by omega, T6.out⟩
          case measure => simp [intOf]; omega
        | false =>
          rw [tkV_no hR]
          have HF := hide (show rd l = none by rw [HR2.out, T.out, ST.out, hR]; rfl)
          clear ST hR
          unfold opv
          go_wp2_with fail
          refine (must_no _ _).mono ?_
          rintro e w5 ⟨rfl, h5⟩
          rw [h5]
          clear h5 w5
          go_wp2_with fail
          refine ⟨rfl, ⟨fun os h => ?_, fun _ => ⟨rfl, B4.out.alloc (by omega) _⟩⟩⟩
          rw [HF.out] at h
          cases h
      · obtain rfl : k = n := by omega
        have TF := hide (show rd l = fin (some (os, lk, ek)) by
          rw [HR2.out, T.out, Nat.sub_self]
          simp [rdL, pre])
        go_wp2_with fail
        refine (err_any g ek lk wr R.out).mono ?_
        rintro e w5 ⟨rfl, h5⟩
        rw [← h5]
        clear h5 w5
        by_cases he : ek = 0
        · subst he
          go_wp2_with fail
          refine (left_any g 0 lk wr R.out).mono ?_
          rintro e w5 ⟨rfl, h5⟩
          rw [← h5]
          clear h5 w5
          by_cases hll : lk = []
          · subst hll
            have TG := hide (show rd l = some os by rw [TF.out]; rfl)
            clear TF T
            go_wp2_with fail
            refine (must_yes _ _).mono ?_
            rintro e w5 ⟨rfl, h5⟩
            rw [h5]
            clear h5 w5
            go_wp2_with fail
            go_ret
            refine ⟨fun os' h => ?_, fun h => ?_⟩
            · rw [TG.out] at h
              injection h with h
              subst h
              exact ⟨_, rfl, O.out.base (by omega), B.out⟩
            · rw [TG.out] at h
              cases h
          · have d1 : ((lk.length : Int) == 0) = false := by
              have := List.length_pos_iff.2 hll
              simp; omega
            have TG := hide (show rd l = none by rw [TF.out]; simp [fin, hll])
            clear TF T
            go_wp2_with fail
            refine (must_no _ _).mono ?_
            rintro e w5 ⟨rfl, h5⟩
            rw [h5]
            clear h5 w5
            go_wp2_with fail
            refine ⟨rfl, ⟨fun os h => ?_, fun _ => ⟨rfl, B.out⟩⟩⟩
            rw [TG.out] at h
            cases h
        · have d1 : ((ek : Int) == 0) = false := by simp; omega
          have TG := hide (show rd l = none by rw [TF.out]; simp [fin, he])
          clear TF T
          go_wp2_with fail
          refine (must_no _ _).mono ?_
          rintro e w5 ⟨rfl, h5⟩
          rw [h5]
          clear h5 w5
          go_wp2_with fail
          refine ⟨rfl, ⟨fun os h => ?_, fun _ => ⟨rfl, B.out⟩⟩⟩
          rw [TG.out] at h
          cases h
  · have d1 : ((n1 : Int) == 1) = false := by simp; omega
    have HF := hide (show rd l = none by rw [HR.out]; exact if_neg h1)
    go_wp2_with fail
    refine (must_no _ _).mono ?_
    rintro e w3 ⟨rfl, h3⟩
    rw [h3]
    clear h3 w3
    go_wp2_with fail
    refine ⟨rfl, ⟨fun os h => ?_, fun _ => ⟨rfl, B2.out⟩⟩⟩
    rw [HF.out] at h
    cases h
end Go.Proofs.YteibkipcblmikaaDoor
namespace Go.Proofs.YteibkipcblmikaaDoor
open Go.RowKit
set_option linter.unusedVariables false
set_option maxRecDepth 100000

/-- Operations and an error are answered. -/
def DecRet (w : World) (r : Option (List O5)) (e : Ending) (w' : World) : Prop :=
  ∃ v, e = .returned (.tuple #[v, .int .i64 (if r.isSome then 0 else 3)]) ∧ OwnOps w' w.heap.size v (r.getD []) ∧ Below w.heap.size w w'
theorem DecRet.no {w w' : World} {r : Option (List O5)} (h : r = none) (hb : Below w.heap.size w w') : DecRet w r (.returned (.tuple #[.slice none 0 0, .int .i64 3])) w' := by
  subst h
  exact ⟨_, rfl, World.ownsRow_nil _ _ _ _, hb⟩
theorem sub4 (n : Nat) (h : 4 ≤ n) (h2 : n ≤ 65535) : ∃ m : Nat, wrap64 ((n : Int) - 4) = (m : Int) ∧ m = n - 4 := by
  refine ⟨n - 4, ?_, rfl⟩
  rw [wrap64_in _ (by omega) (by omega)]
  omega
set_option maxHeartbeats 1000000 in
theorem decode_any (A : Option Addr) (c : Nat) (l : List UInt8) (w : World) (hl : l.length ≤ 1099511627776) (hc : l.length ≤ c) (hm : c ≤ maxLen) (hE : Env w) (h : Hnd w (.slice A l.length c) l) :
    Calls Tryd.prog 14 #[.slice A l.length c] w (DecRet w (dec? l)) := by
  have hmf : ∀ (fn : Fn) (first cap : Array Value) (w : World), (Instr.makeFunc fn first cap).run Tryd.prog w = .ok (.func fn first cap) w := fun _ _ _ _ => rfl
  have B1 := hide ((Below.refl w.heap.size w).alloc (Nat.le_refl _) (.cells #[.int .i64 0] 26))
  have C1 := hide (ECell.new w)
  have S1 := hide (show w.heap.size + 1 ≤ (w.alloc (.cells #[.int .i64 0] 26)).heap.size by simp)
  have HH := hide h
  have HE := hide hE
  have HL := hide hl
  have HC := hide hc
  have HM := hide hm
  clear h hE hl hc hm
  go_enter_defers Tryd.func14, Tryd.ntmps14
  go_wp2_with fail
  generalize w.alloc (.cells #[.int .i64 0] 26) = w1 at B1 C1 S1 ⊢
  refine (split_any A c l w1 HL.out HC.out HM.out (HH.out.below B1.out)).mono ?_
  rintro e w2 ⟨hb, hno, hyes⟩
  have z1 := S1.out
  have B2 := hide (B1.out.trans (hb.mono (by omega)))
  have C2 := hide (C1.out.below hb)
  have z2 := hb.size
  clear hb B1 C1 S1
  by_cases h0 : spE l = 0
  · obtain ⟨hle, rfl⟩ := hyes h0
    have HLE := hide hle
    have H0 := hide h0
    clear hno hyes hle h0
    by_cases hf : framed l = true
    · obtain ⟨hf1, hf2, hf3⟩ : spE l = 0 ∧ l.length = spK l + spN l ∧ 4 ≤ spN l := by
        simpa [framed, and_assoc] using hf
      have hN := (sp_ok hf1).2.2.2
      have e0 : l.length - (spK l + spN l) = 0 := by omega
      rw [e0]
      have CN := hide (show Hnd w2 (.slice (cutB A c (spK l)) (spN l) (c - spK l)) (cntd l) from (HH.out.below B2.out).mid (spK l) (spN l) HLE.out HC.out)
      have CL := hide (show (cntd l).length = spN l by unfold cntd; rw [List.length_take, List.length_drop]; omega)
      have CC := hide (show spN l ≤ c - spK l by have := HC.out; omega)
      have HD := hide (show dec? l = if four (sumN 0 (bodyOf l)) = sumOf l then rd (bodyOf l) else none by simp [dec?, hf])
      have HBo := hide (show bodyOf l = (cntd l).take (spN l - 4) by unfold bodyOf; rw [CL.out])
      have HSo := hide (show sumOf l = ((cntd l).drop (spN l - 4)).take 4 by
        unfold sumOf
        rw [CL.out, List.take_of_length_le]
        rw [List.length_drop, CL.out]
        omega)
      generalize cutB A c (spK l) = A2 at CN ⊢
      generalize c - spK l = c2 at CN CC ⊢
      generalize spK l = K at HLE hf2 e0 ⊢
      generalize spN l = N at HLE hf2 e0 hN hf3 CN CL CC HBo HSo ⊢
      obtain ⟨m, hm1, hm2⟩ := sub4 N hf3 hN
      have BH := hide (show Hnd w2 (.slice A2 m c2) (bodyOf l) by rw [HBo.out, ← hm2]; exact CN.out.head m (by omega))
      have SH := hide (show Hnd w2 (.slice (cutB A2 c2 m) 4 (c2 - m)) (sumOf l) by rw [HSo.out, ← hm2]; exact CN.out.mid m 4 (by omega) CC.out)
      have BL := hide (show (bodyOf l).length ≤ 65535 by rw [HBo.out, List.length_take]; omega)
      have HMN := hide (show m ≤ c2 by have := CC.out; omega)
      have hm4 : N - m = 4 := by omega
      have d1 : decide ((N : Int) ≥ 4) = true := by simp; omega
      have r1 := fun W => run_head_any A2 N c2 m HMN.out W
      have r2 := fun W => run_tail A2 N c2 m (show m ≤ N by omega) W
      rw [hm4] at r2
      clear hf hf1 hf2 hf3 hN e0 HBo HSo CN CL CC hm2 HLE hm4 H0
      go_wp2_with fail
      refine (must_yes _ _).mono ?_
      rintro e w3 ⟨rfl, h3⟩
      rw [h3]
      clear h3 w3 d1
      go_wp2_with fail
      go_still_tail 6, (by kernel_rfl)
      change wpList _ _ _ _ _ w2.drew
      have B3 := hide (Below.drew B2.out)
      have C3 : Hid (ECell w w2.drew) := C2
      have BH3 : Hid (Hnd w2.drew (.slice A2 m c2) (bodyOf l)) := BH
      have SH3 : Hid (Hnd w2.drew (.slice (cutB A2 c2 m) 4 (c2 - m)) (sumOf l)) := SH
      have z3 : w1.heap.size ≤ w2.drew.heap.size := z2
      clear BH SH B2 C2 z2 r1 r2
      generalize w2.drew = w3 at B3 C3 BH3 SH3 z3 ⊢
      go_wp2_with fail
      refine (is_any _ _ (bodyOf l) (sumOf l) w3 (by have := BL.out; unfold maxLen; omega) BH3.out SH3.out).mono ?_
      rintro e w4 ⟨rfl, hb⟩
      have B4 := hide (B3.out.trans (hb.mono (by omega)))
      have C4 := hide (C3.out.below hb)
      have BH4 := hide (BH3.out.below hb)
      have z4 := hb.size
      clear hb B3 C3 BH3 SH3
      by_cases hs : four (sumN 0 (bodyOf l)) = sumOf l
      · rw [decide_eq_true hs]
        have HD2 := hide (show dec? l = rd (bodyOf l) by rw [HD.out, if_pos hs])
        clear HD hs
        go_wp2_with fail
        refine (must_yes _ _).mono ?_
        rintro e w5 ⟨rfl, h5⟩
        rw [h5]
        clear h5 w5
        have r1 := fun W => run_head_any A2 N c2 m HMN.out W
        go_wp2_with fail
        refine (read_any _ (bodyOf l) w4 (by have := BL.out; omega) (HE.out.below B4.out) BH4.out).mono ?_
        rintro e w5 ⟨hyes, hno⟩
        rcases hd : rd (bodyOf l) with _ | os
        · obtain ⟨rfl, hb⟩ := hno hd
          have HF := hide (show dec? l = none by rw [HD2.out, hd])
          have B5 := hide (B4.out.trans (hb.mono (by omega)))
          have C5 := hide (C4.out.below hb)
          clear hb hyes hno hd HD2 B4 C4
          go_wp2_with fail
          refine leaves_cons (f := 31) (args := #[.pointer (some ⟨w.heap.size, 0, none⟩)]) (by simp) (by simp [go_sem]) ?_
          refine (dec_caught ⟨w.heap.size, 0, none⟩ 0 3 _ (by decide) C5.out.cell C5.out.froz).mono ?_
          rintro e u' w'' ⟨rfl, rfl, rfl⟩
          have ce := C5.out.set 3
          simp [Leaves, settle, results, Tryd.results14, go_sem, pe, ce]
          exact DecRet.no HF.out (B5.out.setCell (Nat.le_refl _) _)
        · obtain ⟨v5, rfl, hown, hb⟩ := hyes os hd
          have HF := hide (show dec? l = some os by rw [HD2.out, hd])
          have B5 := hide (B4.out.trans (hb.mono (by omega)))
          have C5 := hide (C4.out.below hb)
          have O5' := hide (show OwnOps w5 (w.heap.size + 1) v5 os from hown.base (by omega))
          clear hb hyes hno hd HD2 B4 C4 hown
          have c5 := C5.out.cell
          have z5 := C5.out.froz
          go_wp2_with fail
          have C6 := C5.out.set0
          refine leaves_cons (f := 31) (args := #[.pointer (some ⟨w.heap.size, 0, none⟩)]) (by simp) (by simp [go_sem]) ?_
          refine (dec_idle ⟨w.heap.size, 0, none⟩ _).mono ?_
          rintro e u' w'' ⟨rfl, rfl, rfl⟩
          have ce := C6.cell
          simp [Leaves, settle, results, Tryd.results14, go_sem, ce]
          rw [HF.out]
          exact ⟨_, rfl, OwnOps.base (own_set O5'.out (Nat.lt_succ_self _) _) (Nat.le_succ _), B5.out.setCell (Nat.le_refl _) _⟩
      · rw [decide_eq_false hs]
        have HF := hide (show dec? l = none by rw [HD.out, if_neg hs])
        clear HD hs
        go_wp2_with fail
        refine (must_no _ _).mono ?_
        rintro e w5 ⟨rfl, h5⟩
        rw [h5]
        clear h5 w5
        go_wp2_with fail
        refine leaves_cons (f := 31) (args := #[.pointer (some ⟨w.heap.size, 0, none⟩)]) (by simp) (by simp [go_sem]) ?_
        refine (dec_caught ⟨w.heap.size, 0, none⟩ 0 3 _ (by decide) C4.out.cell C4.out.froz).mono ?_
        rintro e u' w'' ⟨rfl, rfl, rfl⟩
        have ce := C4.out.set 3
        simp [Leaves, settle, results, Tryd.results14, go_sem, pe, ce]
        exact DecRet.no HF.out (B4.out.setCell (Nat.le_refl _) _)
    · have HF := hide (show dec? l = none by simp [dec?, hf])
      have HFN := hide (show ¬ (l.length = spK l + spN l ∧ 4 ≤ spN l) by
        intro h
        apply hf
        simp only [framed, Bool.and_eq_true, decide_eq_true_eq]
        exact ⟨⟨H0.out, h.1⟩, h.2⟩)
      clear hf H0
      generalize cutB A c (spK l) = A2
      generalize spK l = K at HLE HFN ⊢
      generalize spN l = N at HLE HFN ⊢
      by_cases hr : l.length - (K + N) = 0
      · have d1 : decide ((N : Int) ≥ 4) = false := by
          have h1 := HFN.out
          have h2 := HLE.out
          simp
          omega
        rw [hr]
        clear hr
        go_wp2_with fail
        refine (must_no _ _).mono ?_
        rintro e w3 ⟨rfl, h3⟩
        rw [h3]
        clear h3 w3
        go_wp2_with fail
        refine leaves_cons (f := 31) (args := #[.pointer (some ⟨w.heap.size, 0, none⟩)]) (by simp) (by simp [go_sem]) ?_
        refine (dec_caught ⟨w.heap.size, 0, none⟩ 0 3 _ (by decide) C2.out.cell C2.out.froz).mono ?_
        rintro e u' w'' ⟨rfl, rfl, rfl⟩
        have ce := C2.out.set 3
        simp [Leaves, settle, results, Tryd.results14, go_sem, pe, ce]
        exact DecRet.no HF.out (B2.out.setCell (Nat.le_refl _) _)
      · generalize l.length - (K + N) = q at hr ⊢
        have d1 : ((q : Int) == 0) = false := by simp; omega
        clear hr
        go_wp2_with fail
        refine (must_no _ _).mono ?_
        rintro e w3 ⟨rfl, h3⟩
        rw [h3]
        clear h3 w3
        go_wp2_with fail
        refine leaves_cons (f := 31) (args := #[.pointer (some ⟨w.heap.size, 0, none⟩)]) (by simp) (by simp [go_sem]) ?_
        refine (dec_caught ⟨w.heap.size, 0, none⟩ 0 3 _ (by decide) C2.out.cell C2.out.froz).mono ?_
        rintro e u' w'' ⟨rfl, rfl, rfl⟩
        have ce := C2.out.set 3
        simp [Leaves, settle, results, Tryd.results14, go_sem, pe, ce]
        exact DecRet.no HF.out (B2.out.setCell (Nat.le_refl _) _)
  · have HF := hide (show dec? l = none by simp [dec?, framed, h0])
    obtain rfl := hno h0
    have HX := hide (show (spE l : Int) ≠ 0 by omega)
    clear hno hyes h0
    go_wp2_with fail
    refine leaves_cons (f := 31) (args := #[.pointer (some ⟨w.heap.size, 0, none⟩)]) (by simp) (by simp [go_sem]) ?_
    refine (dec_caught ⟨w.heap.size, 0, none⟩ 0 _ _ HX.out C2.out.cell C2.out.froz).mono ?_
    rintro e u' w'' ⟨rfl, rfl, rfl⟩
    have ce := C2.out.set 3
    simp [Leaves, settle, results, Tryd.results14, go_sem, pe, ce]
    exact DecRet.no HF.out (B2.out.setCell (Nat.le_refl _) _)
end Go.Proofs.YteibkipcblmikaaDoor
namespace Go.Proofs.YteibkipcblmikaaDoor
open Go.RowKit
set_option linter.unusedVariables false
set_option maxRecDepth 100000

deriving instance DecidableEq for O5
theorem opE_eq (a b : O5) : opE a.n a.r a.d a.t a.l b.n b.r b.d b.t b.l = decide (a = b) := by
  obtain ⟨n, r, d, t, l⟩ := a
  obtain ⟨m, s, e, u, k⟩ := b
  simp only [opE, O5.mk.injEq]
def SameRel (w : World) (a b : List O5) (i : Value) (wr : World) : Prop := ∃ k : Nat, k ≤ a.length ∧ i = .int .i64 (k : Int) ∧ decide (a.drop k = b.drop k) = decide (a = b) ∧ Below w.heap.size w wr
theorem same_step (a b : List O5) (k : Nat) (h : k < a.length) (h' : k < b.length) : decide (a.drop k = b.drop k) = (decide (a[k] = b[k]) && decide (a.drop (k + 1) = b.drop (k + 1))) := by
  rw [List.drop_eq_getElem_cons h, List.drop_eq_getElem_cons h']
  simp only [List.cons.injEq, Bool.decide_and]
theorem op_neq (a b : O5) (w : World) : (binOp .neq 48 (.agg #[.int .i64 a.n, .int .i64 a.r, .int .i64 a.d, .int .i64 a.t, .string (bs a.l)]) (.agg #[.int .i64 b.n, .int .i64 b.r, .int .i64 b.d, .int .i64 b.t, .string (bs b.l)])).run Tryd.prog w = .ok (.bool (!decide (a = b))) w := by
  rw [← opE_eq]
  have u3 := Tryd.underlying3
  have a3 := Tryd.isAgg3
  have z3 := Tryd.sizeOf3
  have u9 := Tryd.underlying9
  have a9 := Tryd.isAgg9
  have z9 := Tryd.sizeOf9
  have a23 := Tryd.isAgg46
  have z23 := Tryd.sizeOf46
  have hst := fun dp => st_eql dp a.n a.r b.n b.r
  unfold opE
  rw [run_neq_struct, show (10000 : Nat) = 9997 + 1 + 1 + 1 from rfl, run_equalIn_agg w (9997 + 1 + 1) 48 _ _ (by kernel_rfl) (by kernel_rfl)]
  simp only [Program.fieldsOf, Tryd.underlying48]
  go_simp
  rw [bs_list, bs_list]
  by_cases h1 : a.n = b.n <;> by_cases h2 : a.r = b.r <;> by_cases h3 : a.d = b.d <;> by_cases h4 : a.t = b.t <;> by_cases h5 : a.l = b.l <;> simp [h1, h2, h3, h4, h5]
set_option maxHeartbeats 1000000 in
theorem sameOps_any (A : Option Addr) (c : Nat) (a : List O5) (A' : Option Addr) (c' : Nat) (b : List O5) (w : World) (hn : a.length ≤ 1000000) (hn' : b.length ≤ 1000000) (h : Ops w A c a) (h' : Ops w A' c' b) :
    Calls Tryd.prog 18 #[.slice A a.length c, .slice A' b.length c'] w (BoolRet (decide (a = b)) w) := by
  have HA := hide h
  have HB := hide h'
  clear h h'
  go_enter Tryd.func18, Tryd.ntmps18
  by_cases hl : a.length = b.length
  · have HL := hide hl
    have d0 : ((a.length : Int) != (b.length : Int)) = false := by simp; omega
    clear hl
    go_wp2_with fail
    go_loopw [5] (SameRel w a b) (fun i _ => a.length - (intOf i).toNat)
    case atStart => exact ⟨0, Nat.zero_le _, rfl, rfl, Below.refl _ _⟩
    case round =>
      obtain ⟨k, hk, rfl, hs, hb⟩ := hrel
      have HS := hide hs
      have BB := hide hb
      clear hs hb
      by_cases hlt : k < a.length
      · have hlt' : k < b.length := by have := HL.out; omega
        obtain ⟨g, o, rfl, hat⟩ := (HA.out.below BB.out).lit (by omega)
        obtain ⟨g', o', rfl, hat'⟩ := (HB.out.below BB.out).lit (by omega)
        obtain ⟨c0, c1, c2, c3, c4⟩ := hat.five k hlt
        obtain ⟨e0, e1, e2, e3, e4⟩ := hat'.five k hlt'
        have ST := hide (same_step a b k hlt hlt')
        generalize a[k]'hlt = x at c0 c1 c2 c3 c4 ST
        generalize b[k]'hlt' = y at e0 e1 e2 e3 e4 ST
        have hq := op_neq x y
        clear hat hat'
        have i1 : (k : Int) < (a.length : Int) := by omega
        have i2 : (k : Int) < (b.length : Int) := by omega
        have i0 : (0 : Int) ≤ (k : Int) := by omega
        by_cases hxy : x = y
        · have E := hide (show decide (a.drop (k + 1) = b.drop (k + 1)) = decide (a = b) by rw [← HS.out, ST.out, decide_eq_true hxy, Bool.true_and])
          rw [decide_eq_true hxy] at hq
          clear hxy ST
          go_wp2_with fail
          go_quiet (fail)
          go_wp2
          go_roundw
          case rel => exact ⟨k + 1, by omega, by go_num, E.out, belowD BB.out _⟩
          case measure => simp [intOf]; omega
        · have E := hide (show decide (a = b) = false by rw [← HS.out, ST.out, decide_eq_false hxy, Bool.false_and])
          rw [decide_eq_false hxy] at hq
          clear hxy ST
          go_wp2_with fail
          go_quiet (fail)
          go_wp2
          go_ret
          rw [E.out]
          exact ⟨rfl, belowD BB.out _⟩
      · obtain rfl : k = a.length := by omega
        have E := hide (show decide (a = b) = true by rw [← HS.out, List.drop_length, HL.out, List.drop_length]; rfl)
        go_wp2
        go_ret
        rw [E.out]
        exact ⟨rfl, BB.out⟩
  · have d0 : ((a.length : Int) != (b.length : Int)) = true := by simp; omega
    have E := hide (show decide (a = b) = false by simp; rintro rfl; exact hl rfl)
    go_wp2
    go_ret
    rw [E.out]
    exact ⟨rfl, Below.refl _ _⟩
end Go.Proofs.YteibkipcblmikaaDoor
namespace Go.Proofs.YteibkipcblmikaaDoor
open Go.RowKit
set_option linter.unusedVariables false
set_option maxRecDepth 100000

theorem own_row {w : World} {base : Nat} {e : TypeId} {sz : Nat} {v : Value} {n : Nat} {xs : List Value} (h : w.ownsRow base e sz v n xs) : ∀ k, v.ownBlock = some k → base ≤ k := by
  intro k hk
  rcases h.2 with ⟨h0, _⟩ | ⟨g, cap, cur, h0, hb, _⟩
  · rw [h0] at hk; simp [Value.ownBlock] at hk
  · rw [h0] at hk; simp [Value.ownBlock] at hk; omega
theorem encB_no {os : List O5} (h : wOk os = false) : encB os = [] ∧ encE os = 1 := by simp [encB, encE, h]
set_option maxHeartbeats 1000000 in
theorem refEncode_any (A : Option Addr) (c : Nat) (os : List O5) (w : World) (hn : os.length ≤ 1000000) (hm : ∀ o ∈ os, o.l.length ≤ 1000) (h : Ops w A c os) :
    Calls Tryd.prog 12 #[.slice A os.length c] w (BytesErr w (encB os) (encE os)) := by
  have HO := hide h
  have HM := hide hm
  clear h hm
  go_enter Tryd.func12, Tryd.ntmps12
  by_cases h64 : os.length ≤ 64
  · have d1 : decide ((os.length : Int) > 64) = false := by simp; omega
    go_wp2_with fail
    clear d1
    have O1 := hide (own_new1 w w.heap.size (Nat.le_refl _) 1 (b8 1) rfl)
    have B1 := hide ((Below.refl w.heap.size w).alloc (Nat.le_refl _) (.cells #[.int .u8 1] 5))
    generalize hw1 : w.alloc (.cells #[.int .u8 1] 5) = w1 at O1 B1 ⊢
    have S1 := hide (show w.heap.size ≤ w1.heap.size from B1.out.size)
    clear hw1
    refine (refnum_any os.length _).mono ?_
    rintro e w2 ⟨v2, rfl, hown, hb⟩
    obtain ⟨A2, c2, rfl, f1, f2, f3⟩ := (RSl.of_own hown).form
    have O2 := hide (own_below O1.out hb)
    have N2 := hide (Hnd.of_RSl (RSl.of_own hown))
    have B2 := hide (B1.out.trans (hb.mono S1.out))
    have S2 := hide (show w.heap.size ≤ w2.heap.size from B2.out.size)
    have F1 := hide f1
    have hnl := num_le os.length
    clear hown hb f1 f2 f3 O1 B1 S1
    go_wp2_with (at_builtin; refine wpList_append_b _ rfl _ _ rfl w.heap.size _ 1 [b8 1] rfl O2.out A2 (num os.length).length c2 (num os.length) rfl rfl F1.out N2.out (by omega) S2.out ?_)
    intro v3 w3 hown3 hg3 _
    have B3 := hide (B2.out.grown hg3 S2.out (by intro k hk; simp [Value.ownBlock] at hk; omega))
    have O3 := hide (show w3.ownsRow w.heap.size 5 1 v3 (wPart os.length (os.take 0)).length (bc (wPart os.length (os.take 0))) by
      have e : wPart os.length (os.take 0) = [b8 1] ++ num os.length := by simp [wPart]
      rw [e, List.length_append]
      exact hown3)
    clear hown3 hg3 O2 N2 B2 S2 F1 hnl
    go_wp2_with fail
    go_loopw [4, 5] (WrRel w os) (fun _ i _ => os.length - (intOf i).toNat)
    case atStart => exact ⟨0, Nat.zero_le _, rfl, O3.out, B3.out, by simp⟩
    case round =>
      obtain ⟨k, hk, rfl, ho, hb, hr⟩ := hrel
      have O := hide ho
      have B := hide hb
      have R := hide hr
      have sz := hb.size
      clear ho hb hr O3 B3
      by_cases hlt : k < os.length
      · obtain ⟨b, o, rfl, hat⟩ := (HO.out.below B.out).lit (by omega)
        obtain ⟨c0, c1, c2, c3, c4⟩ := hat.five k hlt
        have HK := hide (show os[k]'hlt ∈ os from List.getElem_mem hlt)
        have ST := hide (wPart_step os.length os k hlt)
        have HF := hide (@wOk_false os k hlt)
        have HT := hide (List.take_succ_eq_append_getElem hlt)
        have HML := hide (HM.out _ HK.out)
        generalize hx : os[k]'hlt = x at c0 c1 c2 c3 c4 HK ST HF HT HML
        clear hx hat
        go_wp2_with fail
        refine (orefRight_any x.n x.r x.d x.t x.l wr HML.out).mono ?_
        rintro e wb ⟨rfl, hb⟩
        have Bb := hide (B.out.trans (hb.mono sz))
        have Ob := hide (own_below O.out hb)
        have c0' := (hb.cell (World.block_lt_of_cell? wr _ c0)).trans c0
        have c1' := (hb.cell (World.block_lt_of_cell? wr _ c1)).trans c1
        have c2' := (hb.cell (World.block_lt_of_cell? wr _ c2)).trans c2
        have c3' := (hb.cell (World.block_lt_of_cell? wr _ c3)).trans c3
        have c4' := (hb.cell (World.block_lt_of_cell? wr _ c4)).trans c4
        clear hb O B c0 c1 c2 c3 c4
        have zb := Bb.out.size
        cases hR : x.R with
        | true =>
          have hR2 : opR x.n x.r x.d x.t x.l = true := hR
          rw [hR2]
          clear hR2
          have HR := hide hR
          clear hR
          go_wp2_with fail
          refine (orefPut_any x.n x.r x.d x.t x.l wb HML.out).mono ?_
          rintro e w5 ⟨v5, rfl, hown, hb⟩
          obtain ⟨A5, c5, rfl, f1, f2, f3⟩ := (RSl.of_own hown).form
          have B5 := hide (Bb.out.trans (hb.mono zb))
          have O5' := hide (own_below Ob.out hb)
          have N5 := hide (Hnd.of_RSl (RSl.of_own hown))
          have F1 := hide f1
          have S5 := hide (show w.heap.size ≤ w5.heap.size from B5.out.size)
          have hle1 := wPart_le os.length (os.take k) (by rw [List.length_take]; omega)
          have hle2 := opB_le x.n x.r x.d x.t x.l
          clear hown hb f1 f2 f3 c0' c1' c2' c3' c4' Bb Ob
          go_wp2_with (at_builtin; refine wpList_append_b _ rfl _ _ rfl w.heap.size _ _ _ rfl O5'.out A5 (opB x.n x.r x.d x.t x.l).length c5 (opB x.n x.r x.d x.t x.l) rfl rfl F1.out N5.out (by omega) S5.out ?_)
          intro v6 w6 hown6 hg6 _
          have B6 := hide (B5.out.grown hg6 S5.out (by
            intro k hk
            rcases O5'.out.2 with ⟨rfl, _⟩ | ⟨g, cap, cur, rfl, hb, _⟩
            · simp [Value.ownBlock] at hk
            · simp [Value.ownBlock] at hk; omega))
          have O6 := hide (show w6.ownsRow w.heap.size 5 1 v6 (wPart os.length (os.take (k + 1))).length (bc (wPart os.length (os.take (k + 1)))) by
            rw [ST.out, List.length_append]
            exact hown6)
          clear hown6 hg6 hle1 hle2 O5' N5 S5 F1 B5
          go_wp2_with fail
          go_roundw
          case rel =>
            refine ⟨k + 1, by omega, by go_num, O6.out, B6.out, ?_⟩
            rw [HT.out]
            intro o ho
            rcases List.mem_append.1 ho with ho | ho
            · exact R.out o ho
            · rw [List.mem_singleton.1 ho]; exact HR.out
          case measure => simp [intOf]; omega
        | false =>
          have hR2 : opR x.n x.r x.d x.t x.l = false := hR
          rw [hR2]
          clear hR2
          have HW := hide (encB_no (HF.out hR))
          clear hR
          go_wp2_with fail
          go_ret2
          rw [HW.out.1, HW.out.2]
          exact ⟨_, rfl, World.ownsRow_nil _ _ _ _, Bb.out⟩
      · obtain rfl : k = os.length := by omega
        have hk : wOk os = true := wOk_of h64 (fun o ho => R.out o (by rw [List.take_length]; exact ho))
        have O2 := hide (show wr.ownsRow w.heap.size 5 1 u4 (wBody os).length (bc (wBody os)) by
          have := O.out
          rw [List.take_length] at this
          exact this)
        have HB := hide (show encB os = num (wAll os).length ++ wAll os from if_pos hk)
        have HX := hide (show encE os = 0 from if_pos hk)
        have hbl := wBody_le hk
        have hal := wAll_len os
        have HA := hide (show wAll os = wBody os ++ four (sumN 0 (wBody os)) from rfl)
        have HS := hide (sumN_lt 0 (wBody os))
        have HSum := hide (fun v W h => refThen_any 0 v (wBody os) W (by omega) (show (wBody os).length ≤ maxLen by unfold maxLen; omega) h)
        generalize sumN 0 (wBody os) = sm at HA HS HSum
        generalize wAll os = W at HA HB hal
        generalize wBody os = Bd at HA HSum hbl hal O2
        have hw4 : W.length ≤ 4004 := by omega
        clear hal hk O R
        obtain ⟨A2, c2, rfl, f1, f2, f3⟩ := (RSl.of_own O2.out).form
        clear f1 f2 f3
        go_wp2_with fail
        refine (HSum.out _ _ (Hnd.of_RSl (RSl.of_own O2.out))).mono ?_
        rintro e w3 ⟨rfl, hb⟩
        have B3 := hide (B.out.trans (hb.mono (by omega)))
        have O3 := hide (own_below O2.out hb)
        have z3 := hb.size
        clear hb B O2 HSum
        go_wp2_with fail
        refine (refFour_any sm w3 HS.out).mono ?_
        rintro e w4 ⟨v4, rfl, hown, hb⟩
        obtain ⟨A4, c4, rfl, f1, f2, f3⟩ := (RSl.of_own hown).form
        have B4 := hide (B3.out.trans (hb.mono (by omega)))
        have O4 := hide (own_below O3.out hb)
        have N4 := hide (Hnd.of_RSl (RSl.of_own hown))
        have F4 := hide f1
        have z4 := hb.size
        have h4 : (four sm).length ≤ 4 := Nat.le_of_eq (four_len sm)
        clear hb B3 O3 hown f1 f2 f3 HS
        go_wp2_with (at_builtin; refine wpList_append_b _ rfl _ _ rfl w.heap.size _ Bd.length Bd rfl O4.out A4 (four sm).length c4 (four sm) rfl rfl F4.out N4.out (by omega) (by omega) ?_)
        intro v5 w5 hown5 hg5 _
        have B5 := hide (B4.out.grown hg5 (by omega) (own_row O4.out))
        have z5 := hg5.size
        have O5' := hide (show w5.ownsRow w.heap.size 5 1 v5 W.length (bc W) by
          rw [HA.out, List.length_append]
          exact hown5)
        obtain ⟨A5, c5, rfl, f1, f2, f3⟩ := (RSl.of_own O5'.out).form
        have F5 := hide f1
        clear hown5 hg5 B4 O4 N4 F4 f1 f2 f3 HA
        go_wp2_with fail
        refine (refnum_any W.length w5).mono ?_
        rintro e w6 ⟨v6, rfl, hown, hb⟩
        have B6 := hide (B5.out.trans (hb.mono (by omega)))
        have N6 := hide (Hnd.of_RSl (RSl.of_own (own_below O5'.out hb)))
        have O6 := hide hown
        have z6 := hb.size
        have h6 := num_le W.length
        clear hb B5 hown
        go_wp2_with (at_builtin; refine wpList_append_b _ rfl _ _ rfl w5.heap.size _ (num W.length).length (num W.length) rfl O6.out A5 W.length c5 W rfl rfl F5.out N6.out (by omega) (by omega) ?_)
        intro v7 w7 hown7 hg7 _
        have B7 := hide (B6.out.grown hg7 (by omega) (fun k hk => by have := own_row O6.out k hk; omega))
        have O7 := hide (show w7.ownsRow w.heap.size 5 1 v7 (encB os).length (bc (encB os)) by
          rw [HB.out, List.length_append]
          exact own_base hown7 (by omega))
        clear hown7 hg7 B6 O6 N6 O5' F5
        go_wp2_with fail
        go_ret2
        rw [HX.out]
        exact ⟨_, rfl, O7.out, B7.out⟩
  · have d1 : decide ((os.length : Int) > 64) = true := by simp; omega
    have hk : wOk os = false := by simp [wOk]; omega
    have HW := hide (encB_no hk)
    clear hk
    go_wp2_with fail
    go_ret2
    rw [HW.out.1, HW.out.2]
    exact ⟨_, rfl, World.ownsRow_nil _ _ _ _, Below.refl _ _⟩
end Go.Proofs.YteibkipcblmikaaDoor
namespace Go.Proofs.YteibkipcblmikaaDoor
open Go.RowKit
set_option linter.unusedVariables false
set_option maxRecDepth 100000

def exO : O5 := ⟨5, 7, 1287, 0, [97]⟩
theorem exO_ok : wOk [exO] = true := wOk_of (by decide) (by intro o ho; rw [List.mem_singleton.1 ho]; exact ex_r)
theorem ex_nil : wOk [] = true := rfl
theorem ex_body : wBody [] = [1, 0] := by decide
theorem ex_enc : ∃ a b c d, wEnc [] = [6, 1, 0, a, b, c, d] := by
  have h := four_len (sumN 0 (wBody []))
  have e : wAll [] = [1, 0] ++ four (sumN 0 (wBody [])) := by unfold wAll; rw [ex_body]
  generalize four (sumN 0 (wBody [])) = f at h e
  match f, h with
  | [a, b, c, d], _ =>
    refine ⟨a, b, c, d, ?_⟩
    unfold wEnc
    rw [e]
    show num ((6 : Nat) : Int) ++ _ = _
    rw [show num ((6 : Nat) : Int) = [6] by decide]
    rfl
set_option maxHeartbeats 1000000 in
theorem wAwake_any (w : World) (hE : Env w) : Calls Tryd.prog 9 #[] w (TrueRet w) := by
  have HE := hide hE
  have K0 := hide (encode_any none 0 [] w (by simp) (by simp) hE ⟨fun _ => rfl, Nat.le_refl _, Nat.zero_le _, by simp⟩)
  clear hE
  have e0 : encB [] = wEnc [] := if_pos ex_nil
  have e1 : encE [] = 0 := if_pos ex_nil
  rw [e0, e1] at K0
  obtain ⟨x3, x4, x5, x6, hx⟩ := ex_enc
  rw [hx] at K0
  clear e0 e1 hx
  go_enter Tryd.func9, Tryd.ntmps9
  go_wp2_with fail
  refine K0.out.mono ?_
  rintro e w1 ⟨v1, rfl, hown, hb⟩
  obtain ⟨g1, cap1, rfl, hg1, hcell⟩ := own_some hown (by simp)
  have d0 : w1.cell? ⟨g1, 0, none⟩ = some (.int .u8 6) := hcell 0 _ rfl
  have d1 : w1.cell? ⟨g1, 1, none⟩ = some (.int .u8 1) := hcell 1 _ rfl
  have d2 : w1.cell? ⟨g1, 2, none⟩ = some (.int .u8 0) := hcell 2 _ rfl
  have D := hide (And.intro d0 (And.intro d1 d2))
  have B1 := hide hb
  clear hown hb hcell d0 d1 d2 K0
  go_wp2_with fail
  have bz1 := (Below.refl w1.heap.size w1).alloc (Nat.le_refl _) (.cells #[.int .i64 5, .int .i64 7, .int .i64 1287, .int .i64 0, .string ⟨#[97]⟩] 48)
  have BO : Bo (w1.alloc (.cells #[.int .i64 5, .int .i64 7, .int .i64 1287, .int .i64 0, .string ⟨#[97]⟩] 48)) w1.heap.size 5 7 1287 0 [97] := Bo.new w1 5 7 1287 0 [97] 48
  have hs1 : (w1.alloc (.cells #[.int .i64 5, .int .i64 7, .int .i64 1287, .int .i64 0, .string ⟨#[97]⟩] 48)).heap.size = w1.heap.size + 1 := by simp
  have N2 : ∀ j u, (ocs [exO])[j]? = some u → ((w1.alloc (.cells #[.int .i64 5, .int .i64 7, .int .i64 1287, .int .i64 0, .string ⟨#[97]⟩] 48)).alloc (.cells #[.int .i64 5, .int .i64 7, .int .i64 1287, .int .i64 0, .string ⟨#[97]⟩] 48)).cell? ((⟨(w1.alloc (.cells #[.int .i64 5, .int .i64 7, .int .i64 1287, .int .i64 0, .string ⟨#[97]⟩] 48)).heap.size, 0, none⟩ : Addr).add j) = some u := cells_new5 (w1.alloc (.cells #[.int .i64 5, .int .i64 7, .int .i64 1287, .int .i64 0, .string ⟨#[97]⟩] 48)) exO
  have bz2 := (bz1.alloc (by rw [hs1]; omega) (.cells #[.int .i64 5, .int .i64 7, .int .i64 1287, .int .i64 0, .string ⟨#[97]⟩] 48))
  have BO2 := BO.alloc (.cells #[.int .i64 5, .int .i64 7, .int .i64 1287, .int .i64 0, .string ⟨#[97]⟩] 48)
  rw [hs1] at N2
  have B2 := hide (B1.out.trans (bz2.mono B1.out.size))
  have D2 := hide (show ∀ i : Nat, ∀ u, w1.cell? ⟨g1, i, none⟩ = some u → _ from fun i u h => (bz2.cell (World.block_lt_of_cell? w1 _ h)).trans h)
  have OP := hide (show Ops ((w1.alloc (.cells #[.int .i64 5, .int .i64 7, .int .i64 1287, .int .i64 0, .string ⟨#[97]⟩] 48)).alloc (.cells #[.int .i64 5, .int .i64 7, .int .i64 1287, .int .i64 0, .string ⟨#[97]⟩] 48)) (some ⟨w1.heap.size + 1, 0, none⟩) 1 [exO] from
    ⟨(by intro h; cases h), Nat.le_refl _, (by decide), fun _ => ⟨_, _, rfl, fun j u hu => by have := N2 j u hu; rwa [Addr.add_lit] at this⟩⟩)
  have BO3 := hide BO2
  have z2 := bz2.size
  have DD := hide (show _ ∧ _ ∧ _ from ⟨D2.out 0 _ D.out.1, D2.out 1 _ D.out.2.1, D2.out 2 _ D.out.2.2⟩)
  clear bz1 bz2 hs1 N2 BO BO2 D D2
  generalize (w1.alloc (.cells #[.int .i64 5, .int .i64 7, .int .i64 1287, .int .i64 0, .string ⟨#[97]⟩] 48)).alloc (.cells #[.int .i64 5, .int .i64 7, .int .i64 1287, .int .i64 0, .string ⟨#[97]⟩] 48) = w2 at B2 OP BO3 z2 DD ⊢
  have K1 := encode_any (some ⟨w1.heap.size + 1, 0, none⟩) 1 [exO] w2 (by simp) (by intro o ho; rw [List.mem_singleton.1 ho]; decide) (HE.out.below B2.out) OP.out
  have e0 : encB [exO] = wEnc [exO] := if_pos exO_ok
  have e1 : encE [exO] = 0 := if_pos exO_ok
  rw [e0, e1] at K1
  have HL := hide (wEnc_le exO_ok)
  have HDec := hide (dec_put exO_ok)
  generalize wEnc [exO] = l at K1 HL HDec
  clear e0 e1
  refine K1.mono ?_
  rintro e w3 ⟨v3, rfl, hown, hb⟩
  obtain ⟨A3, c3, rfl, f1, f2, f3⟩ := (RSl.of_own hown).form
  have N3 := hide (Hnd.of_RSl (RSl.of_own hown))
  have B3 := hide (B2.out.trans (hb.mono B2.out.size))
  have BO4 := hide (BO3.out.below hb BO3.out.lt)
  have DE := hide (show _ ∧ _ ∧ _ from ⟨(hb.cell (World.block_lt_of_cell? w2 _ DD.out.1)).trans DD.out.1, (hb.cell (World.block_lt_of_cell? w2 _ DD.out.2.1)).trans DD.out.2.1, (hb.cell (World.block_lt_of_cell? w2 _ DD.out.2.2)).trans DD.out.2.2⟩)
  clear hown hb f1 K1 OP B2 BO3 DD
  go_wp2_with fail
  refine (decode_any A3 c3 l w3 (by have := HL.out; omega) f2 f3 (HE.out.below B3.out) N3.out).mono ?_
  rw [HDec.out]
  rintro e w4 ⟨v4, rfl, hown, hb⟩
  obtain ⟨A4, c4, rfl, hops⟩ := hown.ops
  have P4 := hide hops
  have B4 := hide (B3.out.trans (hb.mono B3.out.size))
  obtain ⟨d0, d1, d2⟩ : _ ∧ _ ∧ _ := ⟨(hb.cell (World.block_lt_of_cell? w3 _ DE.out.1)).trans DE.out.1, (hb.cell (World.block_lt_of_cell? w3 _ DE.out.2.1)).trans DE.out.2.1, (hb.cell (World.block_lt_of_cell? w3 _ DE.out.2.2)).trans DE.out.2.2⟩
  obtain ⟨m0, m1, m2, m3, m4⟩ := BO4.out.below hb BO4.out.lt
  have z4 := B4.out.size
  clear hown hb hops N3 B3 BO4 DE HL HDec f2 f3
  go_wp2_with fail
  have bz := (Below.refl w4.heap.size w4).alloc (Nat.le_refl _) (.cells #[.int .i64 5, .int .i64 7, .int .i64 1287, .int .i64 0, .string (bs [97])] 48)
  have N5 : ∀ j u, (ocs [exO])[j]? = some u → (w4.alloc (.cells #[.int .i64 5, .int .i64 7, .int .i64 1287, .int .i64 0, .string (bs [97])] 48)).cell? ((⟨w4.heap.size, 0, none⟩ : Addr).add j) = some u := cells_new5 w4 exO
  have OP := hide (show Ops (w4.alloc (.cells #[.int .i64 5, .int .i64 7, .int .i64 1287, .int .i64 0, .string (bs [97])] 48)) (some ⟨w4.heap.size, 0, none⟩) 1 [exO] from
    ⟨(by intro h; cases h), Nat.le_refl _, (by decide), fun _ => ⟨_, _, rfl, fun j u hu => by have := N5 j u hu; rwa [Addr.add_lit] at this⟩⟩)
  have P5 := hide (P4.out.below bz)
  have B5 := hide (B4.out.trans (bz.mono z4))
  clear bz N5 P4 B4 m0 m1 m2 m3 m4 d0 d1 d2
  generalize w4.alloc (.cells #[.int .i64 5, .int .i64 7, .int .i64 1287, .int .i64 0, .string (bs [97])] 48) = w5 at OP P5 B5 ⊢
  refine (sameOps_any A4 c4 [exO] _ 1 [exO] w5 (by simp) (by simp) P5.out OP.out).mono ?_
  rintro e w6 ⟨rfl, hb⟩
  have B6 := hide (B5.out.trans (hb.mono B5.out.size))
  clear hb
  go_wp2
  go_ret
  exact ⟨rfl, B6.out⟩
end Go.Proofs.YteibkipcblmikaaDoor
