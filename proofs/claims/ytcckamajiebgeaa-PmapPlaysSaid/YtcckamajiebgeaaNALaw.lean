/-
  An arena of nodes behind a world, calls that leave all else as it was. Conditions: those of the calls.
-/
import Derived.Test.YtcckamajiebgeaaNAFree
import Derived.Laws.StructEq
namespace Go.Proofs.Ytcckamajiebgeaa
open Go.RowKit
set_option linter.unusedVariables false
set_option linter.unusedSimpArgs false
set_option maxRecDepth 100000

/-- An arena that was made behind a world. -/
structure Az (w0 w : World) (g most U : Nat) (A : Ar) : Prop where
  bel : Below w0.heap.size w0 w
  an : ∃ fs, An w g most U A fs ∧ ∀ k ∈ fs, w0.heap.size ≤ k
/-- All that isn't an arena's is as it was. -/
def Kp (w w' : World) : Prop := w.heap.size ≤ w'.heap.size ∧ ∀ (k : Nat) (cs : Array Value) (t : TypeId) (z : Nat × Nat), w.heap[k]? = some (Obj.cells cs t z) → t ≠ 85 → t ≠ 95 → t ≠ 3 → w'.heap[k]? = some (Obj.cells cs t z)
theorem Kp.refl (w : World) : Kp w w := ⟨Nat.le_refl _, fun _ _ _ _ h _ _ _ => h⟩
theorem Kp.trans {a b c : World} (h : Kp a b) (h' : Kp b c) : Kp a c := ⟨Nat.le_trans h.1 h'.1, fun k cs t z hk h1 h2 h3 => h'.2 k cs t z (h.2 k cs t z hk h1 h2 h3) h1 h2 h3⟩
theorem Kp.of_below {w w' : World} (h : Below w.heap.size w w') : Kp w w' := ⟨h.size, fun k cs t z hk _ _ _ => (h.block k (Array.getElem?_eq_some_iff.1 hk).1).trans hk⟩
theorem Az.below {w0 w w' : World} {g most U : Nat} {A : Ar} (h : Az w0 w g most U A) (hb : Below w.heap.size w w') : Az w0 w' g most U A := by
  obtain ⟨h1, fs, h2, h3⟩ := h
  exact ⟨h1.trans (hb.mono h1.size), fs, h2.below hb, h3⟩
/-- A call answers, the arena is another one then, all else is as it was. -/
def AzRet (v : Value) (w0 : World) (g most U : Nat) (A : Ar) (w : World) (e : Ending) (w' : World) : Prop := e = .returned v ∧ Az w0 w' g most U A ∧ Kp w w'
theorem Az.ret {w0 w w' : World} {g most U U' : Nat} {A A' : Ar} {fs : List Nat} {v : Value} {e : Ending} (h1 : Below w0.heap.size w0 w) (h2 : An w g most U A fs) (h3 : ∀ k ∈ fs, w0.heap.size ≤ k) (h : AnRet v g most U' A' fs w e w') : AzRet v w0 g most U' A' w e w' := by
  obtain ⟨he, fs', h4, h5, h6⟩ := h
  refine ⟨he, ⟨?_, fs', h4, fun k hk => ?_⟩, h5.size, fun k cs t z hk t1 t2 t3 => ?_⟩
  · exact h1.trans (h5.below h1.size h3)
  · rcases h6 k hk with h | h
    · exact h3 k h
    · exact Nat.le_trans h1.size h
  · exact (h5.block k (Array.getElem?_eq_some_iff.1 hk).1 (h2.apart hk t1 t2 t3)).trans hk
theorem zput_any {w0 w : World} {g most U : Nat} {A : Ar} (x : Nd) (hU : U ≤ 1000000) (h : Az w0 w g most U A) (hf : A.live < most) : Calls Try.prog 50 #[.pointer (some ⟨g, 0, none⟩), ndv x] w (AzRet (.tuple #[.agg #[.int .i64 A.nxt.1, .int .i64 A.nxt.2], .bool true]) w0 g most (U + 1) (A.put x) w) := by
  obtain ⟨h1, fs, h2, h3⟩ := h
  exact (aput_any g most U A fs x hU hf w h2).mono fun e w' h => Az.ret h1 h2 h3 h
/-- A call answers, nothing is changed. -/
def ZRet (v : Value) (w0 : World) (g most U : Nat) (A : Ar) (w : World) (e : Ending) (w' : World) : Prop := e = .returned v ∧ Az w0 w' g most U A ∧ Below w.heap.size w w'
theorem zput_full {w0 w : World} {g most U : Nat} {A : Ar} (x : Nd) (hU : U ≤ 1000000) (h : Az w0 w g most U A) (hf : ¬ A.live < most) : Calls Try.prog 50 #[.pointer (some ⟨g, 0, none⟩), ndv x] w (ZRet (.tuple #[.agg #[.int .i64 0, .int .i64 0], .bool false]) w0 g most U A w) := by
  obtain ⟨fs, h2, h3⟩ := h.an
  have := h2.le
  exact (aput_full g most U A fs x hU (by omega) w h2).mono fun e w' h' => ⟨h'.1, h.below h'.2, h'.2⟩
theorem zget_any {w0 w : World} {g most U : Nat} {A : Ar} (s t : Int) (hs : i64B s) (ht : i64B t) (hU : U ≤ 1000000) (h : Az w0 w g most U A) : Calls Try.prog 38 #[.pointer (some ⟨g, 0, none⟩), .agg #[.int .i64 s, .int .i64 t]] w (ZRet (.tuple #[ndv ((A.get s t).getD ndz), .bool (A.get s t).isSome]) w0 g most U A w) := by
  obtain ⟨fs, h2, h3⟩ := h.an
  exact (aget_any g most U A fs s t hs ht (by omega) w h2).mono fun e w' h' => ⟨h'.1, h.below h'.2, h'.2⟩
theorem zlive_any {w0 w : World} {g most U : Nat} {A : Ar} (hU : U ≤ 1000000) (h : Az w0 w g most U A) : Calls Try.prog 36 #[.pointer (some ⟨g, 0, none⟩)] w (ZRet (.int .i64 (A.live : Int)) w0 g most U A w) := by
  obtain ⟨fs, h2, h3⟩ := h.an
  exact (alive_any g most U A fs (by omega) w h2).mono fun e w' h' => ⟨h'.1, h.below h'.2, h'.2⟩
theorem zroom_any {w0 w : World} {g most U : Nat} {A : Ar} (hU : U ≤ 1000000) (h : Az w0 w g most U A) : Calls Try.prog 37 #[.pointer (some ⟨g, 0, none⟩)] w (ZRet (.int .i64 ((most - A.live : Nat) : Int)) w0 g most U A w) := by
  obtain ⟨fs, h2, h3⟩ := h.an
  exact (aroom_any g most U A fs (by omega) w h2).mono fun e w' h' => ⟨h'.1, h.below h'.2, h'.2⟩
theorem zfree_no {w0 w : World} {g most U : Nat} {A : Ar} (s t : Int) (hs : i64B s) (ht : i64B t) (hU : U ≤ 1000000) (h : Az w0 w g most U A) (hg : A.get s t = none) : Calls Try.prog 35 #[.pointer (some ⟨g, 0, none⟩), .agg #[.int .i64 s, .int .i64 t]] w (ZRet (.bool false) w0 g most U A w) := by
  obtain ⟨fs, h2, h3⟩ := h.an
  exact (afree_no g most U A fs s t hs ht hU w h2 hg).mono fun e w' h' => ⟨h'.1, h.below h'.2, h'.2⟩
theorem zfree_any {w0 w : World} {g most U : Nat} {A : Ar} (s t : Int) (v : Nd) (ht : i64B t) (hU : U ≤ 1000000) (h : Az w0 w g most U A) (hg : A.get s t = some v) : Calls Try.prog 35 #[.pointer (some ⟨g, 0, none⟩), .agg #[.int .i64 s, .int .i64 t]] w (AzRet (.bool true) w0 g most U (A.free s.toNat) w) := by
  obtain ⟨h1, fs, h2, h3⟩ := h
  have h0 := (get_some hg).1
  obtain ⟨j, rfl⟩ : ∃ j : Nat, s = (j : Int) + 1 := ⟨(s - 1).toNat, by omega⟩
  rw [show ((j : Int) + 1).toNat = j + 1 by omega]
  exact (afree_any g most U A fs j t v ht hU w h2 hg).mono fun e w' h => Az.ret h1 h2 h3 h
theorem znew_any {w0 w : World} (n : Int) (h0 : 0 ≤ n) (h1 : n ≤ 1048576) (hb : Below w0.heap.size w0 w) : Calls Try.prog 29 #[.int .i64 n] w (ZRet (.pointer (some ⟨w.heap.size, 0, none⟩)) w0 w.heap.size n.toNat 0 ⟨[], []⟩ w) := by
  refine (anew_any n (by unfold i64B; omega) w).mono fun e w' h => ?_
  obtain ⟨hb', h⟩ := h
  rw [if_pos ⟨h0, h1⟩] at h
  exact ⟨h.1, ⟨hb.trans (hb'.mono hb.size), _, h.2, fun k hk => by
    rw [List.mem_singleton.1 hk]
    exact hb.size⟩, hb'⟩
theorem Hb.kp {w w' : World} {k : Nat} {s t : Int} (h : Hb w k s t) (hk : Kp w w') : Hb w' k s t := hk.2 k _ _ _ h (by decide) (by decide) (by decide)
theorem OwnH.kp {w w' : World} {base : Nat} {v : Value} {l : List (Int × Int)} (h : OwnH w base v l) (hk : Kp w w') : OwnH w' base v l := row_kept h fun b hb => by
  obtain ⟨cur, hc⟩ := row_block h hb
  rw [hc]
  exact hk.2 b _ _ _ hc (by decide) (by decide) (by decide)
theorem Az.alloc {w0 w : World} {g most U : Nat} {A : Ar} (h : Az w0 w g most U A) (o : Obj) : Az w0 (w.alloc o) g most U A := h.below ((Below.refl _ _).alloc (Nat.le_refl _) o)
end Go.Proofs.Ytcckamajiebgeaa
