/-
  What the laws over arenas share: an arena behind a world, calls that leave all else as it was; the law's awake. Conditions: those of the calls.
-/
import Derived.Test.YtooejagekkgpaaaAFree
import Derived.Laws.StructEq
namespace Go.Proofs.Ytooejagekkgpaaa
open Go.RowKit
set_option linter.unusedVariables false
set_option linter.unusedSimpArgs false
set_option maxRecDepth 100000

/-- An arena that was made behind a world. -/
structure Az (w0 w : World) (g most U : Nat) (A : Ar) : Prop where
  bel : Below w0.heap.size w0 w
  an : ∃ fs, An w g most U A fs ∧ ∀ k ∈ fs, w0.heap.size ≤ k
/-- All that isn't an arena's is as it was. -/
def Kp (w w' : World) : Prop := w.heap.size ≤ w'.heap.size ∧ ∀ (k : Nat) (cs : Array Value) (t : TypeId) (z : Nat × Nat), w.heap[k]? = some (Obj.cells cs t z) → t ≠ 57 → t ≠ 60 → t ≠ 3 → w'.heap[k]? = some (Obj.cells cs t z)
theorem Kp.refl (w : World) : Kp w w := ⟨Nat.le_refl _, fun _ _ _ _ h _ _ _ => h⟩
theorem Kp.trans {a b c : World} (h : Kp a b) (h' : Kp b c) : Kp a c := ⟨Nat.le_trans h.1 h'.1, fun k cs t z hk h1 h2 h3 => h'.2 k cs t z (h.2 k cs t z hk h1 h2 h3) h1 h2 h3⟩
theorem Kp.of_below {w w' : World} (h : Below w.heap.size w w') : Kp w w' := ⟨h.size, fun k cs t z hk _ _ _ => (h.block k (Array.getElem?_eq_some_iff.1 hk).1).trans hk⟩
theorem Az.below {w0 w w' : World} {g most U : Nat} {A : Ar} (h : Az w0 w g most U A) (hb : Below w.heap.size w w') : Az w0 w' g most U A := by
  obtain ⟨h1, fs, h2, h3⟩ := h
  exact ⟨h1.trans (hb.mono h1.size), fs, h2.below hb, h3⟩
/-- A call answers, the arena is another one then, all else is as it was. -/
def AzRet (v : Value) (w0 : World) (g most U : Nat) (A : Ar) (w : World) (e : Ending) (w' : World) : Prop := e = .returned v ∧ Az w0 w' g most U A ∧ Kp w w'
theorem Az.ret {w0 w w' : World} {g most U U' : Nat} {A A' : Ar} {fs : List Nat} {v : Value} {e : Ending} (h1 : Below w0.heap.size w0 w) (h2 : An w g most U A fs) (h3 : ∀ k ∈ fs, w0.heap.size ≤ k) (h : AnRet v g most U' A' fs w e w') : AzRet v w0 g most U' A' w e w' := by
  obtain ⟨he, fs', h4, h5, h6⟩ := h
  refine ⟨he, ⟨?_, fs', h4, fun k hk => ?_⟩, h5.size, fun k cs t z hk t1 t2 t3 => ?_⟩
  · exact h1.trans (h5.below h1.size h3)
  · rcases h6 k hk with h | h
    · exact h3 k h
    · exact Nat.le_trans h1.size h
  · exact (h5.block k (Array.getElem?_eq_some_iff.1 hk).1 (h2.apart hk t1 t2 t3)).trans hk
theorem zput_any {w0 w : World} {g most U : Nat} {A : Ar} (x : Int) (hU : U ≤ 1000000) (h : Az w0 w g most U A) (hf : A.live < most) : Calls Try.prog 10 #[.pointer (some ⟨g, 0, none⟩), .int .i64 x] w (AzRet (.tuple #[.agg #[.int .i64 A.nxt.1, .int .i64 A.nxt.2], .bool true]) w0 g most (U + 1) (A.put x) w) := by
  obtain ⟨h1, fs, h2, h3⟩ := h
  exact (aput_any g most U A fs x hU hf w h2).mono fun e w' h => Az.ret h1 h2 h3 h
/-- A call answers, nothing is changed. -/
def ZRet (v : Value) (w0 : World) (g most U : Nat) (A : Ar) (w : World) (e : Ending) (w' : World) : Prop := e = .returned v ∧ Az w0 w' g most U A ∧ Below w.heap.size w w'
theorem zput_full {w0 w : World} {g most U : Nat} {A : Ar} (x : Int) (hU : U ≤ 1000000) (h : Az w0 w g most U A) (hf : ¬ A.live < most) : Calls Try.prog 10 #[.pointer (some ⟨g, 0, none⟩), .int .i64 x] w (ZRet (.tuple #[.agg #[.int .i64 0, .int .i64 0], .bool false]) w0 g most U A w) := by
  obtain ⟨fs, h2, h3⟩ := h.an
  have := h2.le
  exact (aput_full g most U A fs x hU (by omega) w h2).mono fun e w' h' => ⟨h'.1, h.below h'.2, h'.2⟩
theorem zget_any {w0 w : World} {g most U : Nat} {A : Ar} (s t : Int) (hs : i64B s) (ht : i64B t) (hU : U ≤ 1000000) (h : Az w0 w g most U A) : Calls Try.prog 14 #[.pointer (some ⟨g, 0, none⟩), .agg #[.int .i64 s, .int .i64 t]] w (ZRet (.tuple #[.int .i64 ((A.get s t).getD 0), .bool (A.get s t).isSome]) w0 g most U A w) := by
  obtain ⟨fs, h2, h3⟩ := h.an
  exact (aget_any g most U A fs s t hs ht (by omega) w h2).mono fun e w' h' => ⟨h'.1, h.below h'.2, h'.2⟩
theorem zlive_any {w0 w : World} {g most U : Nat} {A : Ar} (hU : U ≤ 1000000) (h : Az w0 w g most U A) : Calls Try.prog 16 #[.pointer (some ⟨g, 0, none⟩)] w (ZRet (.int .i64 (A.live : Int)) w0 g most U A w) := by
  obtain ⟨fs, h2, h3⟩ := h.an
  exact (alive_any g most U A fs (by omega) w h2).mono fun e w' h' => ⟨h'.1, h.below h'.2, h'.2⟩
theorem zroom_any {w0 w : World} {g most U : Nat} {A : Ar} (hU : U ≤ 1000000) (h : Az w0 w g most U A) : Calls Try.prog 18 #[.pointer (some ⟨g, 0, none⟩)] w (ZRet (.int .i64 ((most - A.live : Nat) : Int)) w0 g most U A w) := by
  obtain ⟨fs, h2, h3⟩ := h.an
  exact (aroom_any g most U A fs (by omega) w h2).mono fun e w' h' => ⟨h'.1, h.below h'.2, h'.2⟩
theorem zfree_no {w0 w : World} {g most U : Nat} {A : Ar} (s t : Int) (hs : i64B s) (ht : i64B t) (hU : U ≤ 1000000) (h : Az w0 w g most U A) (hg : A.get s t = none) : Calls Try.prog 12 #[.pointer (some ⟨g, 0, none⟩), .agg #[.int .i64 s, .int .i64 t]] w (ZRet (.bool false) w0 g most U A w) := by
  obtain ⟨fs, h2, h3⟩ := h.an
  exact (afree_no g most U A fs s t hs ht hU w h2 hg).mono fun e w' h' => ⟨h'.1, h.below h'.2, h'.2⟩
theorem zfree_any {w0 w : World} {g most U : Nat} {A : Ar} (s t v : Int) (ht : i64B t) (hU : U ≤ 1000000) (h : Az w0 w g most U A) (hg : A.get s t = some v) : Calls Try.prog 12 #[.pointer (some ⟨g, 0, none⟩), .agg #[.int .i64 s, .int .i64 t]] w (AzRet (.bool true) w0 g most U (A.free s.toNat) w) := by
  obtain ⟨h1, fs, h2, h3⟩ := h
  have h0 := (get_some hg).1
  obtain ⟨j, rfl⟩ : ∃ j : Nat, s = (j : Int) + 1 := ⟨(s - 1).toNat, by omega⟩
  rw [show ((j : Int) + 1).toNat = j + 1 by omega]
  exact (afree_any g most U A fs j t v ht hU w h2 hg).mono fun e w' h => Az.ret h1 h2 h3 h
theorem znew_any {w0 w : World} (n : Int) (h0 : 0 ≤ n) (h1 : n ≤ 1048576) (hb : Below w0.heap.size w0 w) : Calls Try.prog 9 #[.int .i64 n] w (ZRet (.pointer (some ⟨w.heap.size, 0, none⟩)) w0 w.heap.size n.toNat 0 ⟨[], []⟩ w) := by
  refine (anew_any n (by unfold i64B; omega) w).mono fun e w' h => ?_
  obtain ⟨hb', h⟩ := h
  rw [if_pos ⟨h0, h1⟩] at h
  exact ⟨h.1, ⟨hb.trans (hb'.mono hb.size), _, h.2, fun k hk => by
    rw [List.mem_singleton.1 hk]
    exact hb.size⟩, hb'⟩
/-- A handle in a block. -/
def Hb (w : World) (k : Nat) (s t : Int) : Prop := w.heap[k]? = some (.cells #[.int .i64 s, .int .i64 t] 31 (0, 0))
theorem Hb.new (w : World) (s t : Int) : Hb (w.alloc (.cells #[.int .i64 s, .int .i64 t] 31)) w.heap.size s t := heap_alloc_new w _
theorem Hb.kp {w w' : World} {k : Nat} {s t : Int} (h : Hb w k s t) (hk : Kp w w') : Hb w' k s t := hk.2 k _ _ _ h (by decide) (by decide) (by decide)
theorem Hb.below {w w' : World} {k : Nat} {s t : Int} (h : Hb w k s t) (hk : Below w.heap.size w w') : Hb w' k s t := h.kp (Kp.of_below hk)
theorem Hb.alloc {w : World} {k : Nat} {s t : Int} (h : Hb w k s t) (o : Obj) : Hb (w.alloc o) k s t := h.below ((Below.refl _ _).alloc (Nat.le_refl _) o)
theorem Hb.two {w : World} {k : Nat} {s t : Int} (h : Hb w k s t) : w.cell? ⟨k, 0, none⟩ = some (.int .i64 s) ∧ w.cell? ⟨k, 1, none⟩ = some (.int .i64 t) := ⟨cell_of_row _ _ 0 _ _ (0, 0) h, cell_of_row _ _ 1 _ _ (0, 0) h⟩
theorem Az.alloc {w0 w : World} {g most U : Nat} {A : Ar} (h : Az w0 w g most U A) (o : Obj) : Az w0 (w.alloc o) g most U A := h.below ((Below.refl _ _).alloc (Nat.le_refl _) o)
set_option maxHeartbeats 1000000 in
theorem awake_any (w : World) : Calls Try.prog 8 #[] w (TrueRet w) := by
  have B := hide (Below.refl w.heap.size w)
  have K1 := hide (fun W (h : Az w W w.heap.size 2 0 ⟨[], []⟩) => show Calls Try.prog 10 #[.pointer (some ⟨w.heap.size, 0, none⟩), .int .i64 5] W (AzRet (.tuple #[.agg #[.int .i64 1, .int .i64 1], .bool true]) w w.heap.size 2 1 ⟨[⟨1, some 5⟩], []⟩ W) from zput_any 5 (by omega) h (by decide))
  have K2 := hide (fun W (h : Az w W w.heap.size 2 1 ⟨[⟨1, some 5⟩], []⟩) => show Calls Try.prog 10 #[.pointer (some ⟨w.heap.size, 0, none⟩), .int .i64 6] W (AzRet (.tuple #[.agg #[.int .i64 2, .int .i64 1], .bool true]) w w.heap.size 2 2 ⟨[⟨1, some 5⟩, ⟨1, some 6⟩], []⟩ W) from zput_any 6 (by omega) h (by decide))
  have K3 := hide (fun W (h : Az w W w.heap.size 2 2 ⟨[⟨1, some 5⟩, ⟨1, some 6⟩], []⟩) => show Calls Try.prog 12 #[.pointer (some ⟨w.heap.size, 0, none⟩), .agg #[.int .i64 1, .int .i64 1]] W (AzRet (.bool true) w w.heap.size 2 2 ⟨[⟨1, none⟩, ⟨1, some 6⟩], [1]⟩ W) from zfree_any 1 1 5 (by unfold i64B; omega) (by omega) h rfl)
  have K4 := hide (fun W (h : Az w W w.heap.size 2 2 ⟨[⟨1, none⟩, ⟨1, some 6⟩], [1]⟩) => show Calls Try.prog 10 #[.pointer (some ⟨w.heap.size, 0, none⟩), .int .i64 7] W (AzRet (.tuple #[.agg #[.int .i64 1, .int .i64 2], .bool true]) w w.heap.size 2 3 ⟨[⟨2, some 7⟩, ⟨1, some 6⟩], []⟩ W) from zput_any 7 (by omega) h (by decide))
  have K5 := hide (fun W (h : Az w W w.heap.size 2 3 ⟨[⟨2, some 7⟩, ⟨1, some 6⟩], []⟩) => show Calls Try.prog 14 #[.pointer (some ⟨w.heap.size, 0, none⟩), .agg #[.int .i64 1, .int .i64 1]] W (ZRet (.tuple #[.int .i64 0, .bool false]) w w.heap.size 2 3 ⟨[⟨2, some 7⟩, ⟨1, some 6⟩], []⟩ W) from zget_any 1 1 (by unfold i64B; omega) (by unfold i64B; omega) (by omega) h)
  have K6 := hide (fun W (h : Az w W w.heap.size 2 3 ⟨[⟨2, some 7⟩, ⟨1, some 6⟩], []⟩) => show Calls Try.prog 14 #[.pointer (some ⟨w.heap.size, 0, none⟩), .agg #[.int .i64 1, .int .i64 2]] W (ZRet (.tuple #[.int .i64 7, .bool true]) w w.heap.size 2 3 ⟨[⟨2, some 7⟩, ⟨1, some 6⟩], []⟩ W) from zget_any 1 2 (by unfold i64B; omega) (by unfold i64B; omega) (by omega) h)
  have K7 := hide (fun W (h : Az w W w.heap.size 2 3 ⟨[⟨2, some 7⟩, ⟨1, some 6⟩], []⟩) => show Calls Try.prog 16 #[.pointer (some ⟨w.heap.size, 0, none⟩)] W (ZRet (.int .i64 2) w w.heap.size 2 3 ⟨[⟨2, some 7⟩, ⟨1, some 6⟩], []⟩ W) from zlive_any (by omega) h)
  go_enter Try.func8, Try.ntmps8
  go_wp2_with fail
  refine (znew_any (w0 := w) 2 (by omega) (by omega) B.out).mono ?_
  rintro e w1 ⟨rfl, hz, hb⟩
  have HZ1 := hide hz
  clear hz hb B
  go_wp2_with fail
  refine (K1.out w1 HZ1.out).mono ?_
  rintro e w2 ⟨rfl, hz, hk⟩
  have HZ2 := hide hz
  clear hz hk HZ1 K1
  go_upto_region 5 with (fail)
  have hX2 := hide (Hb.new w2 1 1)
  have HZ2 := hide (HZ2.out.alloc (.cells #[.int .i64 1, .int .i64 1] 31))
  generalize w2.heap.size = k2 at hX2 ⊢
  generalize w2.alloc (.cells #[.int .i64 1, .int .i64 1] 31) = w3 at HZ2 hX2 ⊢
  go_wp2_with fail
  refine (K2.out w3 HZ2.out).mono ?_
  rintro e w4 ⟨rfl, hz, hk⟩
  have HZ4 := hide (hz.alloc (.cells #[.int .i64 2, .int .i64 1] 31))
  have X2 := hide ((hX2.out.kp hk).alloc (.cells #[.int .i64 2, .int .i64 1] 31))
  have X4 := hide (Hb.new w4 2 1)
  clear hz hk HZ2 K2 hX2
  go_upto_region 6 with (fail)
  generalize w4.heap.size = k4 at X4 ⊢
  generalize w4.alloc (.cells #[.int .i64 2, .int .i64 1] 31) = w5 at HZ4 X2 X4 ⊢
  obtain ⟨x0, x1⟩ := X2.out.two
  go_wp2_with fail
  refine (K3.out w5 HZ4.out).mono ?_
  rintro e w6 ⟨rfl, hz, hk⟩
  have HZ6 := hide hz
  have X2 := hide (X2.out.kp hk)
  have X4 := hide (X4.out.kp hk)
  clear hz hk HZ4 K3 x0 x1
  go_wp2_with fail
  refine (K4.out w6 HZ6.out).mono ?_
  rintro e w7 ⟨rfl, hz, hk⟩
  have HZ7 := hide (hz.alloc (.cells #[.int .i64 1, .int .i64 2] 31))
  have X2 := hide ((X2.out.kp hk).alloc (.cells #[.int .i64 1, .int .i64 2] 31))
  have X4 := hide ((X4.out.kp hk).alloc (.cells #[.int .i64 1, .int .i64 2] 31))
  have X7 := hide (Hb.new w7 1 2)
  clear hz hk HZ6 K4
  go_upto_region 8 with (fail)
  generalize w7.heap.size = k7 at X7 ⊢
  generalize w7.alloc (.cells #[.int .i64 1, .int .i64 2] 31) = w8 at HZ7 X2 X4 X7 ⊢
  obtain ⟨x0, x1⟩ := X2.out.two
  go_wp2_with fail
  refine (K5.out w8 HZ7.out).mono ?_
  rintro e w9 ⟨rfl, hz, hb⟩
  have HZ9 := hide hz
  have X4 := hide (X4.out.below hb)
  have X7 := hide (X7.out.below hb)
  clear hz hb HZ7 K5 X2 x0 x1
  obtain ⟨x0, x1⟩ := X7.out.two
  go_wp2_with fail
  refine (K6.out w9 HZ9.out).mono ?_
  rintro e w10 ⟨rfl, hz, hb⟩
  have HZ10 := hide hz
  have X4 := hide (X4.out.below hb)
  have X7 := hide (X7.out.below hb)
  clear hz hb HZ9 K6 x0 x1
  obtain ⟨x0, x1⟩ := X7.out.two
  obtain ⟨y0, y1⟩ := X4.out.two
  go_wp2_with fail
  refine (K7.out w10 HZ10.out).mono ?_
  rintro e w11 ⟨rfl, hz, hb⟩
  have B := hide hz.bel
  clear hz hb HZ10 K7
  go_wp2
  go_ret
  exact ⟨rfl, B.out⟩
end Go.Proofs.Ytooejagekkgpaaa
