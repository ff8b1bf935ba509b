/-
  The chapter's examples hold: awake answers true, and changes nothing that was there. No conditions.
-/
import Derived.Test.YtdflpciabdjhnaaRefThen
import Derived.Lib.SlBytesConst
namespace Go.Proofs.Ytdflpciabdjhnaa
open Go.RowKit
set_option linter.unusedVariables false

theorem Hnd.nil0 (w : World) : Hnd w (.slice none 0 0) [] := ⟨.none, 0, rfl, fun _ => rfl, by intro ad h; cases h⟩
/-- Bytes that were just laid out as a row, with the mark of a constant string's. -/
theorem Hnd.newM (w : World) (l : List UInt8) (cs : Array Value) (z : Nat × Nat) (n c : Nat) (hn : l.length = n) (h : cs.toList = bc l) : Hnd (w.alloc (.cells cs 5 z)) (.slice (some ⟨w.heap.size, 0, none⟩) n c) l := by
  subst hn
  refine ⟨_, c, rfl, (by intro h; cases h), ?_⟩
  intro ad had j u hu
  injection had with had
  subst had
  rw [Addr.add_lit, Nat.zero_add, cell_of_row _ w.heap.size j cs _ z (heap_alloc_new w _)]
  rw [← h] at hu
  simpa using hu
theorem Hnd.new1 (w : World) (o : Obj) (l : List UInt8) (cs : Array Value) (n c : Nat) (hn : l.length = n) (h : cs.toList = bc l) : Hnd ((w.alloc o).alloc (.cells cs 5)) (.slice (some ⟨w.heap.size + 1, 0, none⟩) n c) l := by
  have := Hnd.new (w.alloc o) l cs n c hn h
  rwa [World.size_alloc] at this
theorem ex_is : four (sumN 0 [49, 50, 51, 52, 53, 54, 55, 56, 57]) = [38, 57, 244, 203] := by rw [ex_sum, ex_four]
theorem of_is {v : Value} {l : List UInt8} {w : World} {n : Nat} (he : sumN 0 l = n) (hl : l.length ≤ maxLen) (h : Hnd w v l) : Calls Try.prog 12 #[v] w (IntRet .u32 n w) := he ▸ of_any v l w hl h
theorem is_is {v1 v2 : Value} {l1 l2 : List UInt8} {w : World} (he : four (sumN 0 l1) = l2) (hl : l1.length ≤ maxLen) (h1 : Hnd w v1 l1) (h2 : Hnd w v2 l2) : Calls Try.prog 15 #[v1, v2] w (BoolRet true w) := by
  have := is_any v1 v2 l1 l2 w hl h1 h2
  rwa [decide_eq_true he] at this
set_option maxHeartbeats 400000 in
set_option maxRecDepth 100000 in
theorem awake_any (w : World) : Calls Try.prog 8 #[] w (TrueRet w) := by
  go_enter Try.func8, Try.ntmps8
  go_wp2_with fail
  have k := of_any _ [] w (by decide) (Hnd.nil0 w)
  rw [sumN_nil 0 (by decide)] at k
  refine k.mono ?_
  clear k
  rintro e w1 ⟨rfl, hb⟩
  have B1 := hide hb
  have s1 := hb.size
  have k := fun (w : World) (C : Array Value) (n c : Nat) => Lib.run_convert_bytes_const (P := Try.prog) w 22 5 C n c Try.underlying22 Try.underlying5
  clear hb
  go_wp2_with fail
  clear k
  refine (of_is ex_sum (by decide) (Hnd.newM w1 _ _ _ 9 9 rfl rfl)).mono ?_
  rintro e w2 ⟨rfl, hb⟩
  have B2 := hide ((B1.out.alloc s1 _).trans (hb.mono (by simp; omega)))
  have s2 := B2.out.size
  have k := fun (w : World) (C : Array Value) (n c : Nat) => Lib.run_convert_bytes_const (P := Try.prog) w 22 5 C n c Try.underlying22 Try.underlying5
  clear hb
  go_wp2_with fail
  clear k
  refine (is_is ex_is (by decide) ((Hnd.newM w2 _ _ _ 9 9 rfl rfl).below ((Below.refl _ _).alloc (Nat.le_refl _) _)) (Hnd.new1 _ _ _ _ 4 4 rfl rfl)).mono ?_
  rintro e w3 ⟨rfl, hb⟩
  have B3 := hide (((B2.out.alloc s2 _).alloc (by simp; omega) _).trans (hb.mono (by simp; omega)))
  clear hb
  go_wp2
  go_ret
  exact ⟨rfl, B3.out⟩
end Go.Proofs.Ytdflpciabdjhnaa
