/-
  Contracts of package op: the four ways in which two operations are held against each other, and Cmp, which takes them in turn. No conditions.
-/
import Derived.Test.YtjgnneajpkhppaaDoorOSmall
import Derived.Test.YtjgnneajpkhppaaDoorSTurn
import Derived.Test.YtjgnneajpkhppaaDoorShelf
import Derived.Shelf.Small.Strs
namespace Go.Proofs.YtjgnneajpkhppaaDoor
open Go.RowKit Go.Shelf
set_option linter.unusedVariables false

theorem below_two (w : World) (a b : Obj) : Below w.heap.size w ((w.alloc a).alloc b) := ((Below.refl w.heap.size w).alloc (Nat.le_refl _) a).alloc (by simp) b
theorem byStamp_any (n r d t : Int) (l : List UInt8) (m s e u : Int) (k : List UInt8) (w : World) : Calls Tryd.prog 29 #[opv n r d t l, opv m s e u k] w (NumRet (stC n r m s) w) := by
  have K := hide (scmp_any n r m s)
  unfold st at K
  unfold opv
  go_enter Tryd.func29, Tryd.ntmps29
  go_wp2_with fail
  refine (K.out _).mono ?_
  rintro e w1 ⟨rfl, hb⟩
  go_wp2
  go_ret
  exact ⟨rfl, (below_two w _ _).trans (hb.mono (by simp; omega))⟩
theorem byNode_any (n r d t : Int) (l : List UInt8) (m s e u : Int) (k : List UInt8) (w : World) : Calls Tryd.prog 30 #[opv n r d t l, opv m s e u k] w (NumRet (cm d e) w) := by
  unfold opv
  go_enter Tryd.func30, Tryd.ntmps30
  go_wp2_with fail
  refine (compare_any d e _).mono ?_
  rintro e w1 ⟨rfl, rfl⟩
  go_wp2
  go_ret
  exact ⟨rfl, below_two w _ _⟩
theorem byTo_any (n r d t : Int) (l : List UInt8) (m s e u : Int) (k : List UInt8) (w : World) : Calls Tryd.prog 31 #[opv n r d t l, opv m s e u k] w (NumRet (cm t u) w) := by
  unfold opv
  go_enter Tryd.func31, Tryd.ntmps31
  go_wp2_with fail
  refine (compare_any t u _).mono ?_
  rintro e w1 ⟨rfl, rfl⟩
  go_wp2
  go_ret
  exact ⟨rfl, below_two w _ _⟩
theorem lib_compare (l k : List UInt8) (w : World) : Calls Tryd.prog 51 #[.string (bs l), .string (bs k)] w (fun e w' => e = .returned (.int .i64 (cN l k)) ∧ w' = w) := by
  have h := Any.strings_Compare Tryd.lays106 (bs l) (bs k) w
  rw [bs_data, bs_data] at h
  exact h
theorem byName_any (n r d t : Int) (l : List UInt8) (m s e u : Int) (k : List UInt8) (w : World) : Calls Tryd.prog 32 #[opv n r d t l, opv m s e u k] w (NumRet (cN l k) w) := by
  unfold opv
  go_enter Tryd.func32, Tryd.ntmps32
  go_wp2_with fail
  refine (lib_compare l k _).mono ?_
  rintro e w1 ⟨rfl, rfl⟩
  go_wp2
  go_ret
  exact ⟨rfl, below_two w _ _⟩
end Go.Proofs.YtjgnneajpkhppaaDoor
