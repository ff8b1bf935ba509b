/-
  Contracts of package op: the four ways in which two operations are held against each other, and Cmp, which takes them in turn. No conditions.
-/
import Derived.Test.YtimfeocaghccdaaGreatDoorOSmall
import Derived.Test.YtimfeocaghccdaaGreatDoorSTurn
import Derived.Test.YtimfeocaghccdaaGreatDoorShelf
import Derived.Shelf.Small.Strs
namespace Go.Proofs.YtimfeocaghccdaaGreatDoor
set_option maxRecDepth 100000
open Go.RowKit Go.Shelf
set_option linter.unusedVariables false

theorem byStamp_any (n r d t : Int) (l : List UInt8) (m s e u : Int) (k : List UInt8) (w : World) : Calls Tryz.prog 80 #[opv n r d t l, opv m s e u k] w (NumRet (stC n r m s) w) := by
  have K := hide (scmp_any n r m s)
  unfold st at K
  unfold opv
  go_enter Tryz.func80, Tryz.ntmps80
  go_wp2_with fail
  refine (K.out _).mono ?_
  rintro e w1 ⟨rfl, hb⟩
  go_wp2
  go_ret
  exact ⟨rfl, (below_two w _ _).trans (hb.mono (by simp; omega))⟩
theorem byNode_any (n r d t : Int) (l : List UInt8) (m s e u : Int) (k : List UInt8) (w : World) : Calls Tryz.prog 81 #[opv n r d t l, opv m s e u k] w (NumRet (cm d e) w) := by
  unfold opv
  go_enter Tryz.func81, Tryz.ntmps81
  go_wp2_with fail
  refine (compare_any d e _).mono ?_
  rintro e w1 ⟨rfl, rfl⟩
  go_wp2
  go_ret
  exact ⟨rfl, below_two w _ _⟩
theorem byTo_any (n r d t : Int) (l : List UInt8) (m s e u : Int) (k : List UInt8) (w : World) : Calls Tryz.prog 82 #[opv n r d t l, opv m s e u k] w (NumRet (cm t u) w) := by
  unfold opv
  go_enter Tryz.func82, Tryz.ntmps82
  go_wp2_with fail
  refine (compare_any t u _).mono ?_
  rintro e w1 ⟨rfl, rfl⟩
  go_wp2
  go_ret
  exact ⟨rfl, below_two w _ _⟩
theorem lib_compare (l k : List UInt8) (w : World) : Calls Tryz.prog 94 #[.string (bs l), .string (bs k)] w (fun e w' => e = .returned (.int .i64 (cN l k)) ∧ w' = w) := by
  have h := Any.strings_Compare Tryz.lays106 (bs l) (bs k) w
  rw [bs_data, bs_data] at h
  exact h
theorem byName_any (n r d t : Int) (l : List UInt8) (m s e u : Int) (k : List UInt8) (w : World) : Calls Tryz.prog 83 #[opv n r d t l, opv m s e u k] w (NumRet (cN l k) w) := by
  unfold opv
  go_enter Tryz.func83, Tryz.ntmps83
  go_wp2_with fail
  refine (lib_compare l k _).mono ?_
  rintro e w1 ⟨rfl, rfl⟩
  go_wp2
  go_ret
  exact ⟨rfl, below_two w _ _⟩
end Go.Proofs.YtimfeocaghccdaaGreatDoor
