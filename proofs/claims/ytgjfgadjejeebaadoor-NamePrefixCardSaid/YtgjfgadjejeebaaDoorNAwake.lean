/-
  The chapter's examples come out as the chapter says. Conditions: Env (the library's variables).
-/
import Derived.Test.YtgjfgadjejeebaaDoorNRefSplit
namespace Go.Proofs.YtgjfgadjejeebaaDoor
open Go.RowKit Go.Shelf
set_option linter.unusedVariables false

theorem Tx.new (w : World) (ls : List (List UInt8)) (cs : Array Value) (n : Nat) (hn : ls.length = n) (hm : n ≤ maxLen) (h : cs = tc ls) : Tx (w.alloc (.cells cs 9)) (.slice (some ⟨w.heap.size, 0, none⟩) n n) ls := by
  subst hn h
  refine ⟨_, _, rfl, Nat.le_refl _, hm, .inr ⟨_, _, rfl, fun j hj => ?_⟩⟩
  rw [Nat.zero_add, cell_of_row _ w.heap.size j (tc ls) _ (0, 0) (heap_alloc_new w _)]
  exact tc_get ls j hj
theorem ex_split : splitP [47, 97, 47, 98, 99] = some [[97], [98, 99]] := by decide
theorem ex_cut : cutP [47, 97, 47, 98, 99] = some ([47, 97], [98, 99]) := by decide
theorem ex_none : splitP [47, 97, 47] = none := by decide
set_option maxHeartbeats 2000000 in
set_option maxRecDepth 100000 in
theorem awake_any (w : World) (hE : Env w) : Calls Tryd.prog 9 #[] w (TrueRet w) := by
  have hm : maxLen = 9223372036854775807 := rfl
  have EN := hide hE
  clear hE
  go_enter Tryd.func9, Tryd.ntmps9
  go_wp2_with fail
  have k1 := split_any [47, 97, 47, 98, 99] w (by decide) EN.out
  rw [ex_split] at k1
  refine (show Calls Tryd.prog 10 #[.string { data := #[47, 97, 47, 98, 99] }] w _ from k1).mono ?_
  rintro e w1 ⟨v1, rfl, htx, hb⟩
  have T1 := hide (show Tx w1 v1 [[97], [98, 99]] from htx)
  have B1 := hide hb
  have s1 := hb.size
  clear htx hb k1
  rw [errN_some]
  go_wp2_with fail
  have k2 := cut_any [47, 97, 47, 98, 99] w1 (by decide) (EN.out.below B1.out)
  rw [ex_cut] at k2
  refine (show Calls Tryd.prog 17 #[.string { data := #[47, 97, 47, 98, 99] }] w1 _ from k2).mono ?_
  rintro e w2 ⟨rfl, hb⟩
  have T2 := hide (T1.out.below hb)
  have B2 := hide (B1.out.trans (hb.mono s1))
  have s2 := B2.out.size
  clear hb k2 T1 B1 s1
  rw [errN_some]
  go_wp2_with fail
  have k3 := split_any [47, 97, 47] w2 (by decide) (EN.out.below B2.out)
  rw [ex_none] at k3
  refine (show Calls Tryd.prog 10 #[.string { data := #[47, 97, 47] }] w2 _ from k3).mono ?_
  rintro e w3 ⟨v3, rfl, htx, hb⟩
  have T3 := hide (T2.out.below hb)
  have B3 := hide (B2.out.trans (hb.mono s2))
  have s3 := B3.out.size
  clear hb htx k3 T2 B2 s2
  rw [errN_none]
  go_wp2_with fail
  have hbn : Below w3.heap.size w3 (w3.alloc (.cells #[.string { data := #[97] }, .string { data := #[98, 99] }] 9)) := (Below.refl _ _).alloc (Nat.le_refl _) _
  have k4 := texts_any v1 _ [[97], [98, 99]] [[97], [98, 99]] _ (T3.out.below hbn) (Tx.new w3 [[97], [98, 99]] #[.string { data := #[97] }, .string { data := #[98, 99] }] 2 rfl (by decide) rfl)
  rw [decide_eq_true rfl] at k4
  refine k4.mono ?_
  rintro e w4 ⟨rfl, hb⟩
  have B4 := hide (B3.out.trans ((hbn.trans (hb.mono hbn.size)).mono s3))
  have s4 := B4.out.size
  clear hb hbn k4 T3 B3 s3
  have q1 : ((bs [47, 97]).toList == [47, 97]) = true := by rw [bs_list]; rfl
  have q2 : ((bs [98, 99]).toList == [98, 99]) = true := by rw [bs_list]; rfl
  go_wp2_with fail
  have k5 := right_any [97] w4 (by decide) (EN.out.below B4.out)
  rw [show right [97] = true by decide] at k5
  refine (show Calls Tryd.prog 12 #[.string { data := #[97] }] w4 _ from k5).mono ?_
  rintro e w5 ⟨rfl, hb⟩
  have B5 := hide (B4.out.trans (hb.mono s4))
  have s5 := B5.out.size
  clear hb k5 B4 s4
  go_wp2_with fail
  have k6 := right_any [] w5 (by decide) (EN.out.below B5.out)
  rw [show right [] = false by decide] at k6
  refine (show Calls Tryd.prog 12 #[.string { data := #[] }] w5 _ from k6).mono ?_
  rintro e w6 ⟨rfl, hb⟩
  have B6 := hide (B5.out.trans (hb.mono s5))
  clear hb k6 B5 s5
  go_wp2
  go_ret
  exact ⟨rfl, B6.out⟩
end Go.Proofs.YtgjfgadjejeebaaDoor
