/-
  The chapter's examples hold: awake answers true, and changes nothing that was there. No conditions.
-/
import Derived.Test.YtainkbcjfhejmaaText
namespace Go.Proofs.Ytainkbcjfhejmaa
open Go.RowKit
set_option linter.unusedVariables false

/-- Bytes that were just laid out as a row. -/
theorem Hnd.new (w : World) (l : List UInt8) (cs : Array Value) (n c : Nat) (hn : l.length = n) (h : cs.toList = bc l) : Hnd (w.alloc (.cells cs 5)) (.slice (some ⟨w.heap.size, 0, none⟩) n c) l := by
  subst hn
  refine ⟨_, c, rfl, (by intro h; cases h), ?_⟩
  intro ad had j u hu
  injection had with had
  subst had
  rw [Addr.add_lit, Nat.zero_add, cell_of_row _ w.heap.size j cs _ (0, 0) (heap_alloc_new w _)]
  rw [← h] at hu
  simpa using hu

theorem rnum_ex : rNum 1000 [172, 2, 2, 97, 98] 0 = (300, [2, 97, 98], 0) := by decide
theorem rtxt_ex : rTxt 2 [2, 97, 98] 0 = (([97, 98], [], 0) : List UInt8 × List UInt8 × Nat) := by decide
theorem num_ex : bs (num 300) = ⟨#[172, 2]⟩ := by decide
theorem txt_ex : bs (txt (bs [97, 98]).data.toList) = ⟨#[2, 97, 98]⟩ := by decide

/-- What awake leaves. -/
def TrueRet (w : World) (e : Ending) (w' : World) : Prop := e = .returned (.bool true) ∧ Below w.heap.size w w'

set_option maxHeartbeats 2000000 in
set_option maxRecDepth 100000 in
theorem awake_any (w : World) : Calls Try.prog 9 #[] w (TrueRet w) := by
  go_enter Try.func9, Try.ntmps9
  go_wp2_with fail
  refine (new_any _ [172, 2, 2, 97, 98] _ (by decide) (Hnd.new w _ _ _ _ rfl rfl)).mono ?_
  rintro ed w1 ⟨g, rfl, hg, hrd, hb1⟩
  have R1 := hide hrd
  have B1 := hide (((Below.refl w.heap.size w).alloc (Nat.le_refl _) _).trans (hb1.mono (by simp)))
  have s1 := B1.out.size
  simp only [World.size_alloc] at hg
  clear hrd hb1
  go_wp2_with fail
  have k1 := number_any g 0 _ 1000 w1 R1.out
  rw [rnum_ex] at k1
  refine k1.mono ?_
  clear k1
  rintro ed w2 ⟨rfl, hrd, ho⟩
  have R2 := hide hrd
  have B2 := hide (Only.below B1.out ho s1 (by omega))
  have s2 := B2.out.size
  clear hrd ho R1 B1
  go_wp2_with fail
  have k1 := text_any g 0 _ 2 w2 R2.out
  rw [rtxt_ex, show bs ((([97, 98], [], 0) : List UInt8 × List UInt8 × Nat)).1 = ⟨#[97, 98]⟩ from rfl] at k1
  refine k1.mono ?_
  clear k1
  rintro ed w3 ⟨rfl, hrd, ho⟩
  have R3 := hide hrd
  have B3 := hide (Only.below B2.out ho s2 (by omega))
  have s3 := B3.out.size
  clear hrd ho R2 B2
  go_wp2_with fail
  refine (num_any 300 w3).mono ?_
  rintro ed w4 ⟨v4, rfl, hown, hb⟩
  have R4 := hide (R3.out.below hb)
  have B4 := hide (B3.out.trans (hb.mono s3))
  have s4 := B4.out.size
  have hcv := conv_any w4 v4 _ (RSl.of_own hown)
  rw [num_ex] at hcv
  clear hown hb R3 B3
  go_wp2_with fail
  clear hcv
  refine (Text_any (bs [97, 98]) w4).mono ?_
  rintro ed w5 ⟨v5, rfl, hown, hb⟩
  have R5 := hide (R4.out.below hb)
  have B5 := hide (B4.out.trans (hb.mono s4))
  have s5 := B5.out.size
  have hcv := conv_any w5 v5 _ (RSl.of_own hown)
  rw [txt_ex] at hcv
  clear hown hb R4 B4
  go_wp2_with fail
  refine (left_any g 0 _ w5 R5.out).mono ?_
  rintro ed w6 ⟨rfl, rfl⟩
  go_wp2_with fail
  refine (err_any g 0 _ w5 R5.out).mono ?_
  rintro ed w6 ⟨rfl, rfl⟩
  go_wp2
  go_ret
  exact ⟨rfl, B5.out⟩
end Go.Proofs.Ytainkbcjfhejmaa
