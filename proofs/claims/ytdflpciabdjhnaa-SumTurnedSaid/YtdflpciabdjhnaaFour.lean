/-
  What sum.Four, sum.Is, bytes.Equal and the document's functions of layer 2 give; nothing that was there is changed. Conditions: the number is one of 32 bits; what is handed in can be read.
-/
import Derived.Test.YtdflpciabdjhnaaThen
namespace Go.Proofs.Ytdflpciabdjhnaa
open Go.RowKit
set_option linter.unusedVariables false

/-- The four bytes of a number. -/
def four (s : Nat) : List UInt8 := [b8 s, b8 (s / 256), b8 (s / 65536), b8 (s / 16777216)]
theorem four_length (s : Nat) : (four s).length = 4 := rfl
theorem own_newL (w : World) (B : Nat) (hB : B ≤ w.heap.size) (l : List UInt8) (cs : Array Value) (n : Nat) (hn : l.length = n) (hm : n ≤ maxLen) (h : cs.toList = bc l) :
    (w.alloc (.cells cs 5)).ownsRow B 5 1 (.slice (some ⟨w.heap.size, 0, none⟩) n n) n (bc l) := by
  subst hn
  have hz : cs.size = l.length := by rw [← Array.length_toList, h, bc_length]
  exact ⟨by simp [bc_length], .inr ⟨w.heap.size, l.length, _, rfl, hB, heap_alloc_new w _, Nat.le_refl _, hm, by simp [hz], by rw [← h]; exact List.take_of_length_le (by simp [hz])⟩⟩
set_option maxHeartbeats 1000000 in
theorem Four_any (s : Nat) (w : World) (hs : s < 4294967296) : Calls Try.prog 14 #[.int .u32 s] w (OwnRet w (four s)) := by
  go_enter Try.func14, Try.ntmps14
  go_wp2
  go_ret
  refine ⟨_, rfl, own_newL w _ (Nat.le_refl _) (four s) _ 4 rfl (by decide) ?_, (Below.refl _ _).alloc (Nat.le_refl _) _⟩
  simp only [four, bc, List.map, b8_mod]
  simp
  omega

theorem bs_eq (l1 l2 : List UInt8) : ((bs l1).toList == (bs l2).toList) = decide (l1 = l2) := by
  rw [ByteArray.toList_eq, ByteArray.toList_eq]
  simp only [bs]
  by_cases h : l1 = l2 <;> simp [h]
theorem ret_bool {a b : Bool} (h : a = b) : Ending.returned (.bool a) = .returned (.bool b) := by rw [h]
theorem equal_any (v1 v2 : Value) (l1 l2 : List UInt8) (w : World) (h1 : Hnd w v1 l1) (h2 : Hnd w v2 l2) : Calls Try.prog 16 #[v1, v2] w (BoolRet (decide (l1 = l2)) w) := by
  have c1 := conv_hnd h1
  have c2 := conv_hnd h2
  clear h1 h2
  go_enter Try.func16, Try.ntmps16
  go_wp2
  go_ret
  exact ⟨ret_bool (bs_eq l1 l2), Below.refl _ _⟩
theorem same_any (v1 v2 : Value) (l1 l2 : List UInt8) (w : World) (h1 : Hnd w v1 l1) (h2 : Hnd w v2 l2) : Calls Try.prog 13 #[v1, v2] w (BoolRet (decide (l1 = l2)) w) := by
  have c1 := conv_hnd h1
  have c2 := conv_hnd h2
  clear h1 h2
  go_enter Try.func13, Try.ntmps13
  go_wp2
  go_ret
  exact ⟨ret_bool (bs_eq l1 l2), Below.refl _ _⟩
set_option maxHeartbeats 1000000 in
theorem is_any (v1 v2 : Value) (l1 l2 : List UInt8) (w : World) (hl : l1.length ≤ maxLen) (h1 : Hnd w v1 l1) (h2 : Hnd w v2 l2) : Calls Try.prog 15 #[v1, v2] w (BoolRet (decide (four (sumN 0 l1) = l2)) w) := by
  have H1 := hide h1
  have H2 := hide h2
  have hlt := sumN_lt 0 l1
  have HL := hide hl
  clear h1 h2 hl
  go_enter Try.func15, Try.ntmps15
  go_wp2_with fail
  refine (of_any v1 l1 w HL.out H1.out).mono ?_
  rintro e w1 ⟨rfl, hb⟩
  have B1 := hide hb
  have H3 := hide (H2.out.below hb)
  clear hb
  go_wp2_with fail
  refine (Four_any (sumN 0 l1) w1 hlt).mono ?_
  rintro e w2 ⟨v, rfl, hown, hb⟩
  have B2 := hide (B1.out.trans (hb.mono B1.out.size))
  have H4 := hide (H3.out.below hb)
  have H5 := hide (Hnd.of_RSl (RSl.of_own hown))
  clear hb hown
  go_wp2_with fail
  refine (equal_any v v2 _ _ w2 H5.out H4.out).mono ?_
  rintro e w3 ⟨rfl, hb⟩
  have B3 := hide (B2.out.trans (hb.mono B2.out.size))
  clear hb
  go_wp2
  go_ret
  exact ⟨rfl, B3.out⟩
set_option maxHeartbeats 1000000 in
theorem refFour_any (s : Nat) (w : World) (hs : s < 4294967296) : Calls Try.prog 9 #[.int .u32 s] w (OwnRet w (four s)) := by
  go_enter Try.func9, Try.ntmps9
  go_wp2
  go_ret
  refine ⟨_, rfl, own_newL w _ (Nat.le_refl _) (four s) _ 4 rfl (by decide) ?_, (Below.refl _ _).alloc (Nat.le_refl _) _⟩
  simp only [four, bc, List.map, b8_mod]
  simp
  omega
end Go.Proofs.Ytdflpciabdjhnaa
