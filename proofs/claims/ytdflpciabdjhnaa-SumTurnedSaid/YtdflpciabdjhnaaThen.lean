/-
  What sum.Then and Of give: the sum as a plain number; nothing that was there is changed. Conditions: the number is one of 32 bits; what is handed in can be read.
-/
import Derived.Test.YtdflpciabdjhnaaSumPure
namespace Go.Proofs.Ytdflpciabdjhnaa
open Go.RowKit
set_option linter.unusedVariables false

def tabA : Array Value := #[.int .u32 0, .int .u32 498536548, .int .u32 997073096, .int .u32 651767980, .int .u32 1994146192, .int .u32 1802195444, .int .u32 1303535960, .int .u32 1342533948, .int .u32 3988292384, .int .u32 4027552580, .int .u32 3604390888, .int .u32 3412177804, .int .u32 2607071920, .int .u32 2262029012, .int .u32 2685067896, .int .u32 3183342108]
theorem tab_at (i : Nat) (hi : i < 16) : tabA[i]? = some (.int .u32 (tabN i)) := by
  have : i = 0 ∨ i = 1 ∨ i = 2 ∨ i = 3 ∨ i = 4 ∨ i = 5 ∨ i = 6 ∨ i = 7 ∨ i = 8 ∨ i = 9 ∨ i = 10 ∨ i = 11 ∨ i = 12 ∨ i = 13 ∨ i = 14 ∨ i = 15 := by omega
  rcases this with h | h | h | h | h | h | h | h | h | h | h | h | h | h | h | h <;> subst h <;> rfl
theorem tab_cell (w : World) (t : TypeId) (i : Nat) (hi : i < 16) : (w.alloc (.cells tabA t)).cell? ⟨w.heap.size, i, none⟩ = some (.int .u32 (tabN i)) := by
  rw [cell_of_row _ w.heap.size i tabA _ (0, 0) (heap_alloc_new w _)]
  exact tab_at i hi

/-- After j bytes. -/
def ThenRel (s : Nat) (l : List UInt8) (a b : Value) : Prop :=
  ∃ j x : Nat, j ≤ l.length ∧ b = .int .i64 j ∧ a = .int .u32 x ∧ x < 4294967296 ∧ BitVec.ofNat 32 x = runB (BitVec.ofNat 32 (4294967295 - s)) (bitsL (l.take j))

set_option maxHeartbeats 1000000 in
set_option maxRecDepth 100000 in
theorem then_some (ad : Addr) (c s : Nat) (l : List UInt8) (w : World) (hs : s < 4294967296) (hl : l.length ≤ maxLen) (hc : ∀ j u, (bc l)[j]? = some u → w.cell? (ad.add j) = some u) :
    Calls Try.prog 11 #[.int .u32 s, .slice (some ad) l.length c] w (IntRet .u32 (sumN s l) w) := by
  have hm : maxLen = 9223372036854775807 := rfl
  have HC := hide hc
  have e0 := not_bits s hs
  clear hc
  go_enter Try.func11, Try.ntmps11
  go_wp2_with fail
  clear e0
  have hB := (Below.refl w.heap.size w).alloc (Nat.le_refl _) (.cells tabA 35)
  have hT := tab_cell w 35
  unfold tabA at hB hT
  revert hB hT
  generalize w.alloc (.cells #[.int .u32 0, .int .u32 498536548, .int .u32 997073096, .int .u32 651767980, .int .u32 1994146192, .int .u32 1802195444, .int .u32 1303535960, .int .u32 1342533948, .int .u32 3988292384, .int .u32 4027552580, .int .u32 3604390888, .int .u32 3412177804, .int .u32 2607071920, .int .u32 2262029012, .int .u32 2685067896, .int .u32 3183342108] 35) = W
  intro hB hT
  have HB := hide hB
  have HT := hide hT
  clear hB hT
  go_loop [6, 14] (ThenRel s l) (fun _ b => l.length - (intOf b).toNat)
  case atStart => exact ⟨0, 4294967295 - s, Nat.zero_le _, rfl, rfl, by omega, rfl⟩
  case round =>
    obtain ⟨j, x, hj, rfl, rfl, hx, he⟩ := hrel
    have HE := hide he
    clear he
    by_cases hlt : j < l.length
    · have hcell : W.cell? (ad.add j) = some (.int .u8 (l[j].toNat : Int)) := by
        have h0 := HC.out j (.int .u8 (l[j].toNat : Int)) (by simp [bc, hlt])
        exact (HB.out.cell (World.block_lt_of_cell? w _ h0)).trans h0
      have hb := l[j].toNat_lt
      obtain ⟨y1, h1⟩ : ∃ y, y = x ^^^ l[j].toNat := ⟨_, rfl⟩
      obtain ⟨y2, h2⟩ : ∃ y, y = y1 / 16 ^^^ tabN (y1 % 16) := ⟨_, rfl⟩
      obtain ⟨y3, h3⟩ : ∃ y, y = y2 / 16 ^^^ tabN (y2 % 16) := ⟨_, rfl⟩
      obtain ⟨hR, l1, l2, l3⟩ := run_byte x l[j] y1 y2 y3 hx h1 h2 h3
      have HR := hide hR
      have e1 := u32_xor_nat x l[j].toNat hx (by omega)
      have e2 := u32_xor_nat (y1 / 16) (tabN (y1 % 16)) (by omega) (tab_lt _ (by omega))
      have e3 := u32_xor_nat (y2 / 16) (tabN (y2 % 16)) (by omega) (tab_lt _ (by omega))
      have c1 := HT.out (y1 % 16) (by omega)
      have c2 := HT.out (y2 % 16) (by omega)
      rw [← h1] at e1
      rw [← h2, show ((y1 / 16 : Nat) : Int) = (y1 : Int) / 16 by omega] at e2
      rw [← h3, show ((y2 / 16 : Nat) : Int) = (y2 : Int) / 16 by omega] at e3
      clear h1 h2 h3 hR
      generalize tabN (y1 % 16) = t1 at c1 e2
      generalize tabN (y2 % 16) = t2 at c2 e3
      go_wp2_with fail
      go_round
      case rel =>
        refine ⟨j + 1, y3, by omega, by go_num, rfl, l3, ?_⟩
        rw [bitsL_take l j hlt, runB_append, ← HE.out, HR.out]
      case measure => simp [intOf]; omega
    · have e0 := not_bits x hx
      go_wp2
      go_ret
      refine ⟨ret_int ?_, HB.out⟩
      rw [sumN_end s x l hs hx (by rw [HE.out, List.take_of_length_le (by omega)])]

def NoneRel (s : Nat) (a b : Value) : Prop := b = .int .i64 0 ∧ a = .int .u32 ((4294967295 - s : Nat) : Int)
set_option maxHeartbeats 1000000 in
set_option maxRecDepth 100000 in
theorem then_none (s c : Nat) (w : World) (hs : s < 4294967296) : Calls Try.prog 11 #[.int .u32 s, .slice none 0 c] w (IntRet .u32 s w) := by
  have e0 := not_bits s hs
  go_enter Try.func11, Try.ntmps11
  go_wp2_with fail
  clear e0
  have HB := hide ((Below.refl w.heap.size w).alloc (Nat.le_refl _) (.cells tabA 35))
  have e1 := not_bits (4294967295 - s) (by omega)
  rw [show 4294967295 - (4294967295 - s) = s by omega] at e1
  go_loop [6, 14] (NoneRel s) (fun _ b => 0)
  case atStart => exact ⟨rfl, rfl⟩
  case round =>
    obtain ⟨rfl, rfl⟩ := hrel
    go_wp2
    go_ret
    exact ⟨rfl, HB.out⟩
theorem then_any (s : Nat) (v : Value) (l : List UInt8) (w : World) (hs : s < 4294967296) (hl : l.length ≤ maxLen) (h : Hnd w v l) : Calls Try.prog 11 #[.int .u32 s, v] w (IntRet .u32 (sumN s l) w) := by
  obtain ⟨A, c, rfl, h2, h3⟩ := h
  rcases A with _ | ad
  · have e := h2 rfl
    subst e
    rw [sumN_nil s hs]
    exact then_none s c w hs
  · exact then_some ad c s l w hs hl (h3 ad rfl)

theorem of_any (v : Value) (l : List UInt8) (w : World) (hl : l.length ≤ maxLen) (h : Hnd w v l) : Calls Try.prog 12 #[v] w (IntRet .u32 (sumN 0 l) w) := by
  have H := hide h
  have hlt := sumN_lt 0 l
  have HL := hide hl
  clear h hl
  go_enter Try.func12, Try.ntmps12
  go_wp2_with fail
  refine (then_any 0 v l w (by omega) HL.out H.out).mono ?_
  rintro e w1 ⟨rfl, hb⟩
  have HB := hide hb
  clear hb
  go_wp2
  go_ret
  exact ⟨rfl, HB.out⟩

end Go.Proofs.Ytdflpciabdjhnaa
