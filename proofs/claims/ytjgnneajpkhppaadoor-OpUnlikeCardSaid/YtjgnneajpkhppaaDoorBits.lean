/-
  What bits.Len and pack.ahead give for a number below 2 to the 32nd: how many bytes a number's form has ahead of its last one. No condition but that bound.
-/
import Derived.Test.YtjgnneajpkhppaaDoorRows
import Derived.Test.YtjgnneajpkhppaaDoorPure
import Derived.WalkKit
import Derived.WalkSpells
import Derived.WalkLawsBesides
namespace Go.Proofs.YtjgnneajpkhppaaDoor
open Go.RowKit

theorem len_close0 (t i : Nat) (ht : t = bitLen i) (hi : i < 256) : wrap64 (wrap64 (t : Int)) = (bitLen i : Int) := by
  have := bitLen_le8 i hi
  rw [wrap64_in (t : Int) (by omega) (by omega), wrap64_in _ (by omega) (by omega), ht]
theorem len_close (k : Int) (x b t i : Nat) (ht : t = bitLen i) (hi : i < 256) (hk : k = (b : Int)) (hb : b ≤ 24) (he : x / 2 ^ b = i) (h0 : i ≠ 0) :
    wrap64 (k + wrap64 (t : Int)) = (bitLen x : Int) := by
  have := bitLen_le8 i hi
  rw [wrap64_in (t : Int) (by omega) (by omega), wrap64_in _ (by omega) (by omega), bitLen_shift x b (by rw [he]; exact h0), he, ht, hk]
  omega

set_option maxHeartbeats 1000000 in
set_option maxRecDepth 100000 in
theorem len64_any (x : Int) (w : World) (h0 : 0 ≤ x) (h1 : x < 4294967296) :
    Calls Tryd.prog 64 #[.int .u64 x] w fun e w' => e = .returned (.int .i64 (bitLen x.toNat)) ∧ w = w' := by
  by_cases c1 : x < 65536
  · by_cases c2 : x < 256
    · go_enter Tryd.func64, Tryd.ntmps64
      go_wp2
      go_ret
      exact ⟨ret_int (len_close0 _ _ (len8tab_get _ _) (by omega)), rfl⟩
    · go_enter Tryd.func64, Tryd.ntmps64
      go_wp2
      go_ret
      exact ⟨ret_int (len_close _ _ 8 _ _ (len8tab_get _ _) (by omega) rfl (by omega) (by omega) (by omega)), rfl⟩
  · by_cases c2 : x < 16777216
    · go_enter Tryd.func64, Tryd.ntmps64
      go_wp2
      go_ret
      exact ⟨ret_int (len_close _ _ 16 _ _ (len8tab_get _ _) (by omega) rfl (by omega) (by omega) (by omega)), rfl⟩
    · go_enter Tryd.func64, Tryd.ntmps64
      go_wp2
      go_ret
      exact ⟨ret_int (len_close _ _ 24 _ _ (len8tab_get _ _) (by omega) rfl (by omega) (by omega) (by omega)), rfl⟩


theorem bitLen_gt (n k : Nat) (h : 2 ^ k ≤ n) : k < bitLen n := by
  have hs := (bitLen_spec n).1
  rcases Nat.lt_or_ge k (bitLen n) with h' | h'
  · exact h'
  · have := Nat.pow_le_pow_right (show 0 < 2 by omega) h'
    omega
theorem bitLen_le (n k : Nat) (h : n < 2 ^ k) : bitLen n ≤ k := by
  rcases Nat.lt_or_ge k (bitLen n) with h' | h'
  · have h0 : n ≠ 0 := by
      rintro rfl
      simp [bitLen] at h'
    have hs := (bitLen_spec n).2 h0
    have := Nat.pow_le_pow_right (show 0 < 2 by omega) (show k ≤ bitLen n - 1 by omega)
    omega
  · exact h'
theorem ext_eq (n : Nat) (h : n < 4294967296) : (bitLen n - 1) / 7 = ext n := by
  have l7 := bitLen_le n 7; have g7 := bitLen_gt n 7; have l14 := bitLen_le n 14; have g14 := bitLen_gt n 14
  have l21 := bitLen_le n 21; have g21 := bitLen_gt n 21; have l28 := bitLen_le n 28; have g28 := bitLen_gt n 28
  have l32 := bitLen_le n 32
  unfold ext
  split
  · omega
  · split
    · omega
    · split
      · omega
      · split <;> omega

set_option maxHeartbeats 1000000 in
theorem len_any (x : Int) (w : World) (h0 : 0 ≤ x) (h1 : x < 4294967296) :
    Calls Tryd.prog 61 #[.int .u64 x] w fun e w' => e = .returned (.int .i64 (bitLen x.toNat)) ∧ w = w' := by
  go_enter Tryd.func61, Tryd.ntmps61
  go_wp2_with fail
  refine (len64_any _ _ h0 h1).mono ?_
  rintro e w' ⟨rfl, rfl⟩
  go_wp2
  go_ret
  exact ⟨rfl, rfl⟩

set_option maxHeartbeats 1000000 in
theorem ahead_any (n : Int) (w : World) (h0 : 0 ≤ n) (h1 : n < 4294967296) :
    Calls Tryd.prog 53 #[.int .i64 n] w fun e w' => e = .returned (.int .i64 (ext n.toNat)) ∧ w = w' := by
  have hb := bitLen_le n.toNat 32 (by omega)
  have he := hide (ext_eq n.toNat (by omega))
  go_enter Tryd.func53, Tryd.ntmps53
  go_wp2_with fail
  refine (len_any _ _ h0 h1).mono ?_
  rintro e w' ⟨rfl, rfl⟩
  go_wp2
  all_goals (go_ret; exact ⟨ret_int (by have := he.out; omega), rfl⟩)
end Go.Proofs.YtjgnneajpkhppaaDoor
