/-
  What pack.Number and pack.Text give: a new row of bytes, the form; nothing that was there is changed. No conditions beyond the texts' sizes.
-/
import Derived.Test.YtjgnneajpkhppaaDoorBits
import Derived.Lib.AppendStr
namespace Go.Proofs.YtjgnneajpkhppaaDoor
open Go.RowKit

/-- After k rounds: the first k bytes are written, m is left. -/
def NumRel (w : World) (n : Nat) (a f c : Value) (wr : World) : Prop :=
  ∃ (k m : Nat) (l : List UInt8), k ≤ ext n ∧ a = .int .i64 m ∧ c = .int .i64 k ∧ m ≤ 4294967295 ∧ wr.ownsRow w.heap.size 5 1 f l.length (bc l) ∧ Below w.heap.size w wr ∧ l ++ formX (ext n - k) m = form n ∧ l.length = k

set_option maxHeartbeats 1000000 in
set_option maxRecDepth 100000 in
theorem num_yes (n : Nat) (w : World) (h : n ≤ 4294967295) :
    Calls Tryd.prog 35 #[.int .i64 n] w fun e w' => ∃ v, e = .returned v ∧ w'.ownsRow w.heap.size 5 1 v (form n).length (bc (form n)) ∧ Below w.heap.size w w' := by
  obtain ⟨i0, hi0, hz0, hz1, hz2⟩ := info_parts u8info
  have hxl := ext_le n
  have d0 : decide ((n : Int) < 0) = false := by simp
  have d1 : decide (4294967295 < (n : Int)) = false := by simp; omega
  go_enter Tryd.func35, Tryd.ntmps35
  go_wp2_with fail
  refine (ahead_any _ _ (by omega) (by omega)).mono ?_
  rintro e w' ⟨rfl, rfl⟩
  rw [Int.toNat_natCast]
  go_wp2_with fail
  go_loopw [0, 3, 12] (NumRel w n) (fun _ _ c _ => ext n - (intOf c).toNat)
  case atStart => exact ⟨0, n, [], Nat.zero_le _, rfl, rfl, h, World.ownsRow_nil _ _ _ _, Below.refl _ _, by simp [form], rfl⟩
  case round =>
    obtain ⟨k, m, l, hk, rfl, rfl, hm, hown, hbel, heq, hlen⟩ := hrel
    have Heq := hide heq; clear heq
    have Hlen := hide hlen
    have hl4 : l.length ≤ 4 := by omega
    clear hlen
    have hsz := hbel.size
    by_cases hlt : k < ext n
    · go_wp2_with (at_builtin; refine wpList_append_own _ rfl _ _ 33 rfl w.heap.size 5 i0 (.int .u8 0) 1 1 Tryd.underlying33 hi0 hz0 hz1 hz2 rfl (by decide) _ _ _ rfl (hown.alloc _) _ _ _ (bc [b8 (m % 128 + 128)]) rfl ?a1 ?a2 ?a3 ?a4 ?a5 ?a6 ?_)
      case a1 => rfl
      case a2 => exact cell_new1 _ _ _ (by rw [b8_toNat _ (by omega)]; omega)
      case a3 => exact bc_one _
      case a4 => simp only [maxLen]; omega
      case a5 => omega
      case a6 => simp; omega
      intro v1 w1 hown1 hg1 hn1
      go_wp2_with fail
      go_roundw
      case rel =>
        refine ⟨k + 1, m / 128, l ++ [b8 (m % 128 + 128)], by omega, by go_num, by go_num, by omega, ?_, ?_, ?_, ?_⟩
        · rw [bc_append, List.length_append]; exact hown1
        · exact (hbel.alloc hsz _).grown hg1 (by simp; omega) (fun q hq => (hown.lt q hq).1)
        · rw [← Heq.out, show ext n - k = (ext n - (k + 1)) + 1 by omega]
          simp [formX]
        · simp [Hlen.out]
      case measure => simp [intOf]; omega
    · go_wp2_with (at_builtin; refine wpList_append_own _ rfl _ _ 33 rfl w.heap.size 5 i0 (.int .u8 0) 1 1 Tryd.underlying33 hi0 hz0 hz1 hz2 rfl (by decide) _ _ _ rfl (hown.alloc _) _ _ _ (bc [b8 m]) rfl ?b1 ?b2 ?b3 ?b4 ?b5 ?b6 ?_)
      case b1 => rfl
      case b2 => exact cell_new1 _ _ _ (by rw [b8_mod]; omega)
      case b3 => exact bc_one _
      case b4 => simp only [maxLen]; omega
      case b5 => omega
      case b6 => simp; omega
      intro v1 w1 hown1 hg1 hn1
      go_wp2
      go_ret
      have he : l ++ [b8 m] = form n := by rw [← Heq.out, show ext n - k = 0 by omega]; rfl
      refine ⟨v1, rfl, ?_, ?_⟩
      · rw [← he, bc_append, List.length_append]; exact hown1
      · exact (hbel.alloc hsz _).grown hg1 (by simp; omega) (fun q hq => (hown.lt q hq).1)

set_option maxHeartbeats 400000 in
theorem num_no (n : Int) (w : World) (h : n < 0 ∨ 4294967295 < n) :
    Calls Tryd.prog 35 #[.int .i64 n] w (OwnRet w []) := by
  rcases h with h | h
  · go_enter Tryd.func35, Tryd.ntmps35
    go_wp2
    go_ret
    exact ⟨_, rfl, World.ownsRow_nil _ _ _ _, Below.refl _ _⟩
  · have h0 : ¬ n < 0 := by omega
    go_enter Tryd.func35, Tryd.ntmps35
    go_wp2
    go_ret
    exact ⟨_, rfl, World.ownsRow_nil _ _ _ _, Below.refl _ _⟩

theorem num_any (n : Int) (w : World) : Calls Tryd.prog 35 #[.int .i64 n] w (OwnRet w (num n)) := by
  by_cases h : n < 0 ∨ 4294967295 < n
  · rw [num_out n h]; exact num_no n w h
  · obtain ⟨k, rfl⟩ := Int.eq_ofNat_of_zero_le (show 0 ≤ n by omega)
    rw [num_in _ (by omega) (by omega), Int.toNat_natCast]
    exact num_yes k w (by omega)

theorem Text_no (s : ByteArray) (w : World) (h : 4096 < s.size) :
    Calls Tryd.prog 36 #[.string s] w (OwnRet w []) := by
  go_enter Tryd.func36, Tryd.ntmps36
  go_wp2
  go_ret
  exact ⟨_, rfl, World.ownsRow_nil _ _ _ _, Below.refl _ _⟩

set_option maxHeartbeats 1000000 in
theorem Text_yes (s : ByteArray) (w : World) (h : s.size ≤ 4096) :
    Calls Tryd.prog 36 #[.string s] w (OwnRet w (form s.size ++ s.data.toList)) := by
  obtain ⟨i0, hi0, hz0, hz1, hz2⟩ := info_parts u8info
  have hfl := form_length s.size
  have hxl := ext_le s.size
  have hf5 : (form s.size).length ≤ 5 := by omega
  clear hfl
  go_enter Tryd.func36, Tryd.ntmps36
  go_wp2_with fail
  refine (num_yes _ _ (by omega)).mono ?_
  rintro e w' ⟨v, rfl, hown, hbel⟩
  have hsz := hbel.size
  go_wp2_with (at_builtin; refine Lib.wpList_append_own_string _ rfl _ _ 33 9 rfl w.heap.size 5 i0 Tryd.underlying33 Tryd.underlying9 hi0 hz0 hz1 hz2 _ _ _ rfl hown _ rfl ?a1 ?a2 ?a3 ?_)
  case a1 => simp only [maxLen]; omega
  case a2 => omega
  case a3 => exact hsz
  intro v1 w1 hown1 hg1 hn1
  go_wp2
  go_ret
  refine ⟨v1, rfl, ?_, ?_⟩
  · rw [bc_append, List.length_append]
    exact hown1
  · exact hbel.grown hg1 hsz (fun q hq => (hown.lt q hq).1)

theorem Text_any (s : ByteArray) (w : World) : Calls Tryd.prog 36 #[.string s] w (OwnRet w (txt s.data.toList)) := by
  have hl : s.data.toList.length = s.size := by simp
  by_cases h : 4096 < s.size
  · rw [txt_out _ (by omega)]; exact Text_no s w h
  · rw [txt_in _ (by omega), hl]; exact Text_yes s w (by omega)
end Go.Proofs.YtjgnneajpkhppaaDoor
