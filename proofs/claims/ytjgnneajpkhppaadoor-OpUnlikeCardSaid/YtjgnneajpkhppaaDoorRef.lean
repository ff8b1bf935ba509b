/-
  What the document's own functions of layer 1 give (holtref01.Number, Text, Same): the same forms; nothing that was there is changed. No conditions beyond the texts' sizes.
-/
import Derived.Test.YtjgnneajpkhppaaDoorText
import Derived.Lib.ConvBytes
namespace Go.Proofs.YtjgnneajpkhppaaDoor
open Go.RowKit
set_option linter.unusedVariables false

theorem refnum_no (n : Int) (w : World) (h : n < 0 ∨ 4294967295 < n) :
    Calls Tryd.prog 37 #[.int .i64 n] w (OwnRet w []) := by
  rcases h with h | h
  · go_enter Tryd.func37, Tryd.ntmps37
    go_wp2_with fail
    go_ret
    exact ⟨_, rfl, World.ownsRow_nil _ _ _ _, Below.refl _ _⟩
  · have h0 : ¬ n < 0 := by omega
    go_enter Tryd.func37, Tryd.ntmps37
    go_wp2_with fail
    go_ret
    exact ⟨_, rfl, World.ownsRow_nil _ _ _ _, Below.refl _ _⟩

set_option maxHeartbeats 1000000 in
set_option maxRecDepth 100000 in
theorem refnum_yes (j : Nat) : ∀ (n : Nat) (w : World), ext n = j → n < 4294967296 →
    Calls Tryd.prog 37 #[.int .i64 n] w (OwnRet w (form n)) := by
  obtain ⟨i0, hi0, hz0, hz1, hz2⟩ := info_parts u8info
  induction j with
  | zero =>
    intro n w hj hn
    have h128 : n < 128 := by
      rcases Nat.lt_or_ge n 128 with h | h
      · exact h
      · rw [ext_big n h (by omega)] at hj; omega
    have HF := hide (form_small n h128)
    clear hj
    go_enter Tryd.func37, Tryd.ntmps37
    go_wp2_with fail
    go_ret
    rw [HF.out]
    exact ⟨_, rfl, own_new1 w _ (Nat.le_refl _) _ _ (by rw [b8_mod]; omega), (Below.refl _ _).alloc (Nat.le_refl _) _⟩
  | succ j ih =>
    intro n w hj hn
    have h128 : 128 ≤ n := by
      rcases Nat.lt_or_ge n 128 with h | h
      · rw [ext_small n h] at hj; omega
      · exact h
    have hb := ext_big n h128 (by omega)
    have hj2 : ext (n / 128) = j := by omega
    have HF := hide (form_big n h128 (by omega))
    have IH := hide (fun w => ih (n / 128) w hj2 (by omega))
    have hfl := form_length (n / 128)
    have hel := ext_le (n / 128)
    have hpos : 0 < (form (n / 128)).length := by omega
    have h5 : (form (n / 128)).length ≤ 5 := by omega
    clear hj hb hj2 ih hfl hel
    go_enter Tryd.func37, Tryd.ntmps37
    go_wp2_with fail
    refine (IH.out _).mono ?_
    rintro e w1 ⟨v1, rfl, hown, hbel⟩
    obtain ⟨g, cap, rfl, hg, hcells⟩ := own_some hown hpos
    have HC := hide hcells
    have hsz := hbel.size
    simp only [World.size_alloc] at hsz hg
    have HB := hide (((Below.refl w.heap.size w).alloc (Nat.le_refl _) _).trans (hbel.mono (by simp)))
    have HO := hide (own_below (own_new1 w w.heap.size (Nat.le_refl _) ((n : Int) % 128 + 128) (b8 (n % 128 + 128)) (by rw [b8_toNat _ (by omega)]; omega)) hbel)
    clear hown hbel hcells
    go_wp2_with (at_builtin; refine wpList_append_own _ rfl _ _ 33 rfl w.heap.size 5 i0 (.int .u8 0) 1 1 Tryd.underlying33 hi0 hz0 hz1 hz2 rfl (by decide) _ _ _ rfl HO.out _ _ _ (bc (form (n / 128))) rfl ?a1 ?a2 ?a3 ?a4 ?a5 ?a6 ?_)
    case a1 => simp [bc_length]
    case a2 => exact HC.out
    case a3 => exact bc_one _
    case a4 => simp only [maxLen]; omega
    case a5 => omega
    case a6 => omega
    intro v2 w2 hown2 hg2 hn2
    go_wp2_with fail
    go_ret
    rw [HF.out]
    refine ⟨v2, rfl, ?_, HB.out.grown hg2 (by omega) (fun k hk => by simp [Value.ownBlock] at hk; omega)⟩
    rw [show b8 (n % 128 + 128) :: form (n / 128) = [b8 (n % 128 + 128)] ++ form (n / 128) from rfl, bc_append, List.length_append]
    exact hown2

theorem refnum_any (n : Int) (w : World) : Calls Tryd.prog 37 #[.int .i64 n] w (OwnRet w (num n)) := by
  by_cases h : n < 0 ∨ 4294967295 < n
  · rw [num_out n h]; exact refnum_no n w h
  · obtain ⟨k, rfl⟩ := Int.eq_ofNat_of_zero_le (show 0 ≤ n by omega)
    rw [num_in _ (by omega) (by omega), Int.toNat_natCast]
    exact refnum_yes _ k w rfl (by omega)

theorem refText_no (s : ByteArray) (w : World) (h : 4096 < s.size) :
    Calls Tryd.prog 38 #[.string s] w (OwnRet w []) := by
  go_enter Tryd.func38, Tryd.ntmps38
  go_wp2_with fail
  go_ret
  exact ⟨_, rfl, World.ownsRow_nil _ _ _ _, Below.refl _ _⟩

set_option maxHeartbeats 1000000 in
theorem refText_yes (s : ByteArray) (w : World) (h : s.size ≤ 4096) :
    Calls Tryd.prog 38 #[.string s] w (OwnRet w (form s.size ++ s.data.toList)) := by
  obtain ⟨i0, hi0, hz0, hz1, hz2⟩ := info_parts u8info
  have hfl := form_length s.size
  have hxl := ext_le s.size
  have hf5 : (form s.size).length ≤ 5 := by omega
  have hconv := fun W => Lib.run_convert_string_bytes (P := Tryd.prog) W 9 33 5 s Tryd.underlying9 Tryd.underlying33 Tryd.underlying5
  clear hfl
  go_enter Tryd.func38, Tryd.ntmps38
  go_wp2_with fail
  refine (refnum_yes _ s.size w rfl (by omega)).mono ?_
  rintro e w1 ⟨v, rfl, hown, hbel⟩
  have hsz := hbel.size
  have HB := hide (hbel.trans ((bytesWorld_below w1 s).mono hsz))
  have HO := hide (own_below hown (bytesWorld_below w1 s))
  have hs2 := Lib.bytesWorld_size w1 5 s
  have hsz2 : w.heap.size ≤ (Lib.bytesWorld w1 5 s).heap.size := by omega
  clear hown hbel hs2
  go_wp2_with (at_builtin; refine wpList_append_own _ rfl _ _ 33 rfl w.heap.size 5 i0 (.int .u8 0) 1 1 Tryd.underlying33 hi0 hz0 hz1 hz2 rfl (by decide) _ _ _ rfl HO.out _ _ _ (bc s.data.toList) rfl ?a1 ?a2 ?a3 ?a4 ?a5 ?a6 ?_)
  case a1 => simp [bc_length]
  case a2 =>
    intro j u hj
    have hjl : j < s.size := by
      have := (List.getElem?_eq_some_iff.1 hj).1
      simpa [bc] using this
    rw [Addr.add_lit, Nat.zero_add, Lib.bytesWorld_cell w1 _ s j hjl]
    simpa [bc, List.getD, hjl] using hj
  case a3 => exact bc_one _
  case a4 => simp only [maxLen]; omega
  case a5 => omega
  case a6 => exact hsz2
  intro v1 w2 hown1 hg1 hn1
  go_wp2_with fail
  go_ret
  refine ⟨v1, rfl, ?_, ?_⟩
  · rw [bc_append, List.length_append]
    exact hown1
  · exact HB.out.grown hg1 hsz2 (fun q hq => (HO.out.lt q hq).1)

theorem refText_any (s : ByteArray) (w : World) : Calls Tryd.prog 38 #[.string s] w (OwnRet w (txt s.data.toList)) := by
  have hl : s.data.toList.length = s.size := by simp
  by_cases h : 4096 < s.size
  · rw [txt_out _ (by omega)]; exact refText_no s w h
  · rw [txt_in _ (by omega), hl]; exact refText_yes s w (by omega)

theorem same_yes (v1 v2 : Value) (s : ByteArray) (w : World) (h1 : (convert 33 9 v1).run Tryd.prog w = .ok (.string s) w) (h2 : (convert 33 9 v2).run Tryd.prog w = .ok (.string s) w) :
    Calls Tryd.prog 16 #[v1, v2] w fun e w' => e = .returned (.bool true) ∧ w = w' := by
  go_enter Tryd.func16, Tryd.ntmps16
  go_wp2
  go_ret
  exact ⟨by simp, rfl⟩
end Go.Proofs.YtjgnneajpkhppaaDoor
