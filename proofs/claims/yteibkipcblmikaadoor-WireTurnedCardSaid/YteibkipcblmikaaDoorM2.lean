/-
  What bits.Len and pack.ahead give for a number below 2 to the 32nd: how many bytes a number's form has ahead of its last one. No condition but that bound.
  What pack.Number and pack.Text give: a new row of bytes, the form; nothing that was there is changed. No conditions beyond the texts' sizes.
  What a pack.Reader does: New, Number, Text, Left, Err, over the plain functions of reading. Conditions: the reader stands in a block of its own, over bytes of the program's own.
  What Number, Text and New of a pack.Reader do to the reader's block, by the plain functions of reading. Conditions: the reader stands in a block of its own, over bytes of the program's own.
  What Text and New of a pack.Reader do, by the plain functions of reading. Conditions: the reader stands in a block of its own, over bytes of the program's own; what New is handed can be read, and is no longer than 2 to the 40th.
  What the document's own functions of layer 1 give (holtref01.Number, Text, Same): the same forms; nothing that was there is changed. No conditions beyond the texts' sizes.
-/
import Derived.Test.YteibkipcblmikaaDoorRows
import Derived.Test.YteibkipcblmikaaDoorM1
import Derived.WalkKit
import Derived.WalkSpells
import Derived.WalkLawsBesides
import Derived.Lib.AppendStr
import Derived.Laws.BytesArg
import Derived.Lib.ConvBytes
namespace Go.Proofs.YteibkipcblmikaaDoor
open Go.RowKit

theorem len_close0 (t i : Nat) (ht : t = bitLen i) (hi : i < 256) : wrap64 (wrap64 (t : Int)) = (bitLen i : Int) := by
  have := bitLen_le8 i hi
  rw [wrap64_in (t : Int) (by omega) (by omega), wrap64_in _ (by omega) (by omega), ht]
theorem len_close (k : Int) (x b t i : Nat) (ht : t = bitLen i) (hi : i < 256) (hk : k = (b : Int)) (hb : b ≤ 24) (he : x / 2 ^ b = i) (h0 : i ≠ 0) :
    wrap64 (k + wrap64 (t : Int)) = (bitLen x : Int) := by
  have := bitLen_le8 i hi
  rw [wrap64_in (t : Int) (by omega) (by omega), wrap64_in _ (by omega) (by omega), bitLen_shift x b (by rw [he]; exact h0), he, ht, hk]
  omega

set_option maxHeartbeats 1000000 in
set_option maxRecDepth 100000 in
theorem len64_any (x : Int) (w : World) (h0 : 0 ≤ x) (h1 : x < 4294967296) :
    Calls Tryd.prog 76 #[.int .u64 x] w fun e w' => e = .returned (.int .i64 (bitLen x.toNat)) ∧ w = w' := by
  by_cases c1 : x < 65536
  · by_cases c2 : x < 256
    · go_enter Tryd.func76, Tryd.ntmps76
      go_wp2
      go_ret
      exact ⟨ret_int (len_close0 _ _ (len8tab_get _ _) (by omega)), rfl⟩
    · go_enter Tryd.func76, Tryd.ntmps76
      go_wp2
      go_ret
      exact ⟨ret_int (len_close _ _ 8 _ _ (len8tab_get _ _) (by omega) rfl (by omega) (by omega) (by omega)), rfl⟩
  · by_cases c2 : x < 16777216
    · go_enter Tryd.func76, Tryd.ntmps76
      go_wp2
      go_ret
      exact ⟨ret_int (len_close _ _ 16 _ _ (len8tab_get _ _) (by omega) rfl (by omega) (by omega) (by omega)), rfl⟩
    · go_enter Tryd.func76, Tryd.ntmps76
      go_wp2
      go_ret
      exact ⟨ret_int (len_close _ _ 24 _ _ (len8tab_get _ _) (by omega) rfl (by omega) (by omega) (by omega)), rfl⟩


theorem bitLen_gt (n k : Nat) (h : 2 ^ k ≤ n) : k < bitLen n := by
  have hs := (bitLen_spec n).1
  rcases Nat.lt_or_ge k (bitLen n) with h' | h'
  · exact h'
  · have := Nat.pow_le_pow_right (show 0 < 2 by omega) h'
    omega
theorem bitLen_le (n k : Nat) (h : n < 2 ^ k) : bitLen n ≤ k := by
  rcases Nat.lt_or_ge k (bitLen n) with h' | h'
  · have h0 : n ≠ 0 := by
      rintro rfl
      simp [bitLen] at h'
    have hs := (bitLen_spec n).2 h0
    have := Nat.pow_le_pow_right (show 0 < 2 by omega) (show k ≤ bitLen n - 1 by omega)
    omega
  · exact h'
theorem ext_eq (n : Nat) (h : n < 4294967296) : (bitLen n - 1) / 7 = ext n := by
  have l7 := bitLen_le n 7; have g7 := bitLen_gt n 7; have l14 := bitLen_le n 14; have g14 := bitLen_gt n 14
  have l21 := bitLen_le n 21; have g21 := bitLen_gt n 21; have l28 := bitLen_le n 28; have g28 := bitLen_gt n 28
  have l32 := bitLen_le n 32
  unfold ext
  split
  · omega
  · split
    · omega
    · split
      · omega
      · split <;> omega

set_option maxHeartbeats 1000000 in
theorem len_any (x : Int) (w : World) (h0 : 0 ≤ x) (h1 : x < 4294967296) :
    Calls Tryd.prog 66 #[.int .u64 x] w fun e w' => e = .returned (.int .i64 (bitLen x.toNat)) ∧ w = w' := by
  go_enter Tryd.func66, Tryd.ntmps66
  go_wp2_with fail
  refine (len64_any _ _ h0 h1).mono ?_
  rintro e w' ⟨rfl, rfl⟩
  go_wp2
  go_ret
  exact ⟨rfl, rfl⟩

set_option maxHeartbeats 1000000 in
theorem ahead_any (n : Int) (w : World) (h0 : 0 ≤ n) (h1 : n < 4294967296) :
    Calls Tryd.prog 45 #[.int .i64 n] w fun e w' => e = .returned (.int .i64 (ext n.toNat)) ∧ w = w' := by
  have hb := bitLen_le n.toNat 32 (by omega)
  have he := hide (ext_eq n.toNat (by omega))
  go_enter Tryd.func45, Tryd.ntmps45
  go_wp2_with fail
  refine (len_any _ _ h0 h1).mono ?_
  rintro e w' ⟨rfl, rfl⟩
  go_wp2
  all_goals (go_ret; exact ⟨ret_int (by have := he.out; omega), rfl⟩)
end Go.Proofs.YteibkipcblmikaaDoor
namespace Go.Proofs.YteibkipcblmikaaDoor
set_option maxRecDepth 100000
open Go.RowKit

/-- After k rounds: the first k bytes are written, m is left. -/
def NumRel (w : World) (n : Nat) (a f c : Value) (wr : World) : Prop :=
  ∃ (k m : Nat) (l : List UInt8), k ≤ ext n ∧ a = .int .i64 m ∧ c = .int .i64 k ∧ m ≤ 4294967295 ∧ wr.ownsRow w.heap.size 5 1 f l.length (bc l) ∧ Below w.heap.size w wr ∧ l ++ formX (ext n - k) m = form n ∧ l.length = k

set_option maxHeartbeats 1000000 in
set_option maxRecDepth 100000 in
theorem num_yes (n : Nat) (w : World) (h : n ≤ 4294967295) :
    Calls Tryd.prog 25 #[.int .i64 n] w fun e w' => ∃ v, e = .returned v ∧ w'.ownsRow w.heap.size 5 1 v (form n).length (bc (form n)) ∧ Below w.heap.size w w' := by
  obtain ⟨i0, hi0, hz0, hz1, hz2⟩ := info_parts u8info
  have hxl := ext_le n
  have d0 : decide ((n : Int) < 0) = false := by simp
  have d1 : decide (4294967295 < (n : Int)) = false := by simp; omega
  go_enter Tryd.func25, Tryd.ntmps25
  go_wp2_with fail
  refine (ahead_any _ _ (by omega) (by omega)).mono ?_
  rintro e w' ⟨rfl, rfl⟩
  rw [Int.toNat_natCast]
  go_wp2_with fail
  go_loopw [0, 3, 12] (NumRel w n) (fun _ _ c _ => ext n - (intOf c).toNat)
  case atStart => exact ⟨0, n, [], Nat.zero_le _, rfl, rfl, h, World.ownsRow_nil _ _ _ _, Below.refl _ _, by simp [form], rfl⟩
  case round =>
    obtain ⟨k, m, l, hk, rfl, rfl, hm, hown, hbel, heq, hlen⟩ := hrel
    have Heq := hide heq; clear heq
    have Hlen := hide hlen
    have hl4 : l.length ≤ 4 := by omega
    clear hlen
    have hsz := hbel.size
    by_cases hlt : k < ext n
    · go_wp2_with (at_builtin; refine wpList_append_own _ rfl _ _ 25 rfl w.heap.size 5 i0 (.int .u8 0) 1 1 Tryd.underlying25 hi0 hz0 hz1 hz2 rfl (by decide) _ _ _ rfl (hown.alloc _) _ _ _ (bc [b8 (m % 128 + 128)]) rfl ?a1 ?a2 ?a3 ?a4 ?a5 ?a6 ?_)
      case a1 => rfl
      case a2 => exact cell_new1 _ _ _ (by rw [b8_toNat _ (by omega)]; omega)
      case a3 => exact bc_one _
      case a4 => simp only [maxLen]; omega
      case a5 => omega
      case a6 => simp; omega
      intro v1 w1 hown1 hg1 hn1
      go_wp2_with fail
      go_roundw
      case rel =>
        refine ⟨k + 1, m / 128, l ++ [b8 (m % 128 + 128)], by omega, by go_num, by go_num, by omega, ?_, ?_, ?_, ?_⟩
        · rw [bc_append, List.length_append]; exact hown1
        · exact (hbel.alloc hsz _).grown hg1 (by simp; omega) (fun q hq => (hown.lt q hq).1)
        · rw [← Heq.out, show ext n - k = (ext n - (k + 1)) + 1 by omega]
          simp [formX]
        · simp [Hlen.out]
      case measure => simp [intOf]; omega
    · go_wp2_with (at_builtin; refine wpList_append_own _ rfl _ _ 25 rfl w.heap.size 5 i0 (.int .u8 0) 1 1 Tryd.underlying25 hi0 hz0 hz1 hz2 rfl (by decide) _ _ _ rfl (hown.alloc _) _ _ _ (bc [b8 m]) rfl ?b1 ?b2 ?b3 ?b4 ?b5 ?b6 ?_)
      case b1 => rfl
      case b2 => exact cell_new1 _ _ _ (by rw [b8_mod]; omega)
      case b3 => exact bc_one _
      case b4 => simp only [maxLen]; omega
      case b5 => omega
      case b6 => simp; omega
      intro v1 w1 hown1 hg1 hn1
      go_wp2
      go_ret
      have he : l ++ [b8 m] = form n := by rw [← Heq.out, show ext n - k = 0 by omega]; rfl
      refine ⟨v1, rfl, ?_, ?_⟩
      · rw [← he, bc_append, List.length_append]; exact hown1
      · exact (hbel.alloc hsz _).grown hg1 (by simp; omega) (fun q hq => (hown.lt q hq).1)

set_option maxHeartbeats 400000 in
theorem num_no (n : Int) (w : World) (h : n < 0 ∨ 4294967295 < n) :
    Calls Tryd.prog 25 #[.int .i64 n] w (OwnRet w []) := by
  rcases h with h | h
  · go_enter Tryd.func25, Tryd.ntmps25
    go_wp2
    go_ret
    exact ⟨_, rfl, World.ownsRow_nil _ _ _ _, Below.refl _ _⟩
  · have h0 : ¬ n < 0 := by omega
    go_enter Tryd.func25, Tryd.ntmps25
    go_wp2
    go_ret
    exact ⟨_, rfl, World.ownsRow_nil _ _ _ _, Below.refl _ _⟩

theorem num_any (n : Int) (w : World) : Calls Tryd.prog 25 #[.int .i64 n] w (OwnRet w (num n)) := by
  by_cases h : n < 0 ∨ 4294967295 < n
  · rw [num_out n h]; exact num_no n w h
  · obtain ⟨k, rfl⟩ := Int.eq_ofNat_of_zero_le (show 0 ≤ n by omega)
    rw [num_in _ (by omega) (by omega), Int.toNat_natCast]
    exact num_yes k w (by omega)

theorem Text_no (s : ByteArray) (w : World) (h : 4096 < s.size) :
    Calls Tryd.prog 65 #[.string s] w (OwnRet w []) := by
  go_enter Tryd.func65, Tryd.ntmps65
  go_wp2
  go_ret
  exact ⟨_, rfl, World.ownsRow_nil _ _ _ _, Below.refl _ _⟩

set_option maxHeartbeats 1000000 in
theorem Text_yes (s : ByteArray) (w : World) (h : s.size ≤ 4096) :
    Calls Tryd.prog 65 #[.string s] w (OwnRet w (form s.size ++ s.data.toList)) := by
  obtain ⟨i0, hi0, hz0, hz1, hz2⟩ := info_parts u8info
  have hfl := form_length s.size
  have hxl := ext_le s.size
  have hf5 : (form s.size).length ≤ 5 := by omega
  clear hfl
  go_enter Tryd.func65, Tryd.ntmps65
  go_wp2_with fail
  refine (num_yes _ _ (by omega)).mono ?_
  rintro e w' ⟨v, rfl, hown, hbel⟩
  have hsz := hbel.size
  go_wp2_with (at_builtin; refine Lib.wpList_append_own_string _ rfl _ _ 25 9 rfl w.heap.size 5 i0 Tryd.underlying25 Tryd.underlying9 hi0 hz0 hz1 hz2 _ _ _ rfl hown _ rfl ?a1 ?a2 ?a3 ?_)
  case a1 => simp only [maxLen]; omega
  case a2 => omega
  case a3 => exact hsz
  intro v1 w1 hown1 hg1 hn1
  go_wp2
  go_ret
  refine ⟨v1, rfl, ?_, ?_⟩
  · rw [bc_append, List.length_append]
    exact hown1
  · exact hbel.grown hg1 hsz (fun q hq => (hown.lt q hq).1)

theorem Text_any (s : ByteArray) (w : World) : Calls Tryd.prog 65 #[.string s] w (OwnRet w (txt s.data.toList)) := by
  have hl : s.data.toList.length = s.size := by simp
  by_cases h : 4096 < s.size
  · rw [txt_out _ (by omega)]; exact Text_no s w h
  · rw [txt_in _ (by omega), hl]; exact Text_yes s w (by omega)
end Go.Proofs.YteibkipcblmikaaDoor
namespace Go.Proofs.YteibkipcblmikaaDoor
set_option maxRecDepth 100000
open Go.RowKit
set_option linter.unusedVariables false

theorem scanF_step (f i acc : Nat) (l : List UInt8) (h : i < l.length) :
    scanF (f + 1) i acc (l.drop i) =
      if 128 ≤ l[i].toNat then scanF f (i + 1) (acc + l[i].toNat % 128 * 128 ^ i) (l.drop (i + 1))
      else if l[i].toNat = 0 ∧ 0 < i then (0, 0, 3) else (acc + l[i].toNat % 128 * 128 ^ i, i + 1, 0) := by
  rw [List.drop_eq_getElem_cons h]
  rfl
theorem scanF_end (f i acc : Nat) (l : List UInt8) (h : l.length ≤ i) : scanF (f + 1) i acc (l.drop i) = (0, 0, 2) := by
  rw [List.drop_eq_nil_of_le h]
  rfl

/-- After k rounds of scan: n holds what the first k bytes tell. -/
def ScanRel (l : List UInt8) (n c : Value) : Prop :=
  ∃ k acc : Nat, k ≤ 5 ∧ k ≤ l.length ∧ n = .int .i64 acc ∧ c = .int .i64 k ∧ acc < 128 ^ k ∧ scan l = scanF (5 - k) k acc (l.drop k)

theorem scan_val (k acc x : Nat) (hk : k < 5) (ha : acc < 128 ^ k) : wrap64 ((acc : Int) + wrap64 ((x : Int) % 128 * 2 ^ (7 * k))) = ((acc + x % 128 * 128 ^ k : Nat) : Int) := by
  have hc : k = 0 ∨ k = 1 ∨ k = 2 ∨ k = 3 ∨ k = 4 := by omega
  rcases hc with rfl | rfl | rfl | rfl | rfl <;>
  · simp only [Nat.reduceMul, Nat.reducePow, Int.reducePow, Nat.pow_zero, Int.pow_zero] at ha ⊢
    rw [wrap64_in ((x : Int) % 128 * _) (by omega) (by omega), wrap64_in _ (by omega) (by omega)]
    omega
theorem scan_lt (k acc x : Nat) (hk : k < 5) (ha : acc < 128 ^ k) : acc + x % 128 * 128 ^ k < 128 ^ (k + 1) := by
  have hc : k = 0 ∨ k = 1 ∨ k = 2 ∨ k = 3 ∨ k = 4 := by omega
  rcases hc with rfl | rfl | rfl | rfl | rfl <;>
  · simp only [Nat.reduceAdd, Nat.reducePow] at ha ⊢
    omega
theorem ret_three {k1 k2 k3 : IntKind} {a b c a' b' c' : Int} (h1 : a = a') (h2 : b = b') (h3 : c = c') :
    Ending.returned (.tuple #[.int k1 a, .int k2 b, .int k3 c]) = .returned (.tuple #[.int k1 a', .int k2 b', .int k3 c']) := by rw [h1, h2, h3]

set_option maxHeartbeats 1000000 in
set_option maxRecDepth 100000 in
theorem scan_some (g o c : Nat) (l : List UInt8) (w : World) (hl : l.length ≤ c) (hc : c ≤ maxLen) (hcell : ∀ j (h : j < l.length), w.cell? ⟨g, o + j, none⟩ = some (.int .u8 l[j].toNat)) :
    Calls Tryd.prog 68 #[.slice (some ⟨g, o, none⟩) l.length c] w fun e w' =>
      e = .returned (.tuple #[.int .i64 (scan l).1, .int .i64 (scan l).2.1, .int .i64 (scan l).2.2]) ∧ w = w' := by
  unfold maxLen at hc
  have Hcell := hide hcell
  clear hcell
  go_enter Tryd.func68, Tryd.ntmps68
  go_wp2_with fail
  go_loop [2, 7] (ScanRel l) (fun _ c => 5 - (intOf c).toNat)
  case atStart => exact ⟨0, 0, by omega, by omega, rfl, rfl, by omega, rfl⟩
  case round =>
    obtain ⟨k, acc, hk, hkl, rfl, rfl, hacc, heq⟩ := hrel
    have Heq := hide heq
    have Hacc := hide hacc
    clear heq hacc
    by_cases h5 : k < 5
    · by_cases hend : k = l.length
      · have hge : l.length ≤ k := by omega
        have hb : ((k : Int) == (l.length : Int)) = true := by rw [hend]; simp
        clear hend
        go_wp2
        go_ret3
        have e := Heq.out
        rw [show 5 - k = (4 - k) + 1 by omega, scanF_end _ _ _ _ hge] at e
        rw [e]
        exact ⟨rfl, rfl⟩
      · have hlt : k < l.length := by omega
        have hb : ((k : Int) == (l.length : Int)) = false := by simp; omega
        have hx := Hcell.out k hlt
        have e := Heq.out
        rw [show 5 - k = (4 - k) + 1 by omega, scanF_step _ _ _ _ hlt] at e
        have h256 := UInt8.toNat_lt l[k]
        generalize l[k].toNat = x at hx e h256
        have E := hide e
        clear e Heq hend Hcell
        have hv := hide (scan_val k acc x h5 Hacc.out)
        by_cases c1 : 128 ≤ x
        · go_wp2
          go_round
          case rel =>
            refine ⟨k + 1, acc + x % 128 * 128 ^ k, by omega, by omega, congrArg (Value.int IntKind.i64) hv.out, by go_num, scan_lt k acc x h5 Hacc.out, ?_⟩
            rw [E.out, if_pos c1, show 5 - (k + 1) = 4 - k by omega]
          case measure => simp [intOf]; omega
        · by_cases c2 : x = 0 ∧ 0 < k
          · obtain ⟨c2, c3⟩ := c2
            have e := E.out
            rw [if_neg c1, if_pos ⟨c2, c3⟩] at e
            have E1 := hide e
            have hb0 : ((x : Int) == 0) = true := by rw [c2]; rfl
            clear e E hv c2
            go_wp2
            go_ret3
            rw [E1.out]
            exact ⟨rfl, rfl⟩
          · have e := E.out
            rw [if_neg c1, if_neg c2] at e
            have E1 := hide e
            clear e E
            by_cases c3 : x = 0
            · have hb0 : ((x : Int) == 0) = true := by rw [c3]; rfl
              have c4 : ¬ 0 < k := by omega
              have C3 := hide c3
              clear c3 c2
              go_wp2
              go_ret3
              rw [E1.out]
              exact ⟨ret_three hv.out (by show _ = ((_ + 1 : Nat) : Int); omega) rfl, rfl⟩
            · have hb0 : ((x : Int) == 0) = false := by simp; omega
              clear c2
              go_wp2
              go_ret3
              rw [E1.out]
              exact ⟨ret_three hv.out (by show _ = ((_ + 1 : Nat) : Int); omega) rfl, rfl⟩
    · go_wp2
      go_ret3
      have e := Heq.out
      rw [show 5 - k = 0 by omega] at e
      rw [e]
      exact ⟨rfl, rfl⟩

theorem scan_none (w : World) :
    Calls Tryd.prog 68 #[.slice none 0 0] w fun e w' =>
      e = .returned (.tuple #[.int .i64 (scan []).1, .int .i64 (scan []).2.1, .int .i64 (scan []).2.2]) ∧ w = w' := by
  go_enter Tryd.func68, Tryd.ntmps68
  go_wp2_with fail
  refine wp_loop_rounds 1 ?_
  rw [rounds_succ]
  go_wp2
  go_ret3
  exact ⟨rfl, rfl⟩

theorem scan_any (v : Value) (l : List UInt8) (w : World) (h : RSl w v l) :
    Calls Tryd.prog 68 #[v] w fun e w' =>
      e = .returned (.tuple #[.int .i64 (scan l).1, .int .i64 (scan l).2.1, .int .i64 (scan l).2.2]) ∧ w = w' := by
  rcases h with ⟨rfl, rfl⟩ | ⟨g, o, c, cur, rfl, h2, h3, h4, h5⟩
  · exact scan_none w
  · exact scan_some g o c l w h2 h3 (RSl_cells h4 h5)

/-- The block of a reader: what isn't read, what was wrong. -/
def RdC (w : World) (g : Nat) (sv : Value) (e : Nat) : Prop := w.heap[g]? = some (.cells #[sv, .int .i64 e] 91 (0, 0))
/-- A reader at block g: l isn't read yet; e was wrong. -/
def Rd (w : World) (g : Nat) (l : List UInt8) (e : Nat) : Prop := ∃ sv, RdC w g sv e ∧ RSl w sv l

theorem RdC.c0 {w : World} {g e : Nat} {sv : Value} (h : RdC w g sv e) : w.cell? ⟨g, 0, none⟩ = some sv := cell_of_row w g 0 _ _ (0, 0) h
theorem RdC.c1 {w : World} {g e : Nat} {sv : Value} (h : RdC w g sv e) : w.cell? ⟨g, 1, none⟩ = some (.int .i64 e) := cell_of_row w g 1 _ _ (0, 0) h
theorem RdC.z {w : World} {g e : Nat} {sv : Value} (h : RdC w g sv e) (i : Nat) : w.frozen? ⟨g, i, none⟩ = false := by
  unfold RdC at h
  simp [World.frozen?, h]
theorem RdC.set0 {w : World} {g e : Nat} {sv : Value} (h : RdC w g sv e) (u : Value) : RdC (w.setCell ⟨g, 0, none⟩ u) g u e := by
  unfold RdC at h ⊢
  simp [World.setCell, Array.getElem?_modify, h]
theorem RdC.set1 {w : World} {g e : Nat} {sv : Value} (h : RdC w g sv e) (x : Nat) : RdC (w.setCell ⟨g, 1, none⟩ (.int .i64 x)) g sv x := by
  unfold RdC at h ⊢
  simp [World.setCell, Array.getElem?_modify, h]
theorem RSl.setR {w : World} {g e : Nat} {sv v : Value} {l : List UInt8} (h : RSl w v l) (hr : RdC w g sv e) (i : Nat) (u : Value) : RSl (w.setCell ⟨g, i, none⟩ u) v l := by
  refine h.keep fun k cur hk => Below.heap_setCell w _ u k ?_
  rintro rfl
  unfold RdC at hr
  rw [hk] at hr
  injection hr with hr
  injection hr with _ ht
  exact absurd ht (by decide)

/-- All but block g is as it was, and no block is new. -/
structure Only (g : Nat) (w w' : World) : Prop where
  grown : w.grownBy w' (some g)
  size : w'.heap.size = w.heap.size
theorem Only.refl (g : Nat) (w : World) : Only g w w := ⟨⟨rfl, rfl, rfl, Nat.le_refl _, fun _ _ _ => rfl⟩, rfl⟩
theorem Only.set {g : Nat} {w w' : World} (h : Only g w w') (i : Nat) (u : Value) : Only g w (w'.setCell ⟨g, i, none⟩ u) := by
  refine ⟨⟨h.grown.os, h.grown.tape, h.grown.output, ?_, fun k hk hne => ?_⟩, ?_⟩
  · simpa [World.setCell] using h.grown.size
  · exact (Below.heap_setCell w' _ u k (by rintro rfl; exact hne rfl)).trans (h.grown.block k hk hne)
  · simpa [World.setCell] using h.size
theorem Only.trans {g : Nat} {a b c : World} (h : Only g a b) (k : Only g b c) : Only g a c :=
  ⟨⟨k.grown.os.trans h.grown.os, k.grown.tape.trans h.grown.tape, k.grown.output.trans h.grown.output, Nat.le_trans h.grown.size k.grown.size,
    fun i hi hne => (k.grown.block i (by have := h.size; omega) hne).trans (h.grown.block i hi hne)⟩, k.size.trans h.size⟩

set_option maxHeartbeats 400000 in
theorem fail_any (g x e : Nat) (sv : Value) (w : World) (h : RdC w g sv e) :
    Calls Tryd.prog 69 #[.pointer (some ⟨g, 0, none⟩), .int .i64 x] w fun ed w' =>
      ed = .returned (.tuple #[]) ∧ (w.setCell ⟨g, 0, none⟩ (.slice none 0 0)).setCell ⟨g, 1, none⟩ (.int .i64 x) = w' := by
  have c0 := h.c0
  have z0 := h.z 0
  have c1 := (h.set0 (.slice none 0 0)).c1
  have z1 := (h.set0 (.slice none 0 0)).z 1
  clear h
  go_enter Tryd.func69, Tryd.ntmps69
  go_wp2
  go_end0
  exact ⟨rfl, rfl⟩

set_option maxHeartbeats 400000 in
theorem left_any (g e : Nat) (l : List UInt8) (w : World) (h : Rd w g l e) :
    Calls Tryd.prog 53 #[.pointer (some ⟨g, 0, none⟩)] w fun ed w' => ed = .returned (.int .i64 l.length) ∧ w = w' := by
  obtain ⟨sv, hc, hs⟩ := h
  have c0 := hc.c0
  clear hc
  rcases hs with ⟨rfl, rfl⟩ | ⟨g', o, c, cur, rfl, h2, h3, h4, h5⟩
  · go_enter Tryd.func53, Tryd.ntmps53
    go_wp2
    go_ret
    exact ⟨rfl, rfl⟩
  · clear h4 h5
    go_enter Tryd.func53, Tryd.ntmps53
    go_wp2
    go_ret
    exact ⟨rfl, rfl⟩

set_option maxHeartbeats 400000 in
theorem err_any (g e : Nat) (l : List UInt8) (w : World) (h : Rd w g l e) :
    Calls Tryd.prog 52 #[.pointer (some ⟨g, 0, none⟩)] w fun ed w' => ed = .returned (.int .i64 e) ∧ w = w' := by
  obtain ⟨sv, hc, hs⟩ := h
  have c1 := hc.c1
  clear hc hs
  go_enter Tryd.func52, Tryd.ntmps52
  go_wp2
  go_ret
  exact ⟨rfl, rfl⟩
end Go.Proofs.YteibkipcblmikaaDoor
namespace Go.Proofs.YteibkipcblmikaaDoor
set_option maxRecDepth 100000
open Go.RowKit
set_option linter.unusedVariables false

/-- What a reader's call leaves: an answer, the new state, all else as it was. -/
def RdRet (w : World) (g : Nat) (v : Value) (l : List UInt8) (x : Nat) (e : Ending) (w' : World) : Prop :=
  e = .returned v ∧ Rd w' g l x ∧ Only g w w'

set_option maxHeartbeats 400000 in
theorem number_wrong (g e : Nat) (l : List UInt8) (most : Int) (w : World) (h : Rd w g l e) (he : e ≠ 0) :
    Calls Tryd.prog 51 #[.pointer (some ⟨g, 0, none⟩), .int .i64 most] w (RdRet w g (.int .i64 0) l e) := by
  obtain ⟨sv, hc, hs⟩ := h
  have c1 := hc.c1
  have hne : ((e : Int) != 0) = true := by simp; omega
  have HC := hide hc
  have HS := hide hs
  clear hc hs he
  go_enter Tryd.func51, Tryd.ntmps51
  go_wp2
  go_ret
  exact ⟨rfl, ⟨sv, HC.out, HS.out⟩, Only.refl _ _⟩

set_option maxHeartbeats 1000000 in
theorem number_short (g x : Nat) (l : List UInt8) (most : Int) (w : World) (h : Rd w g l 0) (hx : (scan l).2.2 = x) (h0 : 0 < x) :
    Calls Tryd.prog 51 #[.pointer (some ⟨g, 0, none⟩), .int .i64 most] w (RdRet w g (.int .i64 0) [] x) := by
  obtain ⟨sv, hc, hs⟩ := h
  have c1 := hc.c1
  have c0 := hc.c0
  have HC := hide hc
  have HS := hide hs
  have HX := hide hx
  have b1 : ((x : Int) == 0) = false := by simp; omega
  have b2 : ((x : Int) != 0) = true := by simp; omega
  clear hc hs hx
  go_enter Tryd.func51, Tryd.ntmps51
  go_wp2_with fail
  refine (scan_any _ _ _ HS.out).mono ?_
  rintro ed w' ⟨rfl, rfl⟩
  rw [HX.out]
  go_wp2_with fail
  refine (fail_any _ _ _ _ _ HC.out).mono ?_
  rintro ed w' ⟨rfl, rfl⟩
  go_wp2
  go_ret
  exact ⟨rfl, ⟨_, (HC.out.set0 _).set1 _, .inl ⟨rfl, rfl⟩⟩, ((Only.refl _ _).set _ _).set _ _⟩

set_option maxHeartbeats 1000000 in
theorem number_above (g n q : Nat) (l : List UInt8) (most : Int) (w : World) (h : Rd w g l 0) (hx : scan l = (n, q, 0)) (h0 : min most 4294967295 < (n : Int)) :
    Calls Tryd.prog 51 #[.pointer (some ⟨g, 0, none⟩), .int .i64 most] w (RdRet w g (.int .i64 0) [] 3) := by
  obtain ⟨sv, hc, hs⟩ := h
  have c1 := hc.c1
  have c0 := hc.c0
  have HC := hide hc
  have HS := hide hs
  have HX := hide hx
  clear hc hs hx
  go_enter Tryd.func51, Tryd.ntmps51
  go_wp2_with fail
  refine (scan_any _ _ _ HS.out).mono ?_
  rintro ed w' ⟨rfl, rfl⟩
  rw [HX.out]
  go_wp2_with fail
  all_goals
    refine (fail_any g 3 0 sv w HC.out).mono ?_
    rintro ed w' ⟨rfl, rfl⟩
    go_wp2
    go_ret
    exact ⟨rfl, ⟨_, (HC.out.set0 _).set1 _, .inl ⟨rfl, rfl⟩⟩, ((Only.refl _ _).set _ _).set _ _⟩

set_option maxHeartbeats 1000000 in
theorem number_ok (g n q : Nat) (l : List UInt8) (most : Int) (w : World) (h : Rd w g l 0) (hx : scan l = (n, q, 0)) (h0 : (n : Int) ≤ most) (h1 : n ≤ 4294967295) (hq0 : 0 < q) (hq : q ≤ l.length) :
    Calls Tryd.prog 51 #[.pointer (some ⟨g, 0, none⟩), .int .i64 most] w (RdRet w g (.int .i64 n) (l.drop q) 0) := by
  obtain ⟨sv, hc, hs⟩ := h
  have HS := hide hs
  rcases hs with ⟨rfl, rfl⟩ | ⟨g', o, c, cur, rfl, h2, h3, h4, h5⟩
  · simp at hq
    omega
  · have c1 := hc.c1
    have c0 := hc.c0
    have z0 := hc.z 0
    have hcut := fun W => run_cut g' o l.length c q hq h2 W
    have HC := hide hc
    have HX := hide hx
    have HR := hide (RSl_cut h2 h3 h4 h5 q hq)
    clear hc hx h4 h5
    go_enter Tryd.func51, Tryd.ntmps51
    go_wp2_with fail
    refine (scan_any _ _ _ HS.out).mono ?_
    rintro ed w' ⟨rfl, rfl⟩
    rw [HX.out]
    go_wp2
    all_goals
      go_ret
      exact ⟨rfl, ⟨_, HC.out.set0 _, HR.out.setR HC.out _ _⟩, (Only.refl _ _).set _ _⟩

/-- NUMBER: the answer and the new state are 'rNum'. -/
theorem number_any (g e : Nat) (l : List UInt8) (most : Int) (w : World) (h : Rd w g l e) :
    Calls Tryd.prog 51 #[.pointer (some ⟨g, 0, none⟩), .int .i64 most] w (RdRet w g (.int .i64 (rNum most l e).1) (rNum most l e).2.1 (rNum most l e).2.2) := by
  by_cases he : e = 0
  · subst he
    by_cases hx : (scan l).2.2 = 0
    · have hs : 0 < (scan l).2.1 ∧ (scan l).2.1 ≤ 0 + l.length ∧ (scan l).2.1 ≤ 0 + 5 := scanF_size 5 0 0 l hx
      have hz : scan l = ((scan l).1, (scan l).2.1, 0) := by rw [← hx]
      by_cases ha : min most 4294967295 < ((scan l).1 : Int)
      · have e1 : rNum most l 0 = (0, [], 3) := by unfold rNum; rw [if_neg (by simp), if_neg (by simpa using hx), if_pos ha]
        rw [e1]
        exact number_above g _ _ l most w h hz ha
      · have e1 : rNum most l 0 = ((scan l).1, l.drop (scan l).2.1, 0) := by unfold rNum; rw [if_neg (by simp), if_neg (by simpa using hx), if_neg ha]
        rw [e1]
        exact number_ok g _ _ l most w h hz (by omega) (by omega) hs.1 (by omega)
    · have e1 : rNum most l 0 = (0, [], (scan l).2.2) := by unfold rNum; rw [if_neg (by simp), if_pos hx]
      rw [e1]
      exact number_short g (scan l).2.2 l most w h rfl (by omega)
  · have e1 : rNum most l e = (0, l, e) := by unfold rNum; rw [if_pos he]
    rw [e1]
    exact number_wrong g e l most w h he
end Go.Proofs.YteibkipcblmikaaDoor
namespace Go.Proofs.YteibkipcblmikaaDoor
set_option maxRecDepth 100000
open Go.RowKit
set_option linter.unusedVariables false

set_option maxHeartbeats 1000000 in
theorem text_wrong (g e n e1 : Nat) (l l1 : List UInt8) (most : Int) (w : World) (h : Rd w g l e) (hn : rNum most l e = (n, l1, e1)) (he : e1 ≠ 0) :
    Calls Tryd.prog 70 #[.pointer (some ⟨g, 0, none⟩), .int .i64 most] w (RdRet w g (.string (bs [])) l1 e1) := by
  have hc0 := number_any g e l most w h
  rw [hn] at hc0
  have HC0 := hide hc0
  have hne : ((e1 : Int) != 0) = true := by simp; omega
  clear hc0 h hn he
  go_enter Tryd.func70, Tryd.ntmps70
  go_wp2_with fail
  refine HC0.out.mono ?_
  rintro ed w1 ⟨rfl, ⟨sv, hc, hs⟩, ho⟩
  have c1 := hc.c1
  have H1 := hide hc
  have H2 := hide hs
  have H3 := hide ho
  clear hc hs ho
  go_wp2
  go_ret
  exact ⟨rfl, ⟨sv, H1.out, H2.out⟩, H3.out⟩

set_option maxHeartbeats 1000000 in
theorem text_short (g e n : Nat) (l l1 : List UInt8) (most : Int) (w : World) (h : Rd w g l e) (hn : rNum most l e = (n, l1, 0)) (hl : l1.length < n) :
    Calls Tryd.prog 70 #[.pointer (some ⟨g, 0, none⟩), .int .i64 most] w (RdRet w g (.string (bs [])) [] 2) := by
  have hc0 := number_any g e l most w h
  rw [hn] at hc0
  have HC0 := hide hc0
  clear hc0 h hn
  go_enter Tryd.func70, Tryd.ntmps70
  go_wp2_with fail
  refine HC0.out.mono ?_
  rintro ed w1 ⟨rfl, ⟨sv, hc, hs⟩, ho⟩
  have c1 := hc.c1
  have c0 := hc.c0
  have H1 := hide hc
  have H3 := hide ho
  clear hc ho
  rcases hs with ⟨rfl, rfl⟩ | ⟨g', o, c, cur, rfl, h2, h3, h4, h5⟩
  · simp only [List.length_nil] at hl
    go_wp2_with fail
    refine (fail_any g 2 0 _ w1 H1.out).mono ?_
    rintro ed w2 ⟨rfl, rfl⟩
    go_wp2
    go_ret
    exact ⟨rfl, ⟨_, (H1.out.set0 _).set1 _, .inl ⟨rfl, rfl⟩⟩, (H3.out.set _ _).set _ _⟩
  · clear h4 h5
    go_wp2_with fail
    refine (fail_any g 2 0 _ w1 H1.out).mono ?_
    rintro ed w2 ⟨rfl, rfl⟩
    go_wp2
    go_ret
    exact ⟨rfl, ⟨_, (H1.out.set0 _).set1 _, .inl ⟨rfl, rfl⟩⟩, (H3.out.set _ _).set _ _⟩

set_option maxHeartbeats 1000000 in
theorem text_ok (g e n : Nat) (l l1 : List UInt8) (most : Int) (w : World) (h : Rd w g l e) (hn : rNum most l e = (n, l1, 0)) (hl : n ≤ l1.length) :
    Calls Tryd.prog 70 #[.pointer (some ⟨g, 0, none⟩), .int .i64 most] w (RdRet w g (.string (bs (l1.take n))) (l1.drop n) 0) := by
  have hc0 := number_any g e l most w h
  rw [hn] at hc0
  have HC0 := hide hc0
  clear hc0 h hn
  go_enter Tryd.func70, Tryd.ntmps70
  go_wp2_with fail
  refine HC0.out.mono ?_
  rintro ed w1 ⟨rfl, ⟨sv, hc, hs⟩, ho⟩
  have c1 := hc.c1
  have c0 := hc.c0
  have z0 := hc.z 0
  have H1 := hide hc
  have H3 := hide ho
  clear hc ho
  rcases hs with ⟨rfl, rfl⟩ | ⟨g', o, c, cur, rfl, h2, h3, h4, h5⟩
  · obtain rfl : n = 0 := by simpa using hl
    have hcv := conv_any w1 _ [] (.inl ⟨rfl, rfl⟩)
    go_wp2
    go_ret
    exact ⟨rfl, ⟨_, H1.out.set0 _, .inl ⟨rfl, rfl⟩⟩, H3.out.set _ _⟩
  · have hcv := conv_any w1 _ _ (RSl_head h2 h3 h4 h5 n hl)
    have hcut := fun W => run_cut g' o l1.length c n hl h2 W
    have hhd := fun W => run_head g' o l1.length c n (by omega) W
    have HR := hide (RSl_cut h2 h3 h4 h5 n hl)
    clear h4 h5
    go_wp2
    go_ret
    exact ⟨rfl, ⟨_, H1.out.set0 _, HR.out.setR H1.out _ _⟩, H3.out.set _ _⟩

/-- TEXT: the answer and the new state are 'rTxt'. -/
theorem text_any (g e : Nat) (l : List UInt8) (most : Int) (w : World) (h : Rd w g l e) :
    Calls Tryd.prog 70 #[.pointer (some ⟨g, 0, none⟩), .int .i64 most] w (RdRet w g (.string (bs (rTxt most l e).1)) (rTxt most l e).2.1 (rTxt most l e).2.2) := by
  by_cases he : (rNum most l e).2.2 = 0
  · have hz : rNum most l e = ((rNum most l e).1, (rNum most l e).2.1, 0) := by rw [← he]
    by_cases hs : (rNum most l e).2.1.length < (rNum most l e).1
    · have e1 : rTxt most l e = ([], [], 2) := by unfold rTxt; rw [if_neg (by simpa using he), if_pos hs]
      rw [e1]
      exact text_short g e _ l _ most w h hz hs
    · have e1 : rTxt most l e = ((rNum most l e).2.1.take (rNum most l e).1, (rNum most l e).2.1.drop (rNum most l e).1, 0) := by
        unfold rTxt; rw [if_neg (by simpa using he), if_neg hs]
      rw [e1]
      exact text_ok g e _ l _ most w h hz (by omega)
  · have e1 : rTxt most l e = ([], (rNum most l e).2.1, (rNum most l e).2.2) := by unfold rTxt; rw [if_pos he]
    rw [e1]
    exact text_wrong g e (rNum most l e).1 (rNum most l e).2.2 l (rNum most l e).2.1 most w h rfl he

set_option maxHeartbeats 1000000 in
theorem clone_some (ad : Addr) (c : Nat) (l : List UInt8) (w : World) (hl : l.length ≤ 1099511627776) (hc : ∀ j u, (bc l)[j]? = some u → w.cell? (ad.add j) = some u) :
    Calls Tryd.prog 40 #[.slice (some ad) l.length c] w (OwnRet w l) := by
  obtain ⟨i0, hi0, hz0, hz1, hz2⟩ := info_parts u8info
  have q0 : ∀ (w : World) (a : Option Addr) (n c n' c' : Nat), (binOp .eql 25 (.slice a n c) (.slice none n' c')).run Tryd.prog w = .ok (.bool a.isNone) w := fun w a n c n' c' => Lib.run_eql_slice_nil w _ _ a n c n' c' Tryd.underlying25
  have HC := hide hc
  clear hc
  go_enter Tryd.func40, Tryd.ntmps40
  go_wp2_with (at_builtin; refine wpList_append_own _ rfl _ _ 25 rfl w.heap.size 5 i0 (.int .u8 0) 1 1 Tryd.underlying25 hi0 hz0 hz1 hz2 rfl (by decide) _ _ _ rfl (World.ownsRow_made w #[] 0 (Nat.le_refl _) (Nat.zero_le _) rfl) ad l.length c (bc l) rfl ?a1 ?a2 ?a3 ?a4 ?a5 ?a6 ?_)
  case a1 => simp [bc_length]
  case a2 =>
    intro j u hj
    have := HC.out j u hj
    exact (World.cell?_alloc_lt w _ _ (World.block_lt_of_cell? w _ this)).trans this
  case a3 => exact bc_one _
  case a4 => simp only [maxLen]; omega
  case a5 => omega
  case a6 => simp
  intro v1 w1 hown1 hg1 hn1
  go_wp2
  go_ret
  refine ⟨v1, rfl, by simpa using hown1, ?_⟩
  exact ((Below.refl _ w).alloc (Nat.le_refl _) _).grown hg1 (by simp) (by intro k hk; simp [Value.ownBlock] at hk; omega)

set_option maxHeartbeats 1000000 in
theorem clone_none (n c : Nat) (w : World) : Calls Tryd.prog 40 #[.slice none n c] w (OwnRet w []) := by
  have q0 : ∀ (w : World) (a : Option Addr) (n c n' c' : Nat), (binOp .eql 25 (.slice a n c) (.slice none n' c')).run Tryd.prog w = .ok (.bool a.isNone) w := fun w a n c n' c' => Lib.run_eql_slice_nil w _ _ a n c n' c' Tryd.underlying25
  go_enter Tryd.func40, Tryd.ntmps40
  go_wp2
  go_ret
  exact ⟨_, rfl, World.ownsRow_nil _ _ _ _, Below.refl _ _⟩

theorem clone_any (v : Value) (l : List UInt8) (w : World) (hl : l.length ≤ 1099511627776) (h : Hnd w v l) : Calls Tryd.prog 40 #[v] w (OwnRet w l) := by
  obtain ⟨A, c, rfl, h0, hc⟩ := h
  rcases A with _ | ad
  · obtain rfl := h0 rfl
    exact clone_none _ _ w
  · exact clone_some ad c l w hl (hc ad rfl)

/-- What New leaves: a new reader of l. -/
def NewRet (w : World) (l : List UInt8) (e : Ending) (w' : World) : Prop :=
  ∃ g, e = .returned (.pointer (some ⟨g, 0, none⟩)) ∧ w.heap.size ≤ g ∧ Rd w' g l 0 ∧ Below w.heap.size w w'

set_option maxHeartbeats 1000000 in
theorem new_any (v : Value) (l : List UInt8) (w : World) (hl : l.length ≤ 1099511627776) (h : Hnd w v l) : Calls Tryd.prog 50 #[v] w (NewRet w l) := by
  have HC0 := hide (clone_any v l w hl h)
  clear h
  go_enter Tryd.func50, Tryd.ntmps50
  go_wp2_with fail
  refine HC0.out.mono ?_
  rintro ed w1 ⟨v1, rfl, hown, hb⟩
  have hsz := hb.size
  have HS := hide (RSl.of_own hown)
  have HB := hide hb
  clear hb
  rcases hown.2 with ⟨rfl, h0⟩ | ⟨g, cap, cur, rfl, _, _, _, _, _, _⟩
  · clear hown h0
    go_wp2
    go_ret
    exact ⟨w1.heap.size, rfl, hsz, ⟨_, heap_alloc_new w1 _, HS.out.alloc _⟩, HB.out.alloc hsz _⟩
  · clear hown
    go_wp2
    go_ret
    exact ⟨w1.heap.size, rfl, hsz, ⟨_, heap_alloc_new w1 _, HS.out.alloc _⟩, HB.out.alloc hsz _⟩

theorem Rd.lt {w : World} {g e : Nat} {l : List UInt8} (h : Rd w g l e) : g < w.heap.size := by
  obtain ⟨sv, hc, _⟩ := h
  exact (Array.getElem?_eq_some_iff.1 hc).1
theorem Rd.below {w w' : World} {g e : Nat} {l : List UInt8} (h : Rd w g l e) (hb : Below w.heap.size w w') : Rd w' g l e := by
  have hlt := h.lt
  obtain ⟨sv, hc, hs⟩ := h
  exact ⟨sv, (hb.block g hlt).trans hc, hs.below hb⟩
/-- Another reader's call leaves this one as it is. -/
theorem Rd.other {w w' : World} {g g' e e' : Nat} {l l' : List UInt8} (h : Rd w g l e) (h' : Rd w g' l' e') (hne : g ≠ g') (ho : Only g' w w') : Rd w' g l e := by
  have hlt := h.lt
  obtain ⟨sv, hc, hs⟩ := h
  obtain ⟨sv', hc', _⟩ := h'
  refine ⟨sv, (ho.grown.block g hlt (by simpa using hne)).trans hc, hs.keep fun k cur hk => ho.grown.block k (Array.getElem?_eq_some_iff.1 hk).1 ?_⟩
  intro he
  injection he with he
  subst he
  unfold RdC at hc'
  rw [hk] at hc'
  injection hc' with hc'
  injection hc' with _ ht
  exact absurd ht (by decide)
theorem RSl.other {w w' : World} {g' e' : Nat} {v : Value} {l l' : List UInt8} (hs : RSl w v l) (h' : Rd w g' l' e') (ho : Only g' w w') : RSl w' v l := by
  obtain ⟨sv', hc', _⟩ := h'
  refine hs.keep fun k cur hk => ho.grown.block k (Array.getElem?_eq_some_iff.1 hk).1 ?_
  intro he
  injection he with he
  subst he
  unfold RdC at hc'
  rw [hk] at hc'
  injection hc' with hc'
  injection hc' with _ ht
  exact absurd ht (by decide)
/-- A reader of the call's own: what was there before the call is as it was. -/
theorem Only.below {B g : Nat} {a w w' : World} (hb : Below B a w) (ho : Only g w w') (hB : B ≤ w.heap.size) (hg : B ≤ g) : Below B a w' :=
  hb.grown ho.grown hB (fun k hk => by injection hk with hk; omega)
end Go.Proofs.YteibkipcblmikaaDoor
namespace Go.Proofs.YteibkipcblmikaaDoor
set_option maxRecDepth 100000
open Go.RowKit
set_option linter.unusedVariables false

theorem refnum_no (n : Int) (w : World) (h : n < 0 ∨ 4294967295 < n) :
    Calls Tryd.prog 26 #[.int .i64 n] w (OwnRet w []) := by
  rcases h with h | h
  · go_enter Tryd.func26, Tryd.ntmps26
    go_wp2_with fail
    go_ret
    exact ⟨_, rfl, World.ownsRow_nil _ _ _ _, Below.refl _ _⟩
  · have h0 : ¬ n < 0 := by omega
    go_enter Tryd.func26, Tryd.ntmps26
    go_wp2_with fail
    go_ret
    exact ⟨_, rfl, World.ownsRow_nil _ _ _ _, Below.refl _ _⟩

set_option maxHeartbeats 1000000 in
set_option maxRecDepth 100000 in
theorem refnum_yes (j : Nat) : ∀ (n : Nat) (w : World), ext n = j → n < 4294967296 →
    Calls Tryd.prog 26 #[.int .i64 n] w (OwnRet w (form n)) := by
  obtain ⟨i0, hi0, hz0, hz1, hz2⟩ := info_parts u8info
  induction j with
  | zero =>
    intro n w hj hn
    have h128 : n < 128 := by
      rcases Nat.lt_or_ge n 128 with h | h
      · exact h
      · rw [ext_big n h (by omega)] at hj; omega
    have HF := hide (form_small n h128)
    clear hj
    go_enter Tryd.func26, Tryd.ntmps26
    go_wp2_with fail
    go_ret
    rw [HF.out]
    exact ⟨_, rfl, own_new1 w _ (Nat.le_refl _) _ _ (by rw [b8_mod]; omega), (Below.refl _ _).alloc (Nat.le_refl _) _⟩
  | succ j ih =>
    intro n w hj hn
    have h128 : 128 ≤ n := by
      rcases Nat.lt_or_ge n 128 with h | h
      · rw [ext_small n h] at hj; omega
      · exact h
    have hb := ext_big n h128 (by omega)
    have hj2 : ext (n / 128) = j := by omega
    have HF := hide (form_big n h128 (by omega))
    have IH := hide (fun w => ih (n / 128) w hj2 (by omega))
    have hfl := form_length (n / 128)
    have hel := ext_le (n / 128)
    have hpos : 0 < (form (n / 128)).length := by omega
    have h5 : (form (n / 128)).length ≤ 5 := by omega
    clear hj hb hj2 ih hfl hel
    go_enter Tryd.func26, Tryd.ntmps26
    go_wp2_with fail
    refine (IH.out _).mono ?_
    rintro e w1 ⟨v1, rfl, hown, hbel⟩
    obtain ⟨g, cap, rfl, hg, hcells⟩ := own_some hown hpos
    have HC := hide hcells
    have hsz := hbel.size
    simp only [World.size_alloc] at hsz hg
    have HB := hide (((Below.refl w.heap.size w).alloc (Nat.le_refl _) _).trans (hbel.mono (by simp)))
    have HO := hide (own_below (own_new1 w w.heap.size (Nat.le_refl _) ((n : Int) % 128 + 128) (b8 (n % 128 + 128)) (by rw [b8_toNat _ (by omega)]; omega)) hbel)
    clear hown hbel hcells
    go_wp2_with (at_builtin; refine wpList_append_own _ rfl _ _ 25 rfl w.heap.size 5 i0 (.int .u8 0) 1 1 Tryd.underlying25 hi0 hz0 hz1 hz2 rfl (by decide) _ _ _ rfl HO.out _ _ _ (bc (form (n / 128))) rfl ?a1 ?a2 ?a3 ?a4 ?a5 ?a6 ?_)
    case a1 => simp [bc_length]
    case a2 => exact HC.out
    case a3 => exact bc_one _
    case a4 => simp only [maxLen]; omega
    case a5 => omega
    case a6 => omega
    intro v2 w2 hown2 hg2 hn2
    go_wp2_with fail
    go_ret
    rw [HF.out]
    refine ⟨v2, rfl, ?_, HB.out.grown hg2 (by omega) (fun k hk => by simp [Value.ownBlock] at hk; omega)⟩
    rw [show b8 (n % 128 + 128) :: form (n / 128) = [b8 (n % 128 + 128)] ++ form (n / 128) from rfl, bc_append, List.length_append]
    exact hown2

theorem refnum_any (n : Int) (w : World) : Calls Tryd.prog 26 #[.int .i64 n] w (OwnRet w (num n)) := by
  by_cases h : n < 0 ∨ 4294967295 < n
  · rw [num_out n h]; exact refnum_no n w h
  · obtain ⟨k, rfl⟩ := Int.eq_ofNat_of_zero_le (show 0 ≤ n by omega)
    rw [num_in _ (by omega) (by omega), Int.toNat_natCast]
    exact refnum_yes _ k w rfl (by omega)

theorem refText_no (s : ByteArray) (w : World) (h : 4096 < s.size) :
    Calls Tryd.prog 49 #[.string s] w (OwnRet w []) := by
  go_enter Tryd.func49, Tryd.ntmps49
  go_wp2_with fail
  go_ret
  exact ⟨_, rfl, World.ownsRow_nil _ _ _ _, Below.refl _ _⟩

set_option maxHeartbeats 1000000 in
theorem refText_yes (s : ByteArray) (w : World) (h : s.size ≤ 4096) :
    Calls Tryd.prog 49 #[.string s] w (OwnRet w (form s.size ++ s.data.toList)) := by
  obtain ⟨i0, hi0, hz0, hz1, hz2⟩ := info_parts u8info
  have hfl := form_length s.size
  have hxl := ext_le s.size
  have hf5 : (form s.size).length ≤ 5 := by omega
  have hconv := fun W => Lib.run_convert_string_bytes (P := Tryd.prog) W 9 25 5 s Tryd.underlying9 Tryd.underlying25 Tryd.underlying5
  clear hfl
  go_enter Tryd.func49, Tryd.ntmps49
  go_wp2_with fail
  refine (refnum_yes _ s.size w rfl (by omega)).mono ?_
  rintro e w1 ⟨v, rfl, hown, hbel⟩
  have hsz := hbel.size
  have HB := hide (hbel.trans ((bytesWorld_below w1 s).mono hsz))
  have HO := hide (own_below hown (bytesWorld_below w1 s))
  have hs2 := Lib.bytesWorld_size w1 5 s
  have hsz2 : w.heap.size ≤ (Lib.bytesWorld w1 5 s).heap.size := by omega
  clear hown hbel hs2
  go_wp2_with (at_builtin; refine wpList_append_own _ rfl _ _ 25 rfl w.heap.size 5 i0 (.int .u8 0) 1 1 Tryd.underlying25 hi0 hz0 hz1 hz2 rfl (by decide) _ _ _ rfl HO.out _ _ _ (bc s.data.toList) rfl ?a1 ?a2 ?a3 ?a4 ?a5 ?a6 ?_)
  case a1 => simp [bc_length]
  case a2 =>
    intro j u hj
    have hjl : j < s.size := by
      have := (List.getElem?_eq_some_iff.1 hj).1
      simpa [bc] using this
    rw [Addr.add_lit, Nat.zero_add, Lib.bytesWorld_cell w1 _ s j hjl]
    simpa [bc, List.getD, hjl] using hj
  case a3 => exact bc_one _
  case a4 => simp only [maxLen]; omega
  case a5 => omega
  case a6 => exact hsz2
  intro v1 w2 hown1 hg1 hn1
  go_wp2_with fail
  go_ret
  refine ⟨v1, rfl, ?_, ?_⟩
  · rw [bc_append, List.length_append]
    exact hown1
  · exact HB.out.grown hg1 hsz2 (fun q hq => (HO.out.lt q hq).1)

theorem refText_any (s : ByteArray) (w : World) : Calls Tryd.prog 49 #[.string s] w (OwnRet w (txt s.data.toList)) := by
  have hl : s.data.toList.length = s.size := by simp
  by_cases h : 4096 < s.size
  · rw [txt_out _ (by omega)]; exact refText_no s w h
  · rw [txt_in _ (by omega), hl]; exact refText_yes s w (by omega)

theorem same_yes (v1 v2 : Value) (s : ByteArray) (w : World) (h1 : (convert 25 9 v1).run Tryd.prog w = .ok (.string s) w) (h2 : (convert 25 9 v2).run Tryd.prog w = .ok (.string s) w) :
    Calls Tryd.prog 13 #[v1, v2] w fun e w' => e = .returned (.bool true) ∧ w = w' := by
  go_enter Tryd.func13, Tryd.ntmps13
  go_wp2
  go_ret
  exact ⟨by simp, rfl⟩
end Go.Proofs.YteibkipcblmikaaDoor
