/-
  The walk of the law PackLength: it answers true at every input, and changes nothing that was there. No conditions beyond the kinds of its arguments.
-/
import Derived.Test.YtainkbcjfhejmaaAwake
import Derived.OpenShut
namespace Go.Proofs.Ytainkbcjfhejmaa
open Go.RowKit
set_option linter.unusedVariables false

/-- While want is counted: x is n divided by 128 so many times as were counted. -/
def WantRel (n : Nat) (want x : Value) : Prop := ∃ k m : Nat, want = .int .i64 (k : Nat) ∧ x = .int .u32 (m : Nat) ∧ m < 33554432 ∧ k ≤ 5 ∧ k + (if m = 0 then 0 else ext m + 1) = ext n + 1

theorem ext_div (n : Nat) (h : n < 4294967296) : 1 + (if n / 128 = 0 then 0 else ext (n / 128) + 1) = ext n + 1 := by
  by_cases h0 : n < 128
  · rw [if_pos (by omega), ext_small n h0]
  · rw [if_neg (by omega), ext_big n (by omega) (by omega)]; omega

set_option maxHeartbeats 1000000 in
theorem len_big (a0 a1 : Int) (a2 : ByteArray) (w : World) (h : 4096 < a2.size) :
    Calls Try.prog 8 #[.int .u32 a0, .int .u32 a1, .string a2] w (TrueRet w) := by
  go_enter Try.func8, Try.ntmps8
  go_wp2_with fail
  refine (awake_any w).mono ?_
  rintro e w1 ⟨rfl, hb⟩
  have HB := hide hb
  clear hb
  go_wp2
  go_ret
  exact ⟨rfl, HB.out⟩

/-- A row's slice as a value with its length. -/
theorem own_len {w : World} {base : Nat} {v : Value} {l : List UInt8} (h : w.ownsRow base 5 1 v l.length (bc l)) : ∃ a c, v = .slice a l.length c := by
  rcases h.2 with ⟨rfl, h0⟩ | ⟨g, cap, cur, rfl, _⟩
  · exact ⟨none, 0, by rw [h0]⟩
  · exact ⟨_, cap, rfl⟩

set_option maxHeartbeats 2000000 in
set_option maxRecDepth 100000 in
theorem len_small (n m : Nat) (a2 : ByteArray) (w : World) (hn : n < 4294967296) (hm : m < 4294967296) (h : a2.size ≤ 4096) :
    Calls Try.prog 8 #[.int .u32 n, .int .u32 m, .string a2] w (TrueRet w) := by
  have hext := ext_le n
  have hmono := hide (ext_mono n m)
  go_enter Try.func8, Try.ntmps8
  go_wp2_with fail
  refine (awake_any w).mono ?_
  rintro e w1 ⟨rfl, hb1⟩
  have B1 := hide hb1
  have s1 := hb1.size
  clear hb1
  go_wp2_with fail
  refine (num_yes n w1 (by omega)).mono ?_
  rintro e w2 ⟨v2, rfl, hown, hb⟩
  obtain ⟨av, cv, rfl⟩ := own_len hown
  rw [form_length]
  have B2 := hide (B1.out.trans (hb.mono s1))
  have s2 := B2.out.size
  clear hown hb B1
  go_wp2_with fail
  refine (num_yes m w2 (by omega)).mono ?_
  rintro e w3 ⟨v3, rfl, hown, hb⟩
  obtain ⟨av2, cv2, rfl⟩ := own_len hown
  rw [form_length]
  have B3 := hide (B2.out.trans (hb.mono s2))
  have s3 := B3.out.size
  clear hown hb B2
  go_wp2_with fail
  go_loop [10, 11] (WantRel n) (fun _ x => (intOf x).toNat)
  case atStart => exact ⟨1, n / 128, rfl, by go_num, by omega, by omega, ext_div n hn⟩
  case round =>
    obtain ⟨k, x, rfl, rfl, hx, hk, heq⟩ := hrel
    have Heq := hide heq
    clear heq
    by_cases h0 : x = 0
    · subst h0
      have hkk : k = ext n + 1 := by simpa using Heq.out
      clear Heq
      subst hkk
      have hc : m < n ∨ (n ≤ m ∧ ext n ≤ ext m) := by
        rcases Nat.lt_or_ge m n with h' | h'
        · exact .inl h'
        · exact .inr ⟨h', hmono.out h'⟩
      have hel := ext_le a2.size
      have hel2 := ext_le m
      rcases hc with hc | ⟨hc, hle⟩
      all_goals
        go_wp2_with fail
        refine (Text_yes a2 w3 h).mono ?_
        rintro e w4 ⟨v4, rfl, hown, hb⟩
        obtain ⟨av4, cv4, rfl⟩ := own_len hown
        rw [List.length_append, form_length, show a2.data.toList.length = a2.size by simp]
        have B4 := hide (B3.out.trans (hb.mono s3))
        have s4 := B4.out.size
        clear hown hb
        go_wp2_with fail
        refine (num_yes a2.size w4 (by omega)).mono ?_
        rintro e w5 ⟨v5, rfl, hown, hb⟩
        obtain ⟨av5, cv5, rfl⟩ := own_len hown
        rw [form_length]
        have B5 := hide (B4.out.trans (hb.mono s4))
        clear hown hb B4
        have hq : ((ext a2.size : Int) + 1 + (a2.size : Int) == (ext a2.size : Int) + 1 + (a2.size : Int)) = true := by simp
        go_wp2
        go_ret
        exact ⟨rfl, B5.out⟩
    · have hx2 : (if x = 0 then 0 else ext x + 1) = 1 + (if x / 128 = 0 then 0 else ext (x / 128) + 1) := by rw [if_neg h0, ext_div x (by omega)]
      have e := Heq.out
      rw [hx2] at e
      have E := hide e
      have hk4 : k ≤ 4 := by omega
      clear e hx2 Heq
      go_wp2
      go_round
      case rel => exact ⟨k + 1, x / 128, by go_num, by go_num, by omega, by omega, by have := E.out; omega⟩
      case measure => simp [intOf]; omega

theorem packLength_walk (a0 : Int) (a1 : Int) (a2 : ByteArray) (w : World) (w0 : (Lit.int .u32 a0).wf = true) (w1 : (Lit.int .u32 a1).wf = true) (w2 : a2.size ≤ maxLen) :
    Calls Try.prog 8 #[.int .u32 a0, .int .u32 a1, .string a2] w (TrueRet w) := by
  have b0 := bounds_u32 w0
  have b1 := bounds_u32 w1
  obtain ⟨n, rfl⟩ := Int.eq_ofNat_of_zero_le b0.1
  obtain ⟨m, rfl⟩ := Int.eq_ofNat_of_zero_le b1.1
  by_cases h : 4096 < a2.size
  · exact len_big _ _ a2 w h
  · exact len_small n m a2 w (by omega) (by omega) (by omega)
end Go.Proofs.Ytainkbcjfhejmaa
