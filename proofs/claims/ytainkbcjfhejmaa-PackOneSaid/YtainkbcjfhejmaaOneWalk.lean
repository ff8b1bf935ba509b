/-
  The walk of the law PackOne: it answers true at every input, and changes nothing that was there. No conditions beyond the kinds of its arguments.
-/
import Derived.Test.YtainkbcjfhejmaaArgs
import Derived.Deep.RegionWith
namespace Go.Proofs.Ytainkbcjfhejmaa
open Go.RowKit
set_option linter.unusedVariables false

/-- What is scanned is a form. -/
theorem scanF_inv (f i acc : Nat) (l : List UInt8) (h : (scanF f i acc l).2.2 = 0) :
    ∃ m j, j < f ∧ (scanF f i acc l).2.1 = i + j + 1 ∧ l.take (j + 1) = formX j m ∧ (scanF f i acc l).1 = acc + m * 128 ^ i ∧ m < 128 ^ (j + 1) ∧ (j ≠ 0 ∨ 0 < i → m / 128 ^ j ≠ 0) := by
  induction f generalizing i acc l with
  | zero => simp [scanF] at h
  | succ f ih =>
    cases l with
    | nil => simp [scanF] at h
    | cons x t =>
      have hx256 := UInt8.toNat_lt x
      unfold scanF at h ⊢
      by_cases hx : 128 ≤ x.toNat
      · rw [if_pos hx] at h ⊢
        obtain ⟨m, j, hj, h1, h2, h3, h4, h5⟩ := ih _ _ _ h
        have hq : (x.toNat % 128 + 128 * m) / 128 = m := by omega
        refine ⟨x.toNat % 128 + 128 * m, j + 1, by omega, by omega, ?_, ?_, ?_, fun _ => ?_⟩
        · rw [List.take_succ_cons, h2]
          simp only [formX]
          rw [hq]
          congr 1
          have : (x.toNat % 128 + 128 * m) % 128 + 128 = x.toNat := by omega
          rw [this]
          simp [b8]
        · rw [h3, Nat.pow_succ, Nat.add_mul, Nat.add_assoc]
          congr 2
          rw [Nat.mul_comm (128 ^ i) 128, ← Nat.mul_assoc, Nat.mul_comm m 128]
        · rw [Nat.pow_succ]; omega
        · rw [show 128 ^ (j + 1) = 128 * 128 ^ j by rw [Nat.pow_succ, Nat.mul_comm], ← Nat.div_div_eq_div_mul, hq]
          exact h5 (.inr (by omega))
      · rw [if_neg hx] at h ⊢
        by_cases h0 : x.toNat = 0 ∧ 0 < i
        · rw [if_pos h0] at h
          simp at h
        · rw [if_neg h0] at h ⊢
          refine ⟨x.toNat % 128, 0, by omega, rfl, ?_, rfl, by simp; omega, fun hh => ?_⟩
          · simp only [List.take_succ_cons, List.take_zero, formX]
            congr 1
            rw [Nat.mod_eq_of_lt (by omega)]
            simp [b8]
          · simp only [Nat.pow_zero, Nat.div_one]
            omega

theorem ext_unique (m j : Nat) (hj : j ≤ 4) (h1 : m < 128 ^ (j + 1)) (h2 : j ≠ 0 → m / 128 ^ j ≠ 0) : ext m = j := by
  have hc : j = 0 ∨ j = 1 ∨ j = 2 ∨ j = 3 ∨ j = 4 := by omega
  unfold ext
  rcases hc with rfl | rfl | rfl | rfl | rfl
  all_goals simp only [Nat.reduceAdd, Nat.reducePow, ne_eq, Nat.reduceEqDiff, not_false_eq_true, true_imp_iff, not_true_eq_false, false_imp_iff] at h1 h2
  all_goals repeat' split
  all_goals omega

theorem scan_is_form (l : List UInt8) (h : (scan l).2.2 = 0) : form (scan l).1 = l.take (scan l).2.1 ∧ 1 ≤ (scan l).2.1 ∧ (scan l).2.1 ≤ 5 ∧ (scan l).2.1 ≤ l.length := by
  obtain ⟨m, j, hj, h1, h2, h3, h4, h5⟩ := scanF_inv 5 0 0 l h
  have hs : 0 < (scan l).2.1 ∧ (scan l).2.1 ≤ 0 + l.length ∧ (scan l).2.1 ≤ 0 + 5 := scanF_size 5 0 0 l h
  have e1 : (scan l).2.1 = j + 1 := by have : (scan l).2.1 = 0 + j + 1 := h1; omega
  have e3 : (scan l).1 = m := by have : (scan l).1 = 0 + m * 128 ^ 0 := h3; simpa using this
  refine ⟨?_, by omega, by omega, by omega⟩
  rw [e1, e3, h2]
  unfold form
  rw [ext_unique m j (by omega) h4 (fun hh => h5 (.inl hh))]

set_option maxHeartbeats 1000000 in
theorem one_big (a0 : Option Addr) (len cap : Nat) (w : World) (h : 300 < len) (hc : len ≤ cap) (hm : cap ≤ maxLen) :
    Calls Try.prog 6 #[.slice a0 len cap] w (TrueRet w) := by
  unfold maxLen at hm
  go_enter Try.func6, Try.ntmps6
  go_wp2_with fail
  refine (awake_any w).mono ?_
  rintro e w1 ⟨rfl, hb⟩
  have HB := hide hb
  clear hb
  go_wp2_with fail
  go_ret
  exact ⟨rfl, HB.out⟩

set_option maxHeartbeats 4000000 in
set_option maxRecDepth 100000 in
theorem one_wrong (a0 : Option Addr) (cap x : Nat) (l : List UInt8) (w : World) (h : l.length ≤ 300) (hh : Hnd w (.slice a0 l.length cap) l) (hr : rNum 4294967295 l 0 = (0, [], x)) (hx : x = 2 ∨ x = 3) :
    Calls Try.prog 6 #[.slice a0 l.length cap] w (TrueRet w) := by
  have HH := hide hh
  have HR := hide hr
  clear hh hr
  go_enter Try.func6, Try.ntmps6
  go_wp2_with fail
  refine (awake_any w).mono ?_
  rintro e w1 ⟨rfl, hb1⟩
  have B1 := hide hb1
  have s1 := hb1.size
  clear hb1
  go_wp2_with fail
  refine (new_any _ l w1 (by omega) (HH.out.below B1.out)).mono ?_
  rintro e w2 ⟨g, rfl, hg, hrd, hb⟩
  have B2 := hide (B1.out.trans (hb.mono s1))
  have s2 := B2.out.size
  have R2 := hide hrd
  clear hb hrd B1
  go_wp2_with fail
  have k1 := number_any g 0 _ 4294967295 w2 R2.out
  rw [HR.out] at k1
  refine k1.mono ?_
  clear k1
  rintro e w3 ⟨rfl, hrd, ho⟩
  have R3 := hide hrd
  have B3 := hide (Only.below B2.out ho s2 (by omega))
  clear hrd ho R2 B2
  rcases hx with rfl | rfl
  · go_wp2_with fail
    refine (err_any g _ _ w3 R3.out).mono ?_
    rintro e w10 ⟨rfl, rfl⟩
    go_wp2_with fail
    refine (left_any g _ _ w3 R3.out).mono ?_
    rintro e w10 ⟨rfl, rfl⟩
    go_wp2_with fail
    refine (err_any g _ _ w3 R3.out).mono ?_
    rintro e w10 ⟨rfl, rfl⟩
    go_wp2_with fail
    go_ret
    exact ⟨rfl, B3.out⟩
  · go_wp2_with fail
    refine (err_any g _ _ w3 R3.out).mono ?_
    rintro e w10 ⟨rfl, rfl⟩
    go_wp2_with fail
    refine (left_any g _ _ w3 R3.out).mono ?_
    rintro e w10 ⟨rfl, rfl⟩
    go_wp2_with fail
    refine (err_any g _ _ w3 R3.out).mono ?_
    rintro e w10 ⟨rfl, rfl⟩
    go_wp2_with fail
    refine (err_any g _ _ w3 R3.out).mono ?_
    rintro e w10 ⟨rfl, rfl⟩
    go_wp2_with fail
    go_ret
    exact ⟨rfl, B3.out⟩

set_option maxHeartbeats 4000000 in
set_option maxRecDepth 100000 in
theorem one_right (b o cap n q m : Nat) (l : List UInt8) (w : World) (h : l.length ≤ 300) (hcap : l.length ≤ cap) (hh : Hnd w (.slice (some ⟨b, o, none⟩) l.length cap) l)
    (hcells : ∀ j (h : j < l.length), w.cell? ⟨b, o + j, none⟩ = some (.int .u8 l[j].toNat))
    (hr : rNum 4294967295 l 0 = (n, l.drop q, 0)) (hm : (l.drop q).length = m) (hf : form n = l.take q) (hn : n ≤ 4294967295) (h1 : 1 ≤ q) (h5 : q ≤ 5) (hql : q ≤ l.length) :
    Calls Try.prog 6 #[.slice (some ⟨b, o, none⟩) l.length cap] w (TrueRet w) := by
  have HH := hide hh
  have HR := hide hr
  have HM := hide hm
  have HF := hide hf
  have HC := hide hcells
  have hlen : (l.length : Int) - m = (q : Int) := by rw [List.length_drop] at hm; omega
  have hmb : m ≤ 300 := by rw [List.length_drop] at hm; omega
  have hhd := fun W => run_head b o l.length cap q (by omega) W
  clear hh hr hm hf hcells
  go_enter Try.func6, Try.ntmps6
  go_wp2_with fail
  refine (awake_any w).mono ?_
  rintro e w1 ⟨rfl, hb1⟩
  have B1 := hide hb1
  have s1 := hb1.size
  clear hb1
  go_wp2_with fail
  refine (new_any _ l w1 (by omega) (HH.out.below B1.out)).mono ?_
  rintro e w2 ⟨g, rfl, hg, hrd, hb⟩
  have B2 := hide (B1.out.trans (hb.mono s1))
  have s2 := B2.out.size
  have R2 := hide hrd
  clear hb hrd B1
  go_wp2_with fail
  have k1 := number_any g 0 _ 4294967295 w2 R2.out
  rw [HR.out] at k1
  refine k1.mono ?_
  clear k1
  rintro e w3 ⟨rfl, hrd, ho⟩
  have R3 := hide hrd
  have B3 := hide (Only.below B2.out ho s2 (by omega))
  have s3 := B3.out.size
  clear hrd ho R2 B2
  go_wp2_with fail
  refine (err_any g _ _ w3 R3.out).mono ?_
  rintro e w10 ⟨rfl, rfl⟩
  go_wp2_with fail
  refine (left_any g _ _ w3 R3.out).mono ?_
  rintro e w10 ⟨rfl, rfl⟩
  rw [HM.out]
  go_wp2_with fail
  go_region_with (first
    | (go_at_call 11
       refine (num_yes n _ hn).mono ?_
       rintro e w4 ⟨v4, rfl, hown, hb⟩
       have hb' : Below w3.heap.size w3 w4 := ⟨hb.os, hb.tape, hb.output, hb.size, hb.block⟩
       have B4 := hide (B3.out.trans (hb'.mono s3))
       have C4 := hide (conv_any w4 v4 _ (RSl.of_own hown))
       rw [HF.out] at C4
       have C5 := hide (conv_cells w4 b o q cap (l.take q) (by rw [List.length_take]; omega) (cells_take (cells_below HC.out B4.out) q))
       clear hown hb hb')
    | (go_at_call 10
       refine (same_yes _ _ _ _ C4.out C5.out).mono ?_
       rintro e w6 ⟨rfl, rfl⟩))
  all_goals
    go_wp2_with fail
    go_ret
    exact ⟨rfl, B4.out⟩

theorem packOne_walk (a0 : Option Addr) (len0 cap0 : Nat) (z0 : List Int) (w : World) (w0 : IsRow .u8 w a0 len0 cap0 z0) :
    Calls Try.prog 6 #[.slice a0 len0 cap0] w (TrueRet w) := by
  obtain ⟨hl, hc, hm, hh, hlit⟩ := ByteArg.of_row w0
  generalize rowBytes z0 len0 = l at hl hh hlit
  subst hl
  by_cases h : 300 < l.length
  · exact one_big a0 _ cap0 w h hc hm
  · by_cases hx : (scan l).2.2 = 0
    · obtain ⟨hf, h1, h5, hql⟩ := scan_is_form l hx
      obtain ⟨b, o, rfl, hcells⟩ := hlit (by omega)
      by_cases ha : min (4294967295 : Int) 4294967295 < ((scan l).1 : Int)
      · have e1 : rNum 4294967295 l 0 = (0, [], 3) := by unfold rNum; rw [if_neg (by simp), if_neg (by simpa using hx), if_pos ha]
        exact one_wrong _ cap0 3 l w (by omega) hh e1 (.inr rfl)
      · have e1 : rNum 4294967295 l 0 = ((scan l).1, l.drop (scan l).2.1, 0) := by unfold rNum; rw [if_neg (by simp), if_neg (by simpa using hx), if_neg ha]
        exact one_right b o cap0 _ _ _ l w (by omega) hc hh hcells e1 rfl hf (by omega) h1 h5 hql
    · have e1 : rNum 4294967295 l 0 = (0, [], (scan l).2.2) := by unfold rNum; rw [if_neg (by simp), if_pos hx]
      have he : (scan l).2.2 = 0 ∨ (scan l).2.2 = 2 ∨ (scan l).2.2 = 3 := scanF_err 5 0 0 l
      exact one_wrong _ cap0 _ l w (by omega) hh e1 (by omega)
end Go.Proofs.Ytainkbcjfhejmaa
