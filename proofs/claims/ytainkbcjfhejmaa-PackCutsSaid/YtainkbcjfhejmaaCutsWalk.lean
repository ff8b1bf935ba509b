/-
  The walk of the law PackCuts: it answers true at every input, and changes nothing that was there. No conditions beyond the kinds of its arguments.
-/
import Derived.Test.YtainkbcjfhejmaaRef
import Derived.OpenShut
namespace Go.Proofs.Ytainkbcjfhejmaa
open Go.RowKit
set_option linter.unusedVariables false

theorem cut_txt (s : List UInt8) (q : Nat) (hs : s.length ≤ 100) (hq : q < (form s.length ++ s).length) : rTxt 100 ((form s.length ++ s).take q) 0 = ([], [], 2) := by
  rw [form_small _ (by omega)] at hq ⊢
  rcases q with _ | q
  · rfl
  · simp only [List.singleton_append, List.take_succ_cons]
    have hq' : q < s.length := by simpa using hq
    have hsc : scan (b8 s.length :: s.take q) = (s.length, 1, 0) := by
      have := scan_form s.length (by omega) (s.take q)
      rw [form_small _ (by omega)] at this
      exact this
    have hn : rNum 100 (b8 s.length :: s.take q) 0 = (s.length, s.take q, 0) := by
      unfold rNum
      rw [hsc, if_neg (by simp), if_neg (by simp), if_neg (by simp only; omega)]
      rfl
    unfold rTxt
    rw [hn, if_neg (by simp), if_pos (by simp; omega)]
theorem above_num (n : Nat) (top : Int) (t : List UInt8) (h : n < 4294967296) (ht : top < (n : Int)) : rNum top (form n ++ t) 0 = (0, [], 3) := by
  unfold rNum
  rw [scan_form n h, if_neg (by simp), if_neg (by simp), if_pos (by simp only; omega)]
theorem wrong_num (top : Int) (l : List UInt8) (e : Nat) (he : e ≠ 0) : rNum top l e = (0, l, e) := by
  unfold rNum
  rw [if_pos he]

set_option maxHeartbeats 1000000 in
theorem cuts_big (a0 : ByteArray) (a1 a2 a3 : Int) (w : World) (h : 100 < a0.size) :
    Calls Try.prog 7 #[.string a0, .int .u8 a1, .int .u32 a2, .int .u32 a3] w (TrueRet w) := by
  go_enter Try.func7, Try.ntmps7
  go_wp2_with fail
  refine (awake_any w).mono ?_
  rintro e w1 ⟨rfl, hb⟩
  have HB := hide hb
  clear hb
  go_wp2_with fail
  go_ret
  exact ⟨rfl, HB.out⟩

set_option maxHeartbeats 4000000 in
set_option maxRecDepth 100000 in
theorem cuts_small (a0 : ByteArray) (at_ n less : Nat) (w : World) (h : a0.size ≤ 100) (ha : at_ < 256) (hn : n < 4294967296) (hless : less < 4294967296) :
    Calls Try.prog 7 #[.string a0, .int .u8 at_, .int .u32 n, .int .u32 less] w (TrueRet w) := by
  obtain ⟨i0, hi0, hz0, hz1, hz2⟩ := info_parts u8info
  have hl0 : a0.data.toList.length = a0.size := by simp
  have HT := hide (cut_txt a0.data.toList (at_ % (form a0.size ++ a0.data.toList).length) (by omega) (Nat.mod_lt _ (by rw [List.length_append, form_length]; omega)))
  rw [hl0] at HT
  clear hl0
  go_enter Try.func7, Try.ntmps7
  go_wp2_with fail
  refine (awake_any w).mono ?_
  rintro e w1 ⟨rfl, hb1⟩
  have B1 := hide hb1
  have s1 := hb1.size
  clear hb1
  go_wp2_with fail
  refine (Text_yes a0 w1 (by omega)).mono ?_
  generalize hL : form a0.size ++ a0.data.toList = L at HT ⊢
  have hL0 : 0 < L.length := by rw [← hL, List.length_append, form_length]; omega
  have hL5 : L.length ≤ 106 := by have := ext_le a0.size; rw [← hL, List.length_append, form_length]; simp; omega
  clear hL
  rintro e w2 ⟨v2, rfl, hown, hb⟩
  have B2 := hide (B1.out.trans (hb.mono s1))
  have s2 := B2.out.size
  rcases hown.2 with ⟨_, h0⟩ | ⟨g, cap, cur, rfl, hgb, hgg, hnc, hcm, hcs, htake⟩
  · omega
  have hqlt := Nat.mod_lt at_ hL0
  generalize hq : at_ % L.length = q at HT hqlt
  have hhd : ∀ W, (Instr.slice 24 (.slice (some ⟨g, 0, none⟩) L.length cap) none (some (.int .i64 ((at_ : Int) % (L.length : Int)))) none).run Try.prog W = .ok (.slice (some ⟨g, 0, none⟩) q cap) W := by
    intro W
    rw [← Int.natCast_emod, hq]
    exact run_head g 0 L.length cap q (by omega) W
  have HS := hide (RSl_head (o := 0) hnc hcm hgg (by simpa using htake) q (by omega))
  have hne : ((L.length : Int) == 0) = false := by rw [beq_eq_false_iff_ne]; omega
  clear hown hb B1 hgg hcs htake hcm hq
  go_wp2_with fail
  refine (new_any _ _ w2 ?_ (Hnd.of_RSl HS.out)).mono ?_
  · rw [List.length_take]; omega
  rintro e w3 ⟨g1, rfl, hg1, hrd, hb⟩
  have B3 := hide (B2.out.trans (hb.mono s2))
  have s3 := B3.out.size
  have R3 := hide hrd
  have s23 := hb.size
  clear hb hrd B2 HS hhd
  go_wp2_with fail
  refine (num_yes n w3 (by omega)).mono ?_
  rintro e w4 ⟨v4, rfl, hown, hb⟩
  have B4 := hide (B3.out.trans (hb.mono s3))
  have s4 := B4.out.size
  have s34 := hb.size
  have H34 := hide hb
  have O4 := hide hown
  have hf5 : (form n).length ≤ 5 := by have := ext_le n; rw [form_length]; omega
  clear hown hb B3
  go_wp2_with (at_builtin; refine wpList_append_own _ rfl _ _ 24 rfl w3.heap.size 5 i0 (.int .u8 0) 1 1 Try.underlying24 hi0 hz0 hz1 hz2 rfl (by decide) _ _ _ rfl (O4.out.alloc _) _ _ _ (bc [0]) rfl ?a1 ?a2 ?a3 ?a4 ?a5 ?a6 ?_)
  case a1 => rfl
  case a2 => exact cell_new1 _ _ _ rfl
  case a3 => exact bc_one _
  case a4 => simp only [maxLen]; omega
  case a5 => omega
  case a6 => simp; omega
  intro v5 w5 hown5 hg5 hn5
  have hgr : Below w3.heap.size w4 w5 := ((Below.refl w3.heap.size w4).alloc s34 _).grown hg5 (by simp; omega) (fun k hk => (O4.out.lt k hk).1)
  have B5 := hide (B4.out.trans (hgr.mono s3))
  have s5 := B5.out.size
  have s45 := hgr.size
  have g1lt := R3.out.lt
  have R5 := hide (R3.out.below (H34.out.trans hgr))
  have O5 := hide (RSl.of_own (l := form n ++ [0]) (by rw [bc_append, List.length_append]; exact hown5))
  clear hown5 hg5 hn5 hgr B4 H34 R3 O4
  go_wp2_with fail
  refine (new_any v5 _ w5 (by rw [List.length_append]; simp; omega) (Hnd.of_RSl O5.out)).mono ?_
  rintro e w6 ⟨g2, rfl, hg2, hrd, hb⟩
  have B6 := hide (B5.out.trans (hb.mono s5))
  have s6 := B6.out.size
  have R6 := hide (R5.out.below hb)
  have X6 := hide hrd
  clear hb hrd B5 R5 O5
  have hgne : g1 ≠ g2 := by omega
  have HNE := hide hgne
  clear hgne
  go_wp2_with fail
  have k1 := text_any g1 0 _ 100 w6 R6.out
  rw [HT.out, show bs ((([], [], 2) : List UInt8 × List UInt8 × Nat)).1 = ⟨#[]⟩ from rfl] at k1
  refine k1.mono ?_
  clear k1
  rintro e w7 ⟨rfl, hrd, ho⟩
  have R7 := hide hrd
  have X7 := hide (X6.out.other R6.out HNE.out.symm ho)
  have B7 := hide (Only.below B6.out ho s6 (by omega))
  have s7 := B7.out.size
  clear hrd ho R6 X6 B6
  go_wp2_with fail
  have k1 := number_any g2 0 _ ((n : Int) - 1 - less) w7 X7.out
  rw [above_num n _ [0] hn (by omega)] at k1
  refine k1.mono ?_
  clear k1
  rintro e w8 ⟨rfl, hrd, ho⟩
  have X8 := hide hrd
  have R8 := hide (R7.out.other X7.out HNE.out ho)
  have B8 := hide (Only.below B7.out ho s7 (by omega))
  have s8 := B8.out.size
  clear hrd ho R7 X7 B7
  go_wp2_with fail
  have k1 := number_any g2 3 _ 4294967295 w8 X8.out
  rw [wrong_num _ _ 3 (by decide)] at k1
  refine k1.mono ?_
  clear k1
  rintro e w9 ⟨rfl, hrd, ho⟩
  have X9 := hide hrd
  have R9 := hide (R8.out.other X8.out HNE.out ho)
  have B9 := hide (Only.below B8.out ho s8 (by omega))
  clear hrd ho R8 X8 B8
  go_wp2_with fail
  refine (err_any g1 _ _ w9 R9.out).mono ?_
  rintro e w10 ⟨rfl, rfl⟩
  go_wp2_with fail
  refine (left_any g1 _ _ w9 R9.out).mono ?_
  rintro e w10 ⟨rfl, rfl⟩
  go_wp2_with fail
  refine (err_any g2 _ _ w9 X9.out).mono ?_
  rintro e w10 ⟨rfl, rfl⟩
  go_wp2_with fail
  refine (left_any g2 _ _ w9 X9.out).mono ?_
  rintro e w10 ⟨rfl, rfl⟩
  go_wp2_with fail
  go_ret
  exact ⟨rfl, B9.out⟩

theorem packCuts_walk (a0 : ByteArray) (a1 a2 a3 : Int) (w : World) (w0 : a0.size ≤ maxLen) (w1 : (Lit.int .u8 a1).wf = true) (w2 : (Lit.int .u32 a2).wf = true) (w3 : (Lit.int .u32 a3).wf = true) :
    Calls Try.prog 7 #[.string a0, .int .u8 a1, .int .u32 a2, .int .u32 a3] w (TrueRet w) := by
  have b1 := bounds_u8 w1
  have b2 := bounds_u32 w2
  have b3 := bounds_u32 w3
  obtain ⟨x, rfl⟩ := Int.eq_ofNat_of_zero_le b1.1
  obtain ⟨n, rfl⟩ := Int.eq_ofNat_of_zero_le b2.1
  obtain ⟨m, rfl⟩ := Int.eq_ofNat_of_zero_le b3.1
  by_cases h : 100 < a0.size
  · exact cuts_big a0 _ _ _ w h
  · exact cuts_small a0 x n m w (by omega) (by omega) (by omega) (by omega)
end Go.Proofs.Ytainkbcjfhejmaa
