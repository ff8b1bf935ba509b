/-
  The walk of the law SumLike: it answers true at every input, and changes nothing that was there. No conditions beyond the kinds of its arguments.
-/
import Derived.Test.YtdflpciabdjhnaaSumAwake
import Derived.Test.YtdflpciabdjhnaaAppendB
import Derived.Test.YtdflpciabdjhnaaLikePure
import Derived.Deep.RegionHeld3
import Derived.Deep.CutRange
namespace Go.Proofs.Ytdflpciabdjhnaa
open Go.RowKit
set_option linter.unusedVariables false

theorem min3 (a b c n : Nat) (h : n = min (min a b) c) : (if (c : Int) < if b < a then (b : Int) else (a : Int) then (c : Int) else if b < a then (b : Int) else (a : Int)) = (n : Int) := by
  split <;> split <;> omega

/-- After i rounds. -/
def LikeRel (w : World) (B n gx cx gy cy : Nat) (l0 l1 l2 : List UInt8) (c : Value) (wr : World) : Prop :=
  ∃ i : Nat, c = .int .i64 i ∧ i ≤ n ∧ wr.ownsRow w.heap.size 5 1 (.slice (some ⟨gx, 0, none⟩) n cx) n (bc (mixL n l0 l2 i)) ∧
    wr.ownsRow B 5 1 (.slice (some ⟨gy, 0, none⟩) n cy) n (bc (mixL n l1 l2 i)) ∧ Below w.heap.size w wr

set_option maxHeartbeats 1000000 in
set_option maxRecDepth 100000 in
theorem like_any (a0 a1 a2 : Option Addr) (cap0 cap1 cap2 n : Nat) (l0 l1 l2 : List UInt8) (w : World) (hm0 : l0.length ≤ maxLen) (hm1 : l1.length ≤ maxLen) (hm2 : l2.length ≤ maxLen)
    (hmin : n = min (min l0.length l1.length) l2.length) (hh0 : Hnd w (.slice a0 l0.length cap0) l0) (hh1 : Hnd w (.slice a1 l1.length cap1) l1) (hh2 : Hnd w (.slice a2 l2.length cap2) l2) (n0 : a0 = none → cap0 = 0) (n1 : a1 = none → cap1 = 0) (c0 : l0.length ≤ cap0) (c1 : l1.length ≤ cap1) :
    Calls Try.prog 7 #[.slice a0 l0.length cap0, .slice a1 l1.length cap1, .slice a2 l2.length cap2] w (TrueRet w) := by
  have hm : maxLen = 9223372036854775807 := rfl
  have H0 := hide hh0
  have H1 := hide hh1
  have H2 := hide hh2
  have N0 := hide n0
  have N1 := hide n1
  have em := hide (min3 l0.length l1.length l2.length n hmin)
  have h0 : n ≤ l0.length := by omega
  have h1 : n ≤ l1.length := by omega
  have h2 : n ≤ l2.length := by omega
  clear hh0 hh1 hh2 n0 n1 hmin
  go_enter Try.func7, Try.ntmps7
  go_wp2_with fail
  refine (awake_any w).mono ?_
  rintro e w1 ⟨rfl, hb⟩
  have B1 := hide hb
  have s1 := hb.size
  have C1 := hide (hb.alloc s1 (.cells #[] 5))
  clear hb
  go_upto_region 3 with (fail)
  rw [em.out]
  clear em
  by_cases hn : n ≤ 300
  case neg =>
    go_wp2
    go_ret
    exact ⟨rfl, B1.out⟩
  have r0 := run_head_any a0 l0.length cap0 n (by omega)
  have r1 := run_head_any a1 l1.length cap1 n (by omega)
  have K0 := hide (H0.out.head n h0)
  have K1 := hide (H1.out.head n h1)
  have T0 : Hid ((l0.take n).length = n) := hide (by simp; omega)
  have T1 : Hid ((l1.take n).length = n) := hide (by simp; omega)
  go_wp2_with (at_builtin; refine wpList_append_b _ rfl _ _ rfl w.heap.size _ 0 [] rfl (own_new0 w1 w.heap.size s1) a0 n cap0 (l0.take n) rfl T0.out N0.out (K0.out.below C1.out) (by omega) (by simp; omega) ?_)
  intro v2 w2 hown hg hv
  obtain ⟨gx, cx, rfl, hgx, hgx2⟩ := own_form hown (fun e => by have := hv e; cases this)
  have B2 := hide (C1.out.grown hg (by simp; omega) (fun q hq => by simp [Value.ownBlock] at hq; omega))
  have s2 := B2.out.size
  have O2 := hide hown
  have C2 := hide (B2.out.alloc s2 (.cells #[] 5))
  clear hown hg hv C1 B1 s1
  go_wp2_with (at_builtin; refine wpList_append_b _ rfl _ _ rfl w2.heap.size _ 0 [] rfl (own_new0 w2 w2.heap.size (Nat.le_refl _)) a1 n cap1 (l1.take n) rfl T1.out N1.out (K1.out.below C2.out) (by omega) (by simp) ?_)
  intro v3 w3 hown hg hv
  obtain ⟨gy, cy, rfl, hgy, hgy2⟩ := own_form hown (fun e => by have := hv e; cases this)
  have B3 := hide (C2.out.grown hg (by simp; omega) (fun q hq => by simp [Value.ownBlock] at hq; omega))
  have s3 := B3.out.size
  have O3 := hide ((O2.out.alloc (.cells #[] 5)).kept hg (.inr (by simp [Value.ownBlock]; omega)))
  have P3 := hide hown
  have hxy : gx ≠ gy := by omega
  clear hown hg hv B2 s2 O2 C2 K0 K1
  go_wp2_with fail
  go_loopw [11] (LikeRel w w2.heap.size n gx cx gy cy l0 l1 l2) (fun c _ => n - (intOf c).toNat)
  case atStart =>
    refine ⟨0, rfl, Nat.zero_le _, ?_, ?_, B3.out⟩
    · rw [mixL_zero n l0 l2 h0]; simpa using O3.out
    · rw [mixL_zero n l1 l2 h1]; simpa using P3.out
  case round =>
    obtain ⟨i, rfl, hi, hox, hoy, hbr⟩ := hrel
    have OX := hide hox
    have OY := hide hoy
    have BR := hide hbr
    have sr := hbr.size
    clear hox hoy hbr B3 s3 O3 P3
    by_cases hlt : i < n
    · obtain ⟨ad2, rfl⟩ : ∃ ad, a2 = some ad := by
        obtain ⟨A', c', he, hA, _⟩ := H2.out
        injection he with e1 e2 e3
        rcases a2 with _ | ad
        · have := hA e1.symm
          subst this
          simp at h2
          omega
        · exact ⟨ad, rfl⟩
      have cd : wr.cell? (ad2.add i) = some (.int .u8 ((l2.getD i 0).toNat : Int)) := by
        obtain ⟨A', c', he, hA, hc⟩ := H2.out.below BR.out
        injection he with e1 e2 e3
        exact hc ad2 e1.symm i _ (by simp [bc, List.getD, show i < l2.length by omega])
      have kx : wr.cell? ⟨gx, i, none⟩ = some (.int .u8 ((l0.getD i 0).toNat : Int)) := by
        rw [OX.out.cellAt i (by omega)]
        unfold bc
        rw [List.getElem?_map, mixL_get n l0 l2 i hlt]
        rfl
      have ky : wr.cell? ⟨gy, i, none⟩ = some (.int .u8 ((l1.getD i 0).toNat : Int)) := by
        rw [OY.out.cellAt i (by omega)]
        unfold bc
        rw [List.getElem?_map, mixL_get n l1 l2 i hlt]
        rfl
      have KY := hide ((OY.out.cellAt i (by omega)).symm.trans ky)
      have zx := OX.out.frozenAt i
      have zy := OY.out.frozenAt i
      have hu0 := (l0.getD i 0).toNat_lt
      have hu1 := (l1.getD i 0).toNat_lt
      have hu2 := (l2.getD i 0).toNat_lt
      have e0 := u8_xor_nat (l0.getD i 0).toNat (l2.getD i 0).toNat (by omega) (by omega)
      have e1 := u8_xor_nat (l1.getD i 0).toNat (l2.getD i 0).toNat (by omega) (by omega)
      rw [← UInt8.toNat_xor] at e0 e1
      have S0 := hide (mixL_set n l0 l2 i)
      have S1 := hide (mixL_set n l1 l2 i)
      revert cd kx ky KY hu0 hu1 hu2 e0 e1 S0 S1
      generalize l0.getD i 0 ^^^ l2.getD i 0 = z0
      generalize l1.getD i 0 ^^^ l2.getD i 0 = z1
      generalize l0.getD i 0 = x0
      generalize l1.getD i 0 = x1
      generalize l2.getD i 0 = x2
      intro cd kx ky KY hu0 hu1 hu2 e0 e1 S0 S1
      go_wp2_with fail
      go_region
      obtain ⟨ox4, g4⟩ := own_stored OX.out i z0 _ rfl
      rw [S0.out] at ox4
      have OX4 := hide ox4.drew
      have OY4 := hide (OY.out.kept g4 (.inr (by simp [Value.ownBlock]; omega))).drew
      have BR4 := hide (BR.out.grown g4 sr (fun q hq => by injection hq with hq; omega)).drew
      have cd4 : (wr.setCell ⟨gx, i, none⟩ (.int .u8 (z0.toNat : Int))).drew.cell? (ad2.add i) = some (.int .u8 (x2.toNat : Int)) := by
        have hlt2 : (ad2.add i).block < w.heap.size := by
          obtain ⟨A', c', he, hA, hc⟩ := H2.out
          injection he with q1 q2 q3
          exact World.block_lt_of_cell? w _ (hc ad2 q1.symm i _ (by simp [bc, show i < l2.length by omega]; rfl))
        rw [BR4.out.cell hlt2, ← BR.out.cell hlt2]
        exact cd
      clear ox4 g4 OX OY BR cd kx zx e0 S0
      have ky4 := (OY4.out.cellAt i (by omega)).trans KY.out
      have zy4 := OY4.out.frozenAt i
      have sr4 := BR4.out.size
      revert OX4 OY4 BR4 cd4 ky4 zy4 sr4
      generalize (wr.setCell ⟨gx, i, none⟩ (.int .u8 (z0.toNat : Int))).drew = w4
      intro OX4 OY4 BR4 cd4 ky4 zy4 sr4
      clear sr zy ky
      go_wp2_with fail
      go_region
      obtain ⟨oy5, g5⟩ := own_stored OY4.out i z1 _ rfl
      rw [S1.out] at oy5
      have OY5 := hide oy5.drew
      have OX5 := hide (OX4.out.kept g5 (.inr (by simp [Value.ownBlock]; omega))).drew
      have BR5 := hide (BR4.out.grown g5 sr4 (fun q hq => by injection hq with hq; omega)).drew
      clear oy5 g5
      revert OX5 OY5 BR5
      generalize (w4.setCell ⟨gy, i, none⟩ (.int .u8 (z1.toNat : Int))).drew = w5
      intro OY5 OX5 BR5
      go_wp2_with fail
      go_roundw
      case rel => exact ⟨i + 1, by go_num, by omega, OX5.out, OY5.out, BR5.out⟩
      case measure => simp [intOf]; omega
    · obtain rfl : i = n := by omega
      have HX : Hid (Hnd wr (.slice (some ⟨gx, 0, none⟩) i cx) (mixL i l0 l2 i)) := hide (Hnd.of_RSl (RSl.of_own (by rw [mixL_length]; exact OX.out)))
      have HY : Hid (Hnd wr (.slice (some ⟨gy, 0, none⟩) i cy) (mixL i l1 l2 i)) := hide (Hnd.of_RSl (RSl.of_own (by rw [mixL_length]; exact OY.out)))
      have TXB := hide (mixL_length i l0 l2 i)
      have TXD := hide (mixL_length i l1 l2 i)
      have e0 := u32_xor_nat _ _ (sumN_lt 0 (l0.take i)) (sumN_lt 0 (mixL i l0 l2 i))
      have e1 := u32_xor_nat _ _ (sumN_lt 0 (l1.take i)) (sumN_lt 0 (mixL i l1 l2 i))
      rw [sumN_like i l0 l2 h0 h2] at e0
      rw [sumN_like i l1 l2 h1 h2] at e1
      revert e0 e1
      generalize (runB 0#32 (bitsL (l2.take i))).toNat = q
      intro e0 e1
      clear OX OY hgx hgx2 hgy hgy2 hxy
      go_wp2_with fail
      go_region_held3 (fun w' => True) (trivial)
          (first
            | (go_at_call 12
               (with_reducible refine (of_any (.slice a0 i cap0) (l0.take i) _ ?q1A ?q2A).mono ?_)
               (case q1A => rw [T0.out]; omega)
               (case q2A => exact (H0.out.below BR.out).head i h0)
               rintro e wA ⟨rfl, hbA⟩
               have hbA' : Below wr.heap.size wr wA := ⟨hbA.os, hbA.tape, hbA.output, hbA.size, hbA.block⟩
               have BA := hide (BR.out.trans (hbA'.mono sr))
               have sA := BA.out.size
               have XA := hide (HX.out.below hbA')
               have YA := hide (HY.out.below hbA')
               clear hbA hbA')
            | (go_at_call 12
               (with_reducible refine (of_any (.slice (some ⟨gx, 0, none⟩) i cx) (mixL i l0 l2 i) _ ?q1B ?q2B).mono ?_)
               (case q1B => rw [TXB.out]; omega)
               (case q2B => exact XA.out)
               rintro e wB ⟨rfl, hbB⟩
               have hbB' : Below wA.heap.size wA wB := ⟨hbB.os, hbB.tape, hbB.output, hbB.size, hbB.block⟩
               have BB := hide (BA.out.trans (hbB'.mono sA))
               have sB := BB.out.size
               have XB := hide (XA.out.below hbB')
               have YB := hide (YA.out.below hbB')
               clear hbB hbB')
            | (go_at_call 12
               (with_reducible refine (of_any (.slice a1 i cap1) (l1.take i) _ ?q1C ?q2C).mono ?_)
               (case q1C => rw [T1.out]; omega)
               (case q2C => exact (H1.out.below BB.out).head i h1)
               rintro e wC ⟨rfl, hbC⟩
               have hbC' : Below wB.heap.size wB wC := ⟨hbC.os, hbC.tape, hbC.output, hbC.size, hbC.block⟩
               have BC := hide (BB.out.trans (hbC'.mono sB))
               have sC := BC.out.size
               have XC := hide (XB.out.below hbC')
               have YC := hide (YB.out.below hbC')
               clear hbC hbC')
            | (go_at_call 12
               (with_reducible refine (of_any (.slice (some ⟨gy, 0, none⟩) i cy) (mixL i l1 l2 i) _ ?q1D ?q2D).mono ?_)
               (case q1D => rw [TXD.out]; omega)
               (case q2D => exact YC.out)
               rintro e wD ⟨rfl, hbD⟩
               have hbD' : Below wC.heap.size wC wD := ⟨hbD.os, hbD.tape, hbD.output, hbD.size, hbD.block⟩
               have BD := hide (BC.out.trans (hbD'.mono sC))
               have sD := BD.out.size
               have XD := hide (XC.out.below hbD')
               have YD := hide (YC.out.below hbD')
               clear hbD hbD'))
      go_wp2
      go_ret
      exact ⟨rfl, BD.out⟩

theorem sumLike_walk (a0 : Option Addr) (len0 cap0 : Nat) (z0 : List Int) (a1 : Option Addr) (len1 cap1 : Nat) (z1 : List Int) (a2 : Option Addr) (len2 cap2 : Nat) (z2 : List Int) (w : World) (w0 : IsRow .u8 w a0 len0 cap0 z0) (w1 : IsRow .u8 w a1 len1 cap1 z1) (w2 : IsRow .u8 w a2 len2 cap2 z2) :
    Calls Try.prog 7 #[.slice a0 len0 cap0, .slice a1 len1 cap1, .slice a2 len2 cap2] w (TrueRet w) := by
  have b0 := ByteArg.of_row w0
  have b1 := ByteArg.of_row w1
  have b2 := ByteArg.of_row w2
  have e0 := b0.leq
  have e1 := b1.leq
  have e2 := b2.leq
  have k0 := b0.hnd
  have k1 := b1.hnd
  have k2 := b2.hnd
  have m0 := Nat.le_trans b0.ceq b0.most
  have m1 := Nat.le_trans b1.ceq b1.most
  have m2 := Nat.le_trans b2.ceq b2.most
  have q0 := b0.ceq
  have q1 := b1.ceq
  revert e0 e1 e2 k0 k1 k2
  generalize rowBytes z0 len0 = l0
  generalize rowBytes z1 len1 = l1
  generalize rowBytes z2 len2 = l2
  intro e0 e1 e2 k0 k1 k2
  subst e0 e1 e2
  exact like_any a0 a1 a2 cap0 cap1 cap2 _ l0 l1 l2 w m0 m1 m2 rfl k0 k1 k2 (ByteArg.nilcap w0) (ByteArg.nilcap w1) q0 q1
end Go.Proofs.Ytdflpciabdjhnaa
