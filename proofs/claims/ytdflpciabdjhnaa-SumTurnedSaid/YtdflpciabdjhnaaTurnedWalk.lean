/-
  The walk of the law SumTurned: it answers true at every input, and changes nothing that was there. No conditions beyond the kinds of its arguments.
-/
import Derived.Test.YtdflpciabdjhnaaSumAwake
import Derived.Test.YtdflpciabdjhnaaAppendB
import Derived.Test.YtdflpciabdjhnaaTurnPure
import Derived.Deep.CutRange
import Derived.IntWalk
namespace Go.Proofs.Ytdflpciabdjhnaa
open Go.RowKit
set_option linter.unusedVariables false

theorem turned_out (a0 : Option Addr) (len0 cap0 : Nat) (at1 v2 : Int) (w : World) (hm0 : len0 ≤ maxLen) (h : 300 < len0 ∨ len0 = 0) :
    Calls Try.prog 5 #[.slice a0 len0 cap0, .int .u16 at1, .int .u32 v2] w (TrueRet w) := by
  have hm : maxLen = 9223372036854775807 := rfl
  go_enter Try.func5, Try.ntmps5
  go_wp2_with fail
  refine (awake_any w).mono ?_
  rintro e w1 ⟨rfl, hb⟩
  have B1 := hide hb
  clear hb
  by_cases h0 : 300 < len0
  · go_wp2
    go_ret
    exact ⟨rfl, B1.out⟩
  · obtain rfl : len0 = 0 := by omega
    go_wp2
    go_ret
    exact ⟨rfl, B1.out⟩

theorem bit_test (y i : Nat) (hy : y < 4294967296) : (bits .and .u32 ((y : Int) / 2 ^ i) 1 == 1) = y.testBit i := by
  have hd : y / 2 ^ i < 4294967296 := Nat.lt_of_le_of_lt (Nat.div_le_self _ _) hy
  have e := u32_and_nat (y / 2 ^ i) 1 hd (by omega)
  rw [show ((y / 2 ^ i : Nat) : Int) = (y : Int) / 2 ^ i by rw [Int.natCast_ediv]; simp, show ((1 : Nat) : Int) = 1 by rfl, Nat.and_one_is_mod] at e
  rw [e, Nat.testBit_eq_decide_div_mod_eq]
  by_cases h : y / 2 ^ i % 2 = 1
  · rw [h]; simp
  · rw [decide_eq_false h]
    simp only [beq_eq_false_iff_ne, ne_eq]
    omega

theorem pow_mod (r : Nat) (hr : r < 8) : ((2 ^ r : Nat) : Int) = (2 : Int) ^ r % 256 := by
  have h := pow_lt r hr
  have e : (2 : Int) ^ r = ((2 ^ r : Nat) : Int) := by simp
  rw [e]
  generalize 2 ^ r = t at h
  omega
/-- After i bits. -/
def TurnRel (w : World) (l : List UInt8) (k y gc cc : Nat) (a b : Value) (wr : World) : Prop :=
  ∃ i : Nat, b = .int .i64 i ∧ i ≤ 32 ∧ k + i ≤ 8 * l.length ∧ a = .bool (turnB y i) ∧
    wr.ownsRow w.heap.size 5 1 (.slice (some ⟨gc, 0, none⟩) l.length cc) l.length (bc (turnL l k y i)) ∧ Below w.heap.size w wr

set_option maxHeartbeats 1000000 in
set_option maxRecDepth 100000 in
theorem turned_in (gb ob cap0 p k y : Nat) (l : List UInt8) (w : World) (hp : p < 65536) (hy : y < 4294967296) (h1 : 1 ≤ l.length) (h3 : l.length ≤ 300) (hk : k = p % (8 * l.length)) (hh : Hnd w (.slice (some ⟨gb, ob, none⟩) l.length cap0) l) :
    Calls Try.prog 5 #[.slice (some ⟨gb, ob, none⟩) l.length cap0, .int .u16 p, .int .u32 y] w (TrueRet w) := by
  have hm : maxLen = 9223372036854775807 := rfl
  have H0 := hide hh
  have N0 : Hid (some (⟨gb, ob, none⟩ : Addr) = none → cap0 = 0) := hide (fun h => by cases h)
  have hk1 : k < 8 * l.length := by have := Nat.mod_lt p (show 0 < 8 * l.length by omega); omega
  have hkk : Hid ((p : Int) % (8 * (l.length : Int)) = (k : Int)) := hide (by
    rw [hk, show 8 * (l.length : Int) = ((8 * l.length : Nat) : Int) by omega]
    rfl)
  have hz : ((l.length : Int) == 0) = false := by simp only [beq_eq_false_iff_ne, ne_eq]; omega
  clear hh hk
  go_enter Try.func5, Try.ntmps5
  go_wp2_with fail
  refine (awake_any w).mono ?_
  rintro e w1 ⟨rfl, hb⟩
  have B1 := hide hb
  have s1 := hb.size
  have C1 := hide (hb.alloc s1 (.cells #[] 5))
  clear hb
  go_wp2_with (at_builtin; refine wpList_append_b _ rfl _ _ rfl w.heap.size _ 0 [] rfl (own_new0 w1 w.heap.size s1) (some ⟨gb, ob, none⟩) l.length cap0 l rfl rfl N0.out (H0.out.below C1.out) (by omega) (by simp; omega) ?_)
  intro v2 w2 hown hg hv2
  obtain ⟨gc, cc, rfl, hgc, hgc2⟩ := own_form hown (fun e => by have := hv2 e; cases this)
  have B2 := hide (C1.out.grown hg (by simp; omega) (fun q hq => by simp [Value.ownBlock] at hq; omega))
  have s2 := B2.out.size
  have O2 : Hid (w2.ownsRow w.heap.size 5 1 (.slice (some ⟨gc, 0, none⟩) l.length cc) l.length (bc l)) := hide (by simpa using hown)
  clear hown hg hv2 C1 B1 s1
  go_upto_region 6 with (fail)
  rw [hkk.out]
  clear hkk
  go_wp2_with fail
  go_loopw [10, 11] (TurnRel w l k y gc cc) (fun _ b _ => 32 - (intOf b).toNat)
  case atStart => exact ⟨0, rfl, by omega, by omega, by rw [turnB_zero], O2.out, B2.out⟩
  case round =>
    obtain ⟨i, rfl, hi, hki, rfl, hown, hbr⟩ := hrel
    have OR := hide hown
    have BR := hide hbr
    have sr := hbr.size
    clear hown hbr O2 B2 s2
    by_cases h32 : i < 32
    · by_cases hlt : k + i < 8 * l.length
      · cases hb : y.testBit i with
        | true =>
          have fb := bit_test y i hy
          rw [hb] at fb
          have hlq : (k + i) / 8 < (turnL l k y i).length := by rw [turnL_length]; omega
          have SY := hide (turnL_yes l k y i hb)
          have SB := hide (turnB_yes y i hb)
          have cx := (OR.out.cellAt ((k + i) / 8) (by omega)).trans (show (bc (turnL l k y i))[(k + i) / 8]? = some (.int .u8 (((turnL l k y i).getD ((k + i) / 8) 0).toNat : Int)) by simp [bc, List.getD, hlq])
          have zx := OR.out.frozenAt ((k + i) / 8)
          have x1 : IntKind.i64.wrap ((k : Int) + (i : Int)) = (k : Int) + (i : Int) := IntWalk.i64_in _ (by omega)
          have hq : (k + i) / 8 < l.length := by omega
          have hr : (k + i) % 8 < 8 := by omega
          have x2 : ((k : Int) + (i : Int)).tdiv 8 = (((k + i) / 8 : Nat) : Int) := by rw [Int.tdiv_eq_ediv_of_nonneg (by omega)]; omega
          have x3 : ((k : Int) + (i : Int)).tmod 8 = (((k + i) % 8 : Nat) : Int) := by rw [Int.tmod_eq_emod_of_nonneg (by omega)]; omega
          have hu := ((turnL l k y i).getD ((k + i) / 8) 0).toNat_lt
          have ef := hide (flip_toNat ((turnL l k y i).getD ((k + i) / 8) 0) ((k + i) % 8) hr)
          have ex := u8_xor_nat ((turnL l k y i).getD ((k + i) / 8) 0).toNat (2 ^ ((k + i) % 8)) (by omega) (pow_lt _ hr)
          rw [← ef.out] at ex
          clear hlq hb ef
          revert SY cx zx x2 x3 hu ex hq hr
          generalize flip ((turnL l k y i).getD ((k + i) / 8) 0) ((k + i) % 8) = z
          generalize (turnL l k y i).getD ((k + i) / 8) 0 = x
          generalize (k + i) / 8 = q
          generalize (k + i) % 8 = r
          intro SY cx zx hq hr x2 x3 hu ex
          rw [pow_mod r hr] at ex
          go_wp2_with fail
          go_region
          obtain ⟨o4, g4⟩ := own_stored OR.out q z _ rfl
          rw [← SY.out] at o4
          have O4 := hide o4.drew
          have B4 := hide (BR.out.grown g4 sr (fun q hq => by injection hq with hq; omega)).drew
          clear o4 g4 OR BR cx zx ex SY fb
          revert O4 B4
          generalize (wr.setCell ⟨gc, q, none⟩ (.int .u8 (z.toNat : Int))).drew = w4
          intro O4 B4
          go_wp2_with fail
          refine ⟨⟨i + 1, by go_num, by omega, by omega, by rw [SB.out], O4.out, B4.out⟩, ?_⟩
          simp [intOf]; omega
        | false =>
          have fb := bit_test y i hy
          rw [hb] at fb
          have SY := hide (turnL_no l k y i hb)
          have SB := hide (turnB_no y i hb)
          clear hb
          go_wp2_with fail
          refine ⟨⟨i + 1, by go_num, by omega, by omega, by rw [SB.out], by rw [SY.out]; exact OR.out, BR.out⟩, ?_⟩
          simp [intOf]; omega
      · have HX : Hid (Hnd wr (.slice (some ⟨gc, 0, none⟩) l.length cc) (turnL l k y i)) := hide (Hnd.of_RSl (RSl.of_own (by rw [turnL_length]; exact OR.out)))
        have TS := hide (turn_seen l k y i hki hi)
        have hlt0 := sumN_lt 0 l
        go_wp2_with fail
        refine (of_any _ l wr (by omega) (H0.out.below BR.out)).mono ?_
        rintro e wA ⟨rfl, hb⟩
        have BA := hide (BR.out.trans (hb.mono sr))
        have sA := BA.out.size
        have XA := hide (HX.out.below hb)
        clear hb
        go_wp2_with fail
        refine (Four_any _ wA hlt0).mono ?_
        rintro e wB ⟨vB, rfl, hownB, hb⟩
        have BB := hide (BA.out.trans (hb.mono sA))
        have sB := BB.out.size
        have XB := hide (XA.out.below hb)
        have YB := hide (Hnd.of_RSl (RSl.of_own hownB))
        clear hb hownB
        go_wp2_with fail
        have kk := is_any _ vB _ _ wB (by rw [turnL_length]; omega) XB.out YB.out
        rw [TS.out] at kk
        refine kk.mono ?_
        rintro e wC ⟨rfl, hb⟩
        have BC := hide (BB.out.trans (hb.mono sB))
        clear hb kk
        go_wp2
        go_ret
        exact ⟨ret_bool (by simp), BC.out⟩
    · have HX : Hid (Hnd wr (.slice (some ⟨gc, 0, none⟩) l.length cc) (turnL l k y i)) := hide (Hnd.of_RSl (RSl.of_own (by rw [turnL_length]; exact OR.out)))
      have TS := hide (turn_seen l k y i hki hi)
      have hlt0 := sumN_lt 0 l
      go_wp2_with fail
      refine (of_any _ l wr (by omega) (H0.out.below BR.out)).mono ?_
      rintro e wA ⟨rfl, hb⟩
      have BA := hide (BR.out.trans (hb.mono sr))
      have sA := BA.out.size
      have XA := hide (HX.out.below hb)
      clear hb
      go_wp2_with fail
      refine (Four_any _ wA hlt0).mono ?_
      rintro e wB ⟨vB, rfl, hownB, hb⟩
      have BB := hide (BA.out.trans (hb.mono sA))
      have sB := BB.out.size
      have XB := hide (XA.out.below hb)
      have YB := hide (Hnd.of_RSl (RSl.of_own hownB))
      clear hb hownB
      go_wp2_with fail
      have kk := is_any _ vB _ _ wB (by rw [turnL_length]; omega) XB.out YB.out
      rw [TS.out] at kk
      refine kk.mono ?_
      rintro e wC ⟨rfl, hb⟩
      have BC := hide (BB.out.trans (hb.mono sB))
      clear hb kk
      go_wp2
      go_ret
      exact ⟨ret_bool (by simp), BC.out⟩

theorem sumTurned_walk (a0 : Option Addr) (len0 cap0 : Nat) (z0 : List Int) (a1 a2 : Int) (w : World) (w0 : IsRow .u8 w a0 len0 cap0 z0) (w1 : (Lit.int .u16 a1).wf = true) (w2 : (Lit.int .u32 a2).wf = true) :
    Calls Try.prog 5 #[.slice a0 len0 cap0, .int .u16 a1, .int .u32 a2] w (TrueRet w) := by
  have b0 := ByteArg.of_row w0
  have h1 := bounds_u16 w1
  have h2 := bounds_u32 w2
  by_cases h : 300 < len0 ∨ len0 = 0
  · exact turned_out a0 len0 cap0 a1 a2 w (Nat.le_trans b0.ceq b0.most) h
  · obtain ⟨p, rfl⟩ := Int.eq_ofNat_of_zero_le h1.1
    obtain ⟨y, rfl⟩ := Int.eq_ofNat_of_zero_le h2.1
    obtain ⟨gb, ob, rfl, _⟩ := b0.lit (by omega)
    have e0 := b0.leq
    have k0 := b0.hnd
    revert e0 k0
    generalize rowBytes z0 len0 = l0
    intro e0 k0
    subst e0
    exact turned_in gb ob cap0 p _ y l0 w (by omega) (by omega) (by omega) (by omega) rfl k0
end Go.Proofs.Ytdflpciabdjhnaa
