/-
  The walk of the law SumPlaced: it answers true at every input, and changes nothing that was there. No conditions beyond the kinds of its arguments.
-/
import Derived.Test.YtdflpciabdjhnaaSumAwake
import Derived.Test.YtdflpciabdjhnaaAppendB
import Derived.Test.YtdflpciabdjhnaaBurst
import Derived.Deep.RegionHeld3
import Derived.Deep.CutRange
import Derived.IntWalk
namespace Go.Proofs.Ytdflpciabdjhnaa
open Go.RowKit
set_option linter.unusedVariables false

theorem placed_out (a0 : Option Addr) (len0 cap0 : Nat) (at1 v2 : Int) (w : World) (hm0 : len0 ≤ maxLen) (h : 300 < len0 ∨ len0 < 2) :
    Calls Try.prog 6 #[.slice a0 len0 cap0, .int .u16 at1, .int .u8 v2] w (TrueRet w) := by
  have hm : maxLen = 9223372036854775807 := rfl
  go_enter Try.func6, Try.ntmps6
  go_wp2_with fail
  refine (awake_any w).mono ?_
  rintro e w1 ⟨rfl, hb⟩
  have B1 := hide hb
  clear hb
  by_cases h0 : 300 < len0
  · go_wp2
    go_ret
    exact ⟨rfl, B1.out⟩
  · have h2 : len0 < 2 := by omega
    go_wp2
    go_ret
    exact ⟨rfl, B1.out⟩

theorem beq_nat (a b : Nat) (p : Prop) [Decidable p] (h : a = b ↔ p) : ((a : Int) == (b : Int)) = decide p := by
  by_cases hp : p
  · rw [h.2 hp, decide_eq_true hp]; simp
  · have : ¬ a = b := fun e => hp (h.1 e)
    rw [decide_eq_false hp]
    simp only [beq_eq_false_iff_ne, ne_eq]
    omega
theorem byte_iff (c e : UInt8) : c.toNat = e.toNat ↔ c = e := UInt8.toNat_inj
set_option maxHeartbeats 1000000 in
set_option maxRecDepth 100000 in
theorem placed_in (gb ob : Nat) (cap0 p k : Nat) (l : List UInt8) (v : UInt8) (w : World) (hp : p < 65536) (h2 : 2 ≤ l.length) (h3 : l.length ≤ 300) (hk : k = p % (l.length - 1)) (hh : Hnd w (.slice (some ⟨gb, ob, none⟩) l.length cap0) l) :
    Calls Try.prog 6 #[.slice (some ⟨gb, ob, none⟩) l.length cap0, .int .u16 p, .int .u8 (v.toNat : Int)] w (TrueRet w) := by
  have hm : maxLen = 9223372036854775807 := rfl
  have hv := v.toNat_lt
  have H0 := hide hh
  have N0 : Hid (some (⟨gb, ob, none⟩ : Addr) = none → cap0 = 0) := hide (fun h => by cases h)
  have hk1 : k + 1 < l.length := by have := Nat.mod_lt p (show 0 < l.length - 1 by omega); omega
  clear hh
  go_enter Try.func6, Try.ntmps6
  go_wp2_with fail
  refine (awake_any w).mono ?_
  rintro e w1 ⟨rfl, hb⟩
  have B1 := hide hb
  have s1 := hb.size
  have C1 := hide (hb.alloc s1 (.cells #[] 5))
  clear hb
  have hkk : (p : Int) % ((l.length : Int) - 1) = (k : Int) := by
    rw [hk, show (l.length : Int) - 1 = ((l.length - 1 : Nat) : Int) by omega]
    rfl
  go_upto_region 5 with (fail)
  rw [hkk]
  clear hkk hk
  go_wp2_with (at_builtin; refine wpList_append_b _ rfl _ _ rfl w.heap.size _ 0 [] rfl (own_new0 w1 w.heap.size s1) (some ⟨gb, ob, none⟩) l.length cap0 l rfl rfl N0.out (H0.out.below C1.out) (by omega) (by simp; omega) ?_)
  intro v2 w2 hown hg hv2
  obtain ⟨gc, cc, rfl, hgc, hgc2⟩ := own_form hown (fun e => by have := hv2 e; cases this)
  have B2 := hide (C1.out.grown hg (by simp; omega) (fun q hq => by simp [Value.ownBlock] at hq; omega))
  have s2 := B2.out.size
  have O2 : Hid (w2.ownsRow w.heap.size 5 1 (.slice (some ⟨gc, 0, none⟩) l.length cc) l.length (bc l)) := hide (by simpa using hown)
  have k2 : w2.cell? ⟨gc, k, none⟩ = some (.int .u8 (l[k].toNat : Int)) := (O2.out.cellAt k (by omega)).trans (by simp [bc, show k < l.length by omega])
  have z2 := O2.out.frozenAt k
  clear hown hg hv2 C1 B1 s1
  go_upto_region 7 with (fail)
  obtain ⟨ox3, g3⟩ := own_stored O2.out k v _ rfl
  have O3 := hide ox3
  have B3 := hide (B2.out.grown g3 s2 (fun q hq => by injection hq with hq; omega))
  have s3 := B3.out.size
  have hgc3 : gc < (w2.setCell ⟨gc, k, none⟩ (.int .u8 (v.toNat : Int))).heap.size := Nat.lt_of_lt_of_le hgc2 g3.size
  clear ox3 g3 O2 B2 s2 k2 z2 hgc2
  revert O3 B3 s3 hgc3
  generalize w2.setCell ⟨gc, k, none⟩ (.int .u8 (v.toNat : Int)) = w3
  intro O3 B3 s3 hgc3
  have C3 := hide (B3.out.alloc s3 (.cells #[] 5))
  go_wp2_with (at_builtin; refine wpList_append_b _ rfl _ _ rfl w3.heap.size _ 0 [] rfl (own_new0 w3 w3.heap.size (Nat.le_refl _)) (some ⟨gb, ob, none⟩) l.length cap0 l rfl rfl N0.out (H0.out.below C3.out) (by omega) (by simp) ?_)
  intro v4 w4 hown hg hv4
  obtain ⟨gd, cd, rfl, hgd, hgd2⟩ := own_form hown (fun e => by have := hv4 e; cases this)
  have B4 := hide (C3.out.grown hg (by simp; omega) (fun q hq => by simp [Value.ownBlock] at hq; omega))
  have s4 := B4.out.size
  have Q4 := hide ((O3.out.alloc (.cells #[] 5)).kept hg (.inr (by simp [Value.ownBlock]; omega)))
  have O4 : Hid (w4.ownsRow w3.heap.size 5 1 (.slice (some ⟨gd, 0, none⟩) l.length cd) l.length (bc l)) := hide (by simpa using hown)
  have hcd : gc ≠ gd := by omega
  have k4 : w4.cell? ⟨gd, k, none⟩ = some (.int .u8 (l[k].toNat : Int)) := (O4.out.cellAt k (by omega)).trans (by simp [bc, show k < l.length by omega])
  have z4 := O4.out.frozenAt k
  have HB0 : Hid (∀ W, Below w.heap.size w W → W.cell? ⟨gb, ob + k, none⟩ = some (.int .u8 (l[k].toNat : Int))) := hide (fun W hW => by
    obtain ⟨A', c', he, hA, hc⟩ := H0.out.below hW
    injection he with q1 q2 q3
    have := hc ⟨gb, ob, none⟩ q1.symm k (.int .u8 (l[k].toNat : Int)) (by simp [bc, show k < l.length by omega])
    rwa [Addr.add_lit] at this)
  have HB1 : Hid (∀ W, Below w.heap.size w W → W.cell? ⟨gb, ob + (k + 1), none⟩ = some (.int .u8 (l[k + 1].toNat : Int))) := hide (fun W hW => by
    obtain ⟨A', c', he, hA, hc⟩ := H0.out.below hW
    injection he with q1 q2 q3
    have := hc ⟨gb, ob, none⟩ q1.symm (k + 1) (.int .u8 (l[k + 1].toNat : Int)) (by simp [bc, show k + 1 < l.length by omega])
    rwa [Addr.add_lit] at this)
  have b4 := HB1.out w4 B4.out
  clear hown hg hv4 C3 O3 B3 hgc3
  go_upto_region 9 with (fail)
  obtain ⟨ox5, g5⟩ := own_stored O4.out k l[k + 1] _ rfl
  have O5 := hide ox5
  have Q5 := hide (Q4.out.kept g5 (.inr (by simp [Value.ownBlock]; omega)))
  have B5 := hide (B4.out.grown g5 s4 (fun q hq => by injection hq with hq; omega))
  clear ox5 g5 O4 Q4 B4 k4 z4 b4
  revert O5 Q5 B5
  generalize w4.setCell ⟨gd, k, none⟩ (.int .u8 (l[k + 1].toNat : Int)) = w5
  intro O5 Q5 B5
  have s5 := B5.out.size
  have b5 := HB0.out w5 B5.out
  have k5 : w5.cell? ⟨gd, k + 1, none⟩ = some (.int .u8 (l[k + 1].toNat : Int)) := (O5.out.cellAt (k + 1) (by omega)).trans (by simp [bc, hk1])
  have z5 := O5.out.frozenAt (k + 1)
  go_upto_region 10 with (fail)
  obtain ⟨ox6, g6⟩ := own_stored O5.out (k + 1) l[k] _ rfl
  have O6 := hide ox6
  have Q6 := hide (Q5.out.kept g6 (.inr (by simp [Value.ownBlock]; omega)))
  have B6 := hide (B5.out.grown g6 s5 (fun q hq => by injection hq with hq; omega))
  clear ox6 g6 O5 Q5 B5 k5 z5 b5
  revert O6 Q6 B6
  generalize w5.setCell ⟨gd, k + 1, none⟩ (.int .u8 (l[k].toNat : Int)) = w6
  intro O6 Q6 B6
  have s6 := B6.out.size
  have TB : Hid (l.length = l.length) := hide rfl
  have TC : Hid ((l.set k v).length = l.length) := hide (by simp)
  have TD : Hid (((l.set k l[k + 1]).set (k + 1) l[k]).length = l.length) := hide (by simp)
  have HX : Hid (Hnd w6 (.slice (some ⟨gc, 0, none⟩) l.length cc) (l.set k v)) := hide (Hnd.of_RSl (RSl.of_own (by rw [TC.out]; exact Q6.out)))
  have HY : Hid (Hnd w6 (.slice (some ⟨gd, 0, none⟩) l.length cd) ((l.set k l[k + 1]).set (k + 1) l[k])) := hide (Hnd.of_RSl (RSl.of_own (by rw [TD.out]; exact O6.out)))
  have f1 := beq_nat _ _ _ (sum_set l k v (by omega))
  have f2 := beq_nat _ _ _ (byte_iff v l[k])
  have f3 := beq_nat _ _ _ (sum_swap l k hk1)
  have f4 := beq_nat _ _ _ (byte_iff l[k] l[k + 1])
  revert f1 f2 f3 f4
  generalize decide (v = l[k]) = b1
  generalize decide (l[k] = l[k + 1]) = b2
  intro f1 f2 f3 f4
  have hS : w6.cell? ⟨gb, ob + k, none⟩ = some (.int .u8 (l[k].toNat : Int)) ∧ w6.cell? ⟨gb, ob + (k + 1), none⟩ = some (.int .u8 (l[k + 1].toNat : Int)) := ⟨HB0.out _ B6.out, HB1.out _ B6.out⟩
  have x4 : (k : Int) < (l.length : Int) := by omega
  have x5 : (k : Int) + 1 < (l.length : Int) := by omega
  have x6 : 0 ≤ (k : Int) := by omega
  have x1 : IntKind.i64.wrap ((k : Int) + 1) = (k : Int) + 1 := IntWalk.i64_in _ (by omega)
  have x2 : 0 ≤ (k : Int) + 1 := by omega
  have x3 : ((k : Int) + 1).toNat = k + 1 := by omega
  clear O6 Q6
  go_region_held3 (fun w' => w'.cell? ⟨gb, ob + k, none⟩ = some (.int .u8 (l[k].toNat : Int)) ∧ w'.cell? ⟨gb, ob + (k + 1), none⟩ = some (.int .u8 (l[k + 1].toNat : Int)))
      (first | exact hSD | exact hSC | exact hSB | exact hSA | exact hS | go_keep)
      (first
        | (go_at_call 12
           (with_reducible refine (of_any (.slice (some ⟨gc, 0, none⟩) l.length cc) (l.set k v) _ ?q1A ?q2A).mono ?_)
           (case q1A => rw [TC.out]; omega)
           (case q2A => exact HX.out)
           rintro e wA ⟨rfl, hbA⟩
           have hbA' : Below w6.heap.size w6 wA := ⟨hbA.os, hbA.tape, hbA.output, hbA.size, hbA.block⟩
           have BA := hide (B6.out.trans (hbA'.mono s6))
           have sA := BA.out.size
           have XA := hide (HX.out.below hbA')
           have YA := hide (HY.out.below hbA')
           have hSA : wA.cell? ⟨gb, ob + k, none⟩ = some (.int .u8 (l[k].toNat : Int)) ∧ wA.cell? ⟨gb, ob + (k + 1), none⟩ = some (.int .u8 (l[k + 1].toNat : Int)) := ⟨HB0.out _ BA.out, HB1.out _ BA.out⟩
           clear hbA hbA')
        | (go_at_call 12
           (with_reducible refine (of_any (.slice (some ⟨gb, ob, none⟩) l.length cap0) l _ ?q1B ?q2B).mono ?_)
           (case q1B => omega)
           (case q2B => exact H0.out.below BA.out)
           rintro e wB ⟨rfl, hbB⟩
           have hbB' : Below wA.heap.size wA wB := ⟨hbB.os, hbB.tape, hbB.output, hbB.size, hbB.block⟩
           have BB := hide (BA.out.trans (hbB'.mono sA))
           have sB := BB.out.size
           have XB := hide (XA.out.below hbB')
           have YB := hide (YA.out.below hbB')
           have hSB : wB.cell? ⟨gb, ob + k, none⟩ = some (.int .u8 (l[k].toNat : Int)) ∧ wB.cell? ⟨gb, ob + (k + 1), none⟩ = some (.int .u8 (l[k + 1].toNat : Int)) := ⟨HB0.out _ BB.out, HB1.out _ BB.out⟩
           clear hbB hbB')
        | (go_at_call 12
           (with_reducible refine (of_any (.slice (some ⟨gd, 0, none⟩) l.length cd) ((l.set k l[k + 1]).set (k + 1) l[k]) _ ?q1C ?q2C).mono ?_)
           (case q1C => rw [TD.out]; omega)
           (case q2C => exact YB.out)
           rintro e wC ⟨rfl, hbC⟩
           have hbC' : Below wB.heap.size wB wC := ⟨hbC.os, hbC.tape, hbC.output, hbC.size, hbC.block⟩
           have BC := hide (BB.out.trans (hbC'.mono sB))
           have sC := BC.out.size
           have XC := hide (XB.out.below hbC')
           have YC := hide (YB.out.below hbC')
           have hSC : wC.cell? ⟨gb, ob + k, none⟩ = some (.int .u8 (l[k].toNat : Int)) ∧ wC.cell? ⟨gb, ob + (k + 1), none⟩ = some (.int .u8 (l[k + 1].toNat : Int)) := ⟨HB0.out _ BC.out, HB1.out _ BC.out⟩
           clear hbC hbC')
        | (go_at_call 12
           (with_reducible refine (of_any (.slice (some ⟨gb, ob, none⟩) l.length cap0) l _ ?q1D ?q2D).mono ?_)
           (case q1D => omega)
           (case q2D => exact H0.out.below BC.out)
           rintro e wD ⟨rfl, hbD⟩
           have hbD' : Below wC.heap.size wC wD := ⟨hbD.os, hbD.tape, hbD.output, hbD.size, hbD.block⟩
           have BD := hide (BC.out.trans (hbD'.mono sC))
           have sD := BD.out.size
           have XD := hide (XC.out.below hbD')
           have YD := hide (YC.out.below hbD')
           have hSD : wD.cell? ⟨gb, ob + k, none⟩ = some (.int .u8 (l[k].toNat : Int)) ∧ wD.cell? ⟨gb, ob + (k + 1), none⟩ = some (.int .u8 (l[k + 1].toNat : Int)) := ⟨HB0.out _ BD.out, HB1.out _ BD.out⟩
           clear hbD hbD'))
  go_wp2
  go_ret
  exact ⟨rfl, BD.out⟩

theorem sumPlaced_walk (a0 : Option Addr) (len0 cap0 : Nat) (z0 : List Int) (a1 a2 : Int) (w : World) (w0 : IsRow .u8 w a0 len0 cap0 z0) (w1 : (Lit.int .u16 a1).wf = true) (w2 : (Lit.int .u8 a2).wf = true) :
    Calls Try.prog 6 #[.slice a0 len0 cap0, .int .u16 a1, .int .u8 a2] w (TrueRet w) := by
  have b0 := ByteArg.of_row w0
  have h1 := bounds_u16 w1
  have h2 := bounds_u8 w2
  by_cases h : 300 < len0 ∨ len0 < 2
  · exact placed_out a0 len0 cap0 a1 a2 w (Nat.le_trans b0.ceq b0.most) h
  · obtain ⟨p, rfl⟩ := Int.eq_ofNat_of_zero_le h1.1
    obtain ⟨v, rfl⟩ := Int.eq_ofNat_of_zero_le h2.1
    obtain ⟨gb, ob, rfl, _⟩ := b0.lit (by omega)
    have e0 := b0.leq
    have k0 := b0.hnd
    revert e0 k0
    generalize rowBytes z0 len0 = l0
    intro e0 k0
    subst e0
    have := placed_in gb ob cap0 p _ l0 (b8 v) w (by omega) (by omega) (by omega) rfl k0
    rw [b8_toNat v (by omega)] at this
    exact this
end Go.Proofs.Ytdflpciabdjhnaa
