/-
  The walk of the law PackReads: it answers true at every input, and changes nothing that was there. No conditions beyond the kinds of its arguments.
-/
import Derived.Test.YtainkbcjfhejmaaQText
import Derived.Test.YtainkbcjfhejmaaAsks
import Derived.Deep.RegionHeld3
import Derived.Deep.QuietTactic
import Derived.BigQuiet
namespace Go.Proofs.Ytainkbcjfhejmaa
open Go.RowKit
set_option linter.unusedVariables false

theorem Rd.drew {w : World} {g e : Nat} {l : List UInt8} (h : Rd w g l e) : Rd w.drew g l e := h
theorem Rd.drewN {w : World} {g e : Nat} {l : List UInt8} (h : Rd w g l e) (n : Nat) : Rd (w.drewN n) g l e := h
/-- A call that leaves the world as it is, in a region that draws its order. -/
theorem quiet_same {P : Program} {f : FuncId} {args : Array Value} {w : World} {n : Nat} {v : Value}
    (h : Calls P f args (w.drewN n) fun e w' => e = .returned v ∧ w.drewN n = w') : Calls P f args (w.drewN n) fun e w'' => e = .returned v ∧ ∃ m, w'' = w.drewN m :=
  h.mono fun _ _ ⟨he, hm⟩ => ⟨he, n, hm.symm⟩
theorem Qd.drewN {w : World} {B g e : Nat} {l : List UInt8} (h : Qd w B g l e) (n : Nat) : Qd (w.drewN n) B g l e := h
theorem belowN {B : Nat} {a w : World} (h : Below B a w) (n : Nat) : Below B a (w.drewN n) := ⟨h.os, h.tape, h.output, h.size, h.block⟩
theorem Qd.drew {w : World} {B g e : Nat} {l : List UInt8} (h : Qd w B g l e) : Qd w.drew B g l e := h
/-- The document's reader's call leaves the program's as it is. -/
theorem Rd.otherQ {w w' : World} {B g g' e e' : Nat} {l l' : List UInt8} (h : Rd w g l e) (h' : Qd w B g' l' e') (hne : g ≠ g') (ho : Only g' w w') : Rd w' g l e := by
  have hlt := h.lt
  obtain ⟨sv, hc, hs⟩ := h
  obtain ⟨sv', hc', _⟩ := h'
  refine ⟨sv, (ho.grown.block g hlt (by simpa using hne)).trans hc, hs.keep fun k cur hk => ho.grown.block k (Array.getElem?_eq_some_iff.1 hk).1 ?_⟩
  intro he
  injection he with he
  subst he
  unfold QdC at hc'
  rw [hk] at hc'
  injection hc' with hc'
  injection hc' with _ ht
  exact absurd ht (by decide)
/-- A call of the program's reader leaves the document's as it is. -/
theorem Qd.other {w w' : World} {B g g' e : Nat} {l : List UInt8} (h : Qd w B g' l e) (hne : g' ≠ g) (hBg : B ≤ g) (hB : B ≤ w.heap.size) (ho : Only g w w') : Qd w' B g' l e := by
  have hlt := h.lt
  obtain ⟨sv, hc, hs⟩ := h
  exact ⟨sv, (ho.grown.block g' hlt (by simpa using hne)).trans hc, hs.below (Below.ofOnly ho hBg hB)⟩

theorem rNum_len (most : Int) (l : List UInt8) (e : Nat) : (rNum most l e).2.1.length ≤ l.length := by
  unfold rNum
  split
  · exact Nat.le_refl _
  · split
    · simp
    · split <;> simp
theorem rTxt_len (most : Int) (l : List UInt8) (e : Nat) : (rTxt most l e).2.1.length ≤ l.length := by
  have h := rNum_len most l e
  unfold rTxt
  split
  · exact h
  · split
    · simp
    · simp; omega

/-- After k rounds: both readers stand alike. -/
def ReadsRel (w : World) (g g' n : Nat) (i : Value) (wr : World) : Prop :=
  ∃ (k e : Nat) (l : List UInt8), k ≤ n ∧ i = .int .i64 k ∧ Rd wr g l e ∧ Qd wr w.heap.size g' l e ∧ Below w.heap.size w wr ∧ l.length ≤ 300

set_option maxHeartbeats 1000000 in
theorem reads_big (a0 a1 : Option Addr) (nl nt cl ct : Nat) (w : World) (h : 300 < nl ∨ (nl ≤ 300 ∧ 40 < nt)) (hl : nl ≤ 9223372036854775807) (ht : nt ≤ 9223372036854775807) :
    Calls Try.prog 4 #[.slice a0 nl cl, .slice a1 nt ct] w (TrueRet w) := by
  rcases h with h | ⟨h1, h⟩
  all_goals
    go_enter Try.func4, Try.ntmps4
    go_wp2_with fail
    refine (awake_any w).mono ?_
    rintro e w1 ⟨rfl, hb⟩
    have HB := hide hb
    clear hb
    go_wp2_with fail
    go_ret
    exact ⟨rfl, HB.out⟩

set_option maxHeartbeats 8000000 in
set_option maxRecDepth 100000 in
theorem reads_some (a0 : Option Addr) (c0 : Nat) (l0 : List UInt8) (ba oa ca : Nat) (zs : List (Bool × Int)) (w : World) (hl : l0.length ≤ 300) (hz : zs.length ≤ 40) (hA : ByteArg w a0 l0.length c0 l0)
    (hcell : ∀ j (h : j < zs.length), w.cell? ⟨ba, oa + j * 2, none⟩ = some (.bool zs[j].1) ∧ w.cell? ⟨ba, oa + j * 2 + 1, none⟩ = some (.int .i64 zs[j].2)) :
    Calls Try.prog 4 #[.slice a0 l0.length c0, .slice (some ⟨ba, oa, none⟩) zs.length ca] w (TrueRet w) := by
  have HA := hide hA
  have HX := hide hcell
  have d1 : decide (300 < (l0.length : Int)) = false := by simp; omega
  have d2 : decide (40 < (zs.length : Int)) = false := by simp; omega
  clear hA hcell
  go_enter Try.func4, Try.ntmps4
  go_wp2_with fail
  refine (awake_any w).mono ?_
  rintro e w1 ⟨rfl, hb1⟩
  have B1 := hide hb1
  have s1 := hb1.size
  clear hb1
  go_wp2_with fail
  refine (new_any _ l0 w1 (by omega) (HA.out.hnd.below B1.out)).mono ?_
  rintro e w2 ⟨g, rfl, hg, hrd, hb⟩
  have B2 := hide (B1.out.trans (hb.mono s1))
  have s2 := B2.out.size
  have R2 := hide hrd
  have glt := hrd.lt
  clear hb hrd B1
  go_wp2_with fail
  go_loopw [8] (ReadsRel w g w2.heap.size zs.length) (fun i _ => 40 - (intOf i).toNat)
  case atStart =>
    have hb3 : Below w2.heap.size w2 (w2.alloc (.cells #[.slice a0 l0.length c0, .int .i64 0] 34)) := (Below.refl _ _).alloc (Nat.le_refl _) _
    have b3 := B2.out.trans (hb3.mono s2)
    refine ⟨0, 0, l0, Nat.zero_le _, rfl, R2.out.below hb3, ⟨_, heap_alloc_new w2 _, ?_⟩, b3, hl⟩
    refine ⟨a0, c0, rfl, HA.out.ceq, HA.out.most, ?_⟩
    rcases Nat.eq_zero_or_pos l0.length with h0 | h0
    · exact .inl (List.eq_nil_of_length_eq_zero h0)
    · obtain ⟨b, o, ha, hc⟩ := HA.out.lit h0
      exact .inr ⟨b, o, ha, World.block_lt_of_cell? w _ (hc 0 h0), cells_below hc b3⟩
  case round =>
    obtain ⟨k, e, l, hk, rfl, hrd, hqd, hbel, hl3⟩ := hrel
    have Hrd := hide hrd
    have Hqd := hide hqd
    have Hb := hide hbel
    have sr := hbel.size
    clear hrd hqd hbel
    by_cases hlt : k < zs.length
    · have ht := (HX.out k hlt).1
      have hm := (HX.out k hlt).2
      have Ct := hide ((Hb.out.cell (World.block_lt_of_cell? w _ ht)).trans ht)
      have Cm := hide ((Hb.out.cell (World.block_lt_of_cell? w _ hm)).trans hm)
      have hba : ba < w.heap.size := World.block_lt_of_cell? w _ hm
      have HM := hide hm
      generalize zs[k] = z at Ct Cm HM
      obtain ⟨tx, most⟩ := z
      clear ht hm
      have ct := Ct.out
      have cm := Cm.out
      simp only at ct cm
      have HrdD := hide Hrd.out.drew
      have HqdD := hide Hqd.out.drew
      have hgne : g ≠ w2.heap.size := by omega
      have Hne := hide hgne
      clear hgne Ct Cm
      cases tx
      · have k1 := fun W (h : Rd W g l e) => number_any g e l most W h
        have k2 := fun W (h : Qd W w.heap.size w2.heap.size l e) => qnumber_any w.heap.size w2.heap.size e l most W s2 h
        have k3 := rNum_len most l e
        generalize rNum most l e = T at k1 k2 k3
        obtain ⟨v2, l2, e2⟩ := T
        simp only at k1 k2 k3
        have K1 := hide k1
        have K2 := hide k2
        clear k1 k2
        go_wp2_with fail
        go_region_held3 (fun w' => w'.cell? ⟨ba, oa + k * 2 + 1, none⟩ = some (.int .i64 most))
          (first
            | exact (B4.out.cell (p := ⟨ba, oa + k * 2 + 1, none⟩) hba).trans HM.out
            | exact (B3.out.cell (p := ⟨ba, oa + k * 2 + 1, none⟩) hba).trans HM.out
            | go_keep)
          (first
            | (go_at_call 18
               (with_reducible refine (K1.out _ HrdD.out).mono ?_)
               rintro ed w3 ⟨rfl, hrd3, ho3⟩
               have R3 := hide hrd3
               have Q3 := hide (HqdD.out.other Hne.out.symm (by omega) sr ho3)
               have B3 := hide (Only.below Hb.out.drew ho3 sr (by omega))
               have s3 := B3.out.size
               clear hrd3 ho3)
            | (go_at_call 19
               (with_reducible refine (K2.out _ Q3.out).mono ?_)
               rintro ed w4 ⟨rfl, hqd4, ho4⟩
               have Q4 := hide hqd4
               have R4 := hide (R3.out.otherQ Q3.out Hne.out ho4)
               have B4 := hide (Only.below B3.out ho4 s3 s2)
               clear hqd4 ho4))
        obtain ⟨sv, hqc, A, c, rfl, h1, h2, h3⟩ := Q4.out
        have q0 := hqc.c0
        have q1 := hqc.c1
        unfold maxLen at h2
        clear hqc h3
        go_wp2_with fail
        go_quiet ((first
          | (go_at_call 20; exact quiet_same (left_any g e2 l2 _ (Rd.drewN R4.out _)))
          | (go_at_call 21; exact quiet_same (err_any g e2 l2 _ (Rd.drewN R4.out _)))))
        go_wp2_with fail
        go_roundw
        case rel => exact ⟨k + 1, e2, l2, by omega, by go_num, R4.out.drewN nq, Q4.out.drewN nq, belowN B4.out nq, by omega⟩
        case measure => simp [intOf]; omega
      · have k1 := fun W (h : Rd W g l e) => text_any g e l most W h
        have k2 := fun W (h : Qd W w.heap.size w2.heap.size l e) => qtext_any w.heap.size w2.heap.size e l most W s2 h
        have k3 := rTxt_len most l e
        generalize rTxt most l e = T at k1 k2 k3
        obtain ⟨v2, l2, e2⟩ := T
        simp only at k1 k2 k3
        have K1 := hide k1
        have K2 := hide k2
        clear k1 k2
        go_wp2_with fail
        go_region_held3 (fun w' => w'.cell? ⟨ba, oa + k * 2 + 1, none⟩ = some (.int .i64 most))
          (first
            | exact (B4.out.cell (p := ⟨ba, oa + k * 2 + 1, none⟩) hba).trans HM.out
            | exact (B3.out.cell (p := ⟨ba, oa + k * 2 + 1, none⟩) hba).trans HM.out
            | go_keep)
          (first
            | (go_at_call 16
               (with_reducible refine (K1.out _ HrdD.out).mono ?_)
               rintro ed w3 ⟨rfl, hrd3, ho3⟩
               have R3 := hide hrd3
               have Q3 := hide (HqdD.out.other Hne.out.symm (by omega) sr ho3)
               have B3 := hide (Only.below Hb.out.drew ho3 sr (by omega))
               have s3 := B3.out.size
               clear hrd3 ho3)
            | (go_at_call 17
               (with_reducible refine (K2.out _ Q3.out).mono ?_)
               rintro ed w4 ⟨rfl, hqd4, ho4⟩
               have Q4 := hide hqd4
               have R4 := hide (R3.out.otherQ Q3.out Hne.out ho4)
               have B4 := hide (Only.below B3.out ho4 s3 s2)
               clear hqd4 ho4))
        obtain ⟨sv, hqc, A, c, rfl, h1, h2, h3⟩ := Q4.out
        have q0 := hqc.c0
        have q1 := hqc.c1
        unfold maxLen at h2
        clear hqc h3
        go_wp2_with fail
        go_quiet ((first
          | (go_at_call 20; exact quiet_same (left_any g e2 l2 _ (Rd.drewN R4.out _)))
          | (go_at_call 21; exact quiet_same (err_any g e2 l2 _ (Rd.drewN R4.out _)))))
        go_wp2_with fail
        go_roundw
        case rel => exact ⟨k + 1, e2, l2, by omega, by go_num, R4.out.drewN nq, Q4.out.drewN nq, belowN B4.out nq, by omega⟩
        case measure => simp [intOf]; omega
    · obtain ⟨sv, hqc, A, c, rfl, h1, h2, h3⟩ := Hqd.out
      have q0 := hqc.c0
      have q1 := hqc.c1
      unfold maxLen at h2
      clear hqc h3
      go_wp2_with fail
      go_quiet ((go_at_call 20; exact quiet_same (left_any g e l _ (Rd.drewN Hrd.out _))))
      go_wp2_with fail
      go_ret
      exact ⟨rfl, belowN Hb.out _⟩

set_option maxHeartbeats 4000000 in
set_option maxRecDepth 100000 in
theorem reads_zero (a0 a1 : Option Addr) (c0 ca : Nat) (l0 : List UInt8) (w : World) (hl : l0.length ≤ 300) (hA : ByteArg w a0 l0.length c0 l0) :
    Calls Try.prog 4 #[.slice a0 l0.length c0, .slice a1 0 ca] w (TrueRet w) := by
  have HA := hide hA
  have d1 : decide (300 < (l0.length : Int)) = false := by simp; omega
  clear hA
  go_enter Try.func4, Try.ntmps4
  go_wp2_with fail
  refine (awake_any w).mono ?_
  rintro e w1 ⟨rfl, hb1⟩
  have B1 := hide hb1
  have s1 := hb1.size
  clear hb1
  go_wp2_with fail
  refine (new_any _ l0 w1 (by omega) (HA.out.hnd.below B1.out)).mono ?_
  rintro e w2 ⟨g, rfl, hg, hrd, hb⟩
  have B2 := hide (B1.out.trans (hb.mono s1))
  have s2 := B2.out.size
  have hb3 : Below w2.heap.size w2 (w2.alloc (.cells #[.slice a0 l0.length c0, .int .i64 0] 34)) := (Below.refl _ _).alloc (Nat.le_refl _) _
  have R3 := hide (hrd.below hb3)
  have B3 := hide (B2.out.trans (hb3.mono s2))
  clear hb hrd B1 hb3
  go_wp2_with fail
  refine wp_loop_rounds 1 ?_
  rw [rounds_succ]
  go_wp2_with fail
  go_quiet ((go_at_call 20; exact quiet_same (left_any g 0 l0 _ (Rd.drewN R3.out _))))
  go_wp2_with fail
  go_ret
  exact ⟨rfl, belowN B3.out _⟩

theorem packReads_walk (a0 : Option Addr) (len0 cap0 : Nat) (z0 : List Int) (a1 : Option Addr) (len1 cap1 : Nat) (z1 : List (Bool × Int)) (w : World) (w0 : IsRow .u8 w a0 len0 cap0 z0) (w1 : IsAsks w a1 len1 cap1 z1) :
    Calls Try.prog 4 #[.slice a0 len0 cap0, .slice a1 len1 cap1] w (TrueRet w) := by
  have hB := ByteArg.of_row w0
  obtain ⟨hl1, hc1, hm1, hlit⟩ := w1
  have m0 : len0 ≤ 9223372036854775807 := by have := hB.most; have := hB.ceq; unfold maxLen at *; omega
  have m1 : len1 ≤ 9223372036854775807 := by unfold maxLen at hm1; omega
  by_cases hb : 300 < len0 ∨ (len0 ≤ 300 ∧ 40 < len1)
  · exact reads_big a0 a1 _ _ _ _ w hb m0 m1
  · have hl := hB.leq
    generalize rowBytes z0 len0 = l0 at hB hl
    subst hl
    rcases hlit with h0 | ⟨b, o, rfl, hcell⟩
    · subst h0
      exact reads_zero a0 a1 cap0 cap1 l0 w (by omega) hB
    · subst hl1
      exact reads_some a0 cap0 l0 b o cap1 z1 w (by omega) (by omega) hB hcell
end Go.Proofs.Ytainkbcjfhejmaa
