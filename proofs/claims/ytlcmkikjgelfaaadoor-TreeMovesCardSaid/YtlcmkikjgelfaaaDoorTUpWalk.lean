/-
  The walk of TreeUp. Conditions: those of the statement.
-/
import Derived.Test.YtlcmkikjgelfaaaDoorTLaw
import Derived.Test.YtlcmkikjgelfaaaDoorWShort
namespace Go.Proofs.YtlcmkikjgelfaaaDoor
open Go.RowKit Go.Maps
set_option linter.unusedVariables false
set_option linter.unusedSimpArgs false
set_option maxRecDepth 100000

/-- What is above a node that isn't the one itself is above what that is below. -/
theorem anc_top {L : List Kd} (h : ∀ k ∈ L, 256 ≤ k.nd ∧ k.nd ≤ 4294967295) {a n : Int} (hn : n < 256) (hx : Anc L a n) : a = n := by
  cases hx with
  | self => rfl
  | up hf _ => rw [fnd_top h hn] at hf; cases hf
theorem anc_up {L : List Kd} {a n : Int} {k : Kd} (hf : fnd L n = some k) (ha : a ≠ n) : Anc L a n ↔ Anc L a k.to := by
  refine ⟨fun hx => ?_, fun hx => .up hf hx⟩
  cases hx with
  | self => exact absurd rfl ha
  | up hf' hx =>
    rw [hf] at hf'
    cases hf'
    exact hx
theorem top_one {L : List Kd} (h : ∀ k ∈ L, 256 ≤ k.nd ∧ k.nd ≤ 4294967295) {d : Nat} {n : Int} (hr : Rt L d n) : (Anc L 0 n ↔ ¬ Anc L 1 n) := by
  induction hr with
  | top ht =>
    rcases ht with rfl | rfl
    · exact ⟨fun _ hx => by have := anc_top h (by omega) hx; omega, fun _ => .self⟩
    · exact ⟨fun hx => by have := anc_top h (by omega) hx; omega, fun hx => absurd .self hx⟩
  | @up d n k hf _ ih =>
    have h2 := fnd_some hf
    have h3 := h k h2.1
    rw [anc_up hf (by omega), anc_up hf (by omega)]
    exact ih
theorem Wf.one_top {L : List Kd} (h : Wf L) {k : Kd} (hk : k ∈ L) : Proofs.YtlcmkikjgelfaaaDoor.abv L 0 k.nd = !Proofs.YtlcmkikjgelfaaaDoor.abv L 1 k.nd := by
  obtain ⟨d, hd⟩ := h.rt k hk
  have h1 := top_one h.lo hd
  have hkn := hd.known
  have e0 := h.abv 0 k.nd
  have e1 := h.abv 1 k.nd
  cases a0 : Proofs.YtlcmkikjgelfaaaDoor.abv L 0 k.nd <;> cases a1 : Proofs.YtlcmkikjgelfaaaDoor.abv L 1 k.nd <;> simp_all
theorem nd_apart {ks : List Kd} (h : (ks.map (·.nd)).Nodup) {i j : Nat} (hi : i < ks.length) (hj : j < ks.length) (hne : j ≠ i) : ks[j].nd ≠ ks[i].nd := by
  intro e
  have h2 := List.pairwise_map.1 h
  rw [List.pairwise_iff_getElem] at h2
  rcases Nat.lt_or_gt_of_ne hne with hl | hl
  · exact h2 j i hj hi hl e
  · exact h2 i j hi hj hl e.symm
def UpRel (w : World) (n : Nat) (i : Value) (wr : World) : Prop := ∃ k : Nat, k ≤ n ∧ i = .int .i64 (k : Int) ∧ Below w.heap.size w wr
def ClRel (w : World) (L : List Kd) (n : Nat) (v i : Value) (wr : World) : Prop := ∃ (x : Int) (d st : Nat), v = .int .i64 x ∧ i = .int .i64 (st : Int) ∧ Rt L d x ∧ st + d ≤ n ∧ Below w.heap.size w wr
set_option maxHeartbeats 8000000 in
theorem treeUp_walk (a : Option Addr) (len cap : Nat) (os : List O5) (W : World) (h : IsOps W a len cap os) (hE : Env W) :
    Calls Tryd.prog 5 #[.slice a len cap] W (TrueRet W) := by
  obtain ⟨rfl, hops, hnm⟩ := h
  have HO := hide hops
  have HE := hide hE
  have HN := hide hnm
  have hle : os.length ≤ 9223372036854775807 := by
    have h1 := hops.le
    have h2 := hops.most
    unfold maxLen at h2
    omega
  clear hops hE hnm
  go_enter Tryd.func5, Tryd.ntmps5
  go_wp2_with fail
  refine (awake_any W HE.out).mono ?_
  rintro e w1 ⟨rfl, hb⟩
  have B1 := hide hb
  have O1 := hide (HO.out.below hb)
  clear hb HO
  go_wp2_with fail
  refine (shortOps_any a cap os w1 hle HN.out O1.out).mono ?_
  rintro e w2 ⟨rfl, hw⟩
  subst hw
  by_cases h1 : os.length ≤ 30
  · have d1 : decide ((os.length : Int) > 30) = false := by simp; omega
    cases hs : shO os with
    | false =>
      clear hs
      go_wp2
      go_ret
      exact ⟨rfl, B1.out⟩
    | true =>
      clear hs
      have KG := hide (grown_any a cap os w2 (by omega) HN.out (HE.out.below B1.out) O1.out)
      have hrl := runS_len os
      have HH := hide (runS_hst os)
      go_wp2_with fail
      clear d1
      refine KG.out.mono ?_
      rintro e w3 ⟨g, fs, rfl, hL⟩
      have L3 := hide hL
      generalize runS os = s at L3 HH hrl
      obtain ⟨L, r⟩ := s
      simp only at hrl
      have HW := hide HH.out.wf
      have hLn : L.length ≤ os.length := Nat.le_trans HH.out.len hrl
      have KA := hide (tall_any g L r fs (by omega) w3 L3.out.tr)
      clear hL KG HH
      go_wp2_with fail
      refine KA.out.mono ?_
      rintro e w4 ⟨v4, rfl, hk4, hb⟩
      have L4 := hide (L3.out.below hb)
      have hkl : L.length ≤ (sortK L).length ∧ (sortK L).length ≤ os.length := by rw [sortK_length]; omega
      have HKL := hide hkl.1
      have hko := hkl.2
      clear hkl
      have PM := hide (sortK_perm L)
      have HD := hide (show ((sortK L).map (·.nd)).Nodup from ((sortK_perm L).map _).nodup_iff.2 HW.out.one)
      generalize sortK L = ks at hk4 HKL hko PM HD
      obtain ⟨A4, c4, rfl, g1, g2, g3⟩ := hk4.kids
      have G4 := hide g3
      unfold maxLen at g2
      clear hk4 hb g3 KA L3 hLn
      have hc9 : decide ((ks.length : Int) > (os.length : Int)) = false := by simp; omega
      have hc8 : decide (os.length < ks.length) = false := by simp; omega
      go_wp2_with fail
      clear hc9 hc8
      go_loopw [7] (UpRel w4 ks.length) (fun i _ => ks.length - (intOf i).toNat)
      case atStart => exact ⟨0, Nat.zero_le _, rfl, Below.refl _ _⟩
      case round =>
        rename World => wi
        obtain ⟨k, hk, rfl, hb⟩ := hrel
        have BI := hide hb
        clear hb
        by_cases hlt : k < ks.length
        · obtain ⟨b, oo, rfl, hat⟩ := G4.out (by omega)
          obtain ⟨r0, r1, r2⟩ := (hat.below BI.out).three k hlt
          have AT := hide hat
          have i1 : (k : Int) < (ks.length : Int) := by omega
          have i0 : (0 : Int) ≤ (k : Int) := by omega
          have HX := hide (show ∃ x : Kd, x = ks[k] from ⟨_, rfl⟩)
          obtain ⟨x, hx⟩ := HX.out
          rw [← hx] at r0 r1 r2
          have XE := hide hx
          have XL := hide (show x ∈ L by rw [hx]; exact PM.out.mem_iff.1 (List.getElem_mem hlt))
          clear hat HX hx
          go_wp2_with fail
          clear r0 r1 r2
          go_loopw [9] (UpRel wi ks.length) (fun i _ => ks.length - (intOf i).toNat)
          case atStart => exact ⟨0, Nat.zero_le _, rfl, Below.refl _ _⟩
          case round =>
            rename World => wj
            obtain ⟨m, hm, rfl, hb⟩ := hrel
            have BJ := hide hb
            clear hb
            by_cases hmt : m < ks.length
            · obtain ⟨r0, r1, r2⟩ := ((AT.out.below BI.out).below BJ.out).three m hmt
              have j1 : (m : Int) < (ks.length : Int) := by omega
              have j0 : (0 : Int) ≤ (m : Int) := by omega
              by_cases hmk : m = k
              · subst hmk
                clear r0 r1 r2
                go_wp2_with fail
                go_roundw
                case rel => exact ⟨m + 1, by omega, by go_num, BJ.out⟩
                case measure => simp [intOf]; omega
              · have hne : ((m : Int) != (k : Int)) = true := by simp; omega
                have hnd : ks[m].nd ≠ x.nd := by rw [XE.out]; exact nd_apart HD.out hlt hmt hmk
                have hnd' : (ks[m].nd == x.nd) = false := by simp [hnd]
                generalize ks[m] = y at r0 r1 r2 hnd hnd'
                clear hnd
                go_wp2_with fail
                go_roundw
                case rel => exact ⟨m + 1, by omega, by go_num, BJ.out⟩
                case measure => simp [intOf]; omega
            · obtain rfl : m = ks.length := by omega
              have S0 := hide (show ClRel wj L ks.length (.int .i64 x.nd) (.int .i64 0) wj from by
                obtain ⟨d, hd⟩ := HW.out.rt x XL.out
                exact ⟨x.nd, d, 0, rfl, rfl, hd, by have := hd.le HW.out.lo; have := HKL.out; omega, Below.refl _ _⟩)
              have LJ := hide ((L4.out.below BI.out).below BJ.out)
              go_wp2_with fail
              go_loopw [8, 10] (ClRel wj L ks.length) (fun v _ _ => depthOf L v)
              case atStart => exact S0.out
              case round =>
                rename World => wl
                clear S0
                obtain ⟨y, d, st, rfl, rfl, hr, hst, hb⟩ := hrel
                have RR := hide hr
                have BL := hide hb
                have LL := hide (LJ.out.below hb)
                have hy := Rt.i64 HW.out hr
                by_cases hz : y = 0 ∨ y = 1
                · have AT2 := (((AT.out.below BI.out).below BJ.out).below hb)
                  obtain ⟨r0, r1, r2⟩ := AT2.three k hlt
                  have XA := hide AT2
                  rw [← XE.out] at r0 r1 r2
                  have hxd : i64B x.nd := by have := HW.out.lo x XL.out; unfold i64B; omega
                  have K0 := hide (tabove_any g L r fs 0 x.nd (by unfold i64B; omega) hxd wl LL.out.tr)
                  have EO := hide (HW.out.one_top XL.out)
                  have BW := hide ((BI.out.trans (BJ.out.mono BI.out.size)).trans (hb.mono (Nat.le_trans BI.out.size BJ.out.size)))
                  clear hb hr RR AT2
                  rcases hz with rfl | rfl
                  all_goals
                    go_wp2_with fail
                    refine K0.out.mono ?_
                    rintro e w5 ⟨rfl, hb⟩
                    have L5 := hide (LL.out.below hb)
                    have K1 := hide (tabove_any g L r fs 1 x.nd (by unfold i64B; omega) hxd w5 L5.out.tr)
                    have B5 := hide (BW.out.trans (hb.mono BW.out.size))
                    obtain ⟨t0, t1, t2⟩ := (XA.out.below hb).three k hlt
                    rw [← XE.out] at t0 t1 t2
                    rw [EO.out]
                    generalize abv L 1 x.nd = bb at K1
                    clear hb K0 BW XA r0 r1 r2 EO LL
                    go_wp2_with fail
                    refine K1.out.mono ?_
                    rintro e w6 ⟨rfl, hb⟩
                    have B6 := hide (B5.out.trans (hb.mono B5.out.size))
                    clear hb K1 B5 L5 t0 t1 t2
                    cases bb
                    all_goals
                      go_wp2_with fail
                      go_roundw
                      case rel => exact ⟨k + 1, by omega, by go_num, B6.out⟩
                      case measure => simp [intOf]; omega
                · have z0 : (y != 0) = true := by simp; omega
                  have z1 : (y != 1) = true := by simp; omega
                  cases hr with
                  | top ht => exact absurd ht hz
                  | @up d _ q hf hr' =>
                    have KS := hide (tspot_any g L r fs y hy wl LL.out.tr)
                    rw [hf] at KS
                    have RQ := hide hr'
                    have hkn : isKn L y = true := RR.out.known
                    have DE := hide (depth_eq HW.out hr')
                    have DY := hide (depth_eq HW.out RR.out)
                    clear hf hr' hb
                    go_wp2_with fail
                    refine KS.out.mono ?_
                    rintro e w5 ⟨rfl, hb⟩
                    have es : spv (some q) = .agg #[.bool true, .int .i64 q.to, .string (bs q.nm)] := rfl
                    rw [es]
                    have Bz := (Below.refl w5.heap.size w5).alloc (Nat.le_refl _) (.cells #[.bool true, .int .i64 q.to, .string (bs q.nm)] 39)
                    have bx := heap_alloc_new w5 (.cells #[.bool true, .int .i64 q.to, .string (bs q.nm)] 39)
                    have B5 := hide (BL.out.trans (hb.mono BL.out.size))
                    have B6 := hide (B5.out.trans (Bz.mono B5.out.size))
                    have L6 := hide ((LL.out.below hb).below Bz)
                    have y0 := cell_of_row _ _ 0 _ _ (0, 0) bx
                    have y1 := cell_of_row _ _ 1 _ _ (0, 0) bx
                    simp at y0 y1
                    have K1 := hide (tknown_any g L r fs y hy _ L6.out.tr)
                    rw [hkn] at K1
                    have hst' : decide ((st : Int) > (ks.length : Int)) = false := by simp; omega
                    clear hb KS Bz bx es B5 LL BL
                    go_wp2_with fail
                    refine K1.out.mono ?_
                    rintro e w7 ⟨rfl, hw⟩
                    subst hw
                    clear K1
                    go_wp2_with fail
                    go_roundw
                    case rel => exact ⟨q.to, d, st + 1, rfl, by go_num, RQ.out, by omega, B6.out⟩
                    case measure => rw [DE.out, DY.out]; omega
        · obtain rfl : k = ks.length := by omega
          go_wp2
          go_ret
          exact ⟨rfl, B1.out.trans ((L4.out.below BI.out).bel.mono B1.out.size)⟩
  · have d1 : decide ((os.length : Int) > 30) = true := by simp; omega
    go_wp2
    go_ret
    exact ⟨rfl, B1.out⟩
end Go.Proofs.YtlcmkikjgelfaaaDoor
