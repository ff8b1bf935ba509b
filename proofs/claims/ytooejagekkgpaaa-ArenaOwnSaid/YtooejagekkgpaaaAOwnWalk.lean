/-
  The walk of ArenaOwn. No conditions.
-/
import Derived.Test.YtooejagekkgpaaaAOwnPure
namespace Go.Proofs.Ytooejagekkgpaaa
open Go.RowKit Go.Maps
set_option linter.unusedVariables false
set_option linter.unusedSimpArgs false
set_option maxRecDepth 100000

def OwP (W w : World) (g : Nat) (l : List Int) (i : Nat) (vh : Value) : Prop := i ≤ l.length ∧ OwnH w W.heap.size vh (hO i) ∧ Az W w g 40 i (pA (l.take i))
def OwRel1 (W : World) (g : Nat) (l : List Int) (vh vi : Value) (wr : World) : Prop := ∃ i : Nat, vi = .int .i64 (i : Int) ∧ OwP W wr g l i vh
def OwRel2 (W : World) (g : Nat) (l : List Int) (vh : Value) (bg m : Nat) (vi : Value) (wr : World) : Prop := ∃ (i : Nat) (gone : List Bool), i ≤ m ∧ vi = .int .i64 (i : Int) ∧ Ow W wr g l vh bg gone
def OwRel3 (W : World) (g : Nat) (l : List Int) (vh : Value) (bg : Nat) (gone : List Bool) (vi : Value) (wr : World) : Prop := ∃ i : Nat, i ≤ l.length ∧ vi = .int .i64 (i : Int) ∧ Ow W wr g l vh bg gone
set_option maxHeartbeats 4000000 in
theorem arenaOwn_walk (a : Option Addr) (len cap : Nat) (zs : List Int) (a' : Option Addr) (len' cap' : Nat) (zs' : List Int) (W : World) (h : IsRow .i64 W a len cap zs) (h' : IsRow .u8 W a' len' cap' zs') :
    Calls Try.prog 6 #[.slice a len cap, .slice a' len' cap'] W (TrueRet W) := by
  obtain ⟨c1, c2, l, hI⟩ := h.ints
  obtain ⟨d1, d2, f, hF⟩ := h'.ints
  obtain rfl := hI.leq
  obtain rfl := hF.leq
  unfold maxLen at c2 d2
  have HI := hide hI
  have HF := hide hF
  clear hI hF h h'
  go_enter Try.func6, Try.ntmps6
  go_wp2_with fail
  refine (awake_any W).mono ?_
  rintro e w1 ⟨rfl, hb1⟩
  have B1 := hide hb1
  clear hb1
  by_cases h1 : 40 < l.length
  · have e1 : decide ((l.length : Int) > 40) = true := by simp; omega
    go_wp2
    go_ret
    exact ⟨rfl, B1.out⟩
  by_cases h2 : 40 < f.length
  · have e1 : decide ((l.length : Int) > 40) = false := by simp; omega
    have e2 : decide ((f.length : Int) > 40) = true := by simp; omega
    go_wp2
    go_ret
    exact ⟨rfl, B1.out⟩
  have e1 : decide ((l.length : Int) > 40) = false := by simp; omega
  have e2 : decide ((f.length : Int) > 40) = false := by simp; omega
  go_wp2_with fail
  refine (znew_any (w0 := W) 40 (by omega) (by omega) B1.out).mono ?_
  rintro e w2 ⟨rfl, hz, hb2⟩
  have S2 := hide (show OwP W w2 w1.heap.size l 0 (.slice none 0 0) from ⟨Nat.zero_le _, OwnH.nil _ _, hz⟩)
  clear hz hb2 B1
  generalize w1.heap.size = g at S2 ⊢
  go_wp2_with fail
  go_loopw [7, 8] (OwRel1 W g l) (fun _ i _ => l.length - (intOf i).toNat)
  case atStart => exact ⟨0, rfl, S2.out⟩
  case round =>
    obtain ⟨i, rfl, hi, hown, hz⟩ := hrel
    have HZ := hide hz
    have HO := hide hown
    by_cases hlt : i < l.length
    · obtain ⟨b, o, rfl, hc⟩ := (HI.out.below hz.bel).lit (by omega)
      have x0 := hc i hlt
      have i0 : (0 : Int) ≤ (i : Int) := by omega
      have i1 : (i : Int) < (l.length : Int) := by omega
      have K1 := hide (show Calls Try.prog 10 #[.pointer (some ⟨g, 0, none⟩), .int .i64 l[i]] wr (AzRet (.tuple #[.agg #[.int .i64 ((i : Int) + 1), .int .i64 1], .bool true]) W g 40 (i + 1) (pA (l.take (i + 1))) wr) from by
        have hl : (l.take i).length = i := by rw [List.length_take]; omega
        have := zput_any l[i] (by omega) hz (by rw [pA_live, hl]; omega)
        rw [pA_nxt, pA_put, hl, ← List.take_succ_eq_append_getElem hlt] at this
        simpa using this)
      clear hz hown hc
      generalize l[i] = x at x0 K1
      go_wp2_with fail
      refine K1.out.mono ?_
      rintro e w3 ⟨rfl, hz, hk⟩
      have HZ3 := hide (hz.alloc (.cells #[.int .i64 ((i : Int) + 1), .int .i64 1] 31))
      have X3 := hide (Hb.new w3 ((i : Int) + 1) 1)
      have HO3 := hide ((HO.out.kp hk).below ((Below.refl _ _).alloc (Nat.le_refl _) (.cells #[.int .i64 ((i : Int) + 1), .int .i64 1] 31)))
      clear hz hk K1 HZ HO x0
      go_upto_region 14 with (fail)
      generalize w3.heap.size = k3 at X3 ⊢
      generalize w3.alloc (.cells #[.int .i64 ((i : Int) + 1), .int .i64 1] 31) = w4 at HZ3 X3 HO3 ⊢
      obtain ⟨y0, y1⟩ := X3.out.two
      have D := (Below.refl w4.heap.size w4).alloc (Nat.le_refl _) (.cells #[.int .i64 ((i : Int) + 1), .int .i64 1] 31)
      have OA := hide (HO3.out.below D)
      have NB := hide (Hb.new w4 ((i : Int) + 1) 1).hs
      have ZA := hide (HZ3.out.below D)
      have hbs := ZA.out.bel.size
      have hOl := hO_length i
      clear D X3 HO3 HZ3
      go_wp2_with (at_builtin; refine wpList_append_h _ rfl _ _ rfl W.heap.size u7 (hO i) rfl OA.out (some ⟨w4.heap.size, 0, none⟩) 1 [((i : Int) + 1, 1)] rfl NB.out (by simp only [List.length_singleton]; omega) hbs ?_; intro A5 c5 w5 hown5 hg5 _; have HZ5 := hide (ZA.out.grownH OA.out hg5); have HO5 := hide (hO_own hown5); clear hown5 hg5)
      go_roundw
      case rel => exact ⟨i + 1, by go_num, by omega, HO5.out, HZ5.out⟩
      case measure => simp [intOf]; omega
    · obtain rfl : i = l.length := by omega
      have hbs := hz.bel.size
      rw [List.take_length] at HZ
      clear hz hown
      obtain ⟨i0, hi0, hz0, hz1, hz2⟩ := info_parts boolinfo
      have MB := hide (show i0.bytes * l.length ≤ 281474976710656 by rw [hz2]; omega)
      go_wp2_with (at_make; refine wpList_make_full _ rfl _ _ 52 rfl W.heap.size 4 i0 (.bool false) 1 Try.underlying52 hi0 hz0 hz1 .i64 .i64 _ _ l.length (by rfl) (by rfl) (by rfl) (by rfl) MB.out (by unfold maxLen; omega) hbs ?_)
      intro w3 hown3 hgr3
      obtain ⟨Ah, ch, rfl⟩ := row_form HO.out
      rw [hO_length] at HO ⊢
      have S3 := hide (Ow.start HZ.out (by omega) HO.out hown3 hgr3)
      generalize wr.heap.size = bg at S3 ⊢
      clear hown3 hgr3 HZ HO hi0 hz0 hz1 hz2 MB hbs S2
      go_wp2_with fail
      go_loopw [12] (OwRel2 W g l (.slice Ah l.length ch) bg f.length) (fun i _ => f.length - (intOf i).toNat)
      case atStart => exact ⟨0, _, Nat.zero_le _, rfl, S3.out⟩
      case round =>
        rename World => wi
        obtain ⟨i, gone, hi2, rfl, hS⟩ := hrel
        have HS := hide hS
        by_cases hlt2 : i < f.length ∧ 0 < l.length
        · obtain ⟨q1, q2⟩ := hlt2
          obtain ⟨b, o, rfl, hc⟩ := (HF.out.below hS.bel).lit (by omega)
          have x0 := hc i q1
          have hx := bounds_u8 (HF.out.wf f[i] (List.getElem_mem q1))
          obtain ⟨_, ht⟩ := hS.two
          obtain ⟨bh, oh, rfl, hh⟩ := ht q2
          generalize f[i] = x at x0 hx
          obtain ⟨x, rfl⟩ : ∃ n : Nat, x = n := ⟨x.toNat, by omega⟩
          obtain ⟨k, hk⟩ : ∃ k : Nat, k = x % l.length := ⟨_, rfl⟩
          have hkl : k < l.length := by rw [hk]; exact Nat.mod_lt _ q2
          have tk : Int.tmod (x : Int) (l.length : Int) = (k : Int) := by rw [hk]; rfl
          have i0 : (0 : Int) ≤ (i : Int) := by omega
          have i1 : (i : Int) < (f.length : Int) := by omega
          have i2 : (0 : Int) ≤ (k : Int) := by omega
          have i3 : (k : Int) < (l.length : Int) := by omega
          have p0 : decide ((l.length : Int) > 0) = true := by simp; omega
          have hkg : k < gone.length := by have := hS.len; omega
          have z0 := hS.bl.cell k hkg
          obtain ⟨y0, y1⟩ := hh k hkl
          obtain ⟨bb, hbb⟩ : ∃ bb, gone[k] = bb := ⟨_, rfl⟩
          have hb1 : gone[k]? = some bb := by rw [← hbb]; exact List.getElem?_eq_getElem hkg
          have KF := hide (fun (V : World) (hb : Below wi.heap.size wi V) => own_free (hS.below hb) k hkl (by omega) bb hb1)
          rw [hbb] at z0
          have HB1 := hide hb1
          have HFR := hide (fun (V : World) (hk : Kp wi V) => (hS.bl.kp hk).free k)
          have HHD := hide (fun (V : World) (hk : Kp wi V) => hS.held hk k hkl bb hb1)
          clear hS hc hh ht hk hbb hb1
          go_wp2_with fail
          go_region_held3 (fun w' => w'.cell? ⟨bh, oh + k * 2, none⟩ = some (.int .i64 ((k : Int) + 1)) ∧ w'.cell? ⟨bh, oh + k * 2 + 1, none⟩ = some (.int .i64 1) ∧ w'.cell? ⟨bg, k, none⟩ = some (.bool bb))
            (first | with_reducible exact hS1 | with_reducible exact ⟨y0, y1, z0⟩ | go_keep)
            (first
              | (go_at_call 12
                 (with_reducible refine (KF.out _ (Below.refl _ wi).drew).mono ?_)
                 rintro e w5 ⟨rfl, hb5, hk5, hz5⟩
                 have hk5' : Kp wi w5 := hk5
                 have hS1 := HHD.out w5 hk5'
                 have f5 := HFR.out w5 hk5'
                 have HW := hide (fun (hk : Kp wi w5) => HS.out.set hk k hz5)
                 have HK5 := hide hk5'
                 clear hb5 hk5 hz5 hk5'))
          obtain ⟨-, -, z5⟩ := hS1
          cases bb
          all_goals
            go_wp2_with fail
            go_roundw
            case rel => exact ⟨i + 1, _, by omega, by go_num, HW.out HK5.out⟩
            case measure => simp [intOf]; omega
        · have hc0 : ¬ i < f.length ∨ (i < f.length ∧ l.length = 0) := by omega
          clear hS S3
          have S4 := hide (show OwRel3 W g l (.slice Ah l.length ch) bg gone (.int .i64 0) wi from ⟨0, Nat.zero_le _, rfl, HS.out⟩)
          clear HS
          rcases hc0 with q1 | ⟨q1, q2⟩
          · go_wp2_with fail
            go_loopw [14] (OwRel3 W g l (.slice Ah l.length ch) bg gone) (fun i _ => l.length - (intOf i).toNat)
            case atStart => exact S4.out
            case round =>
              rename World => wj
              obtain ⟨j, hj, rfl, hS⟩ := hrel
              have HS := hide hS
              by_cases hlt3 : j < l.length
              · obtain ⟨b, o, rfl, hc⟩ := (HI.out.below hS.bel).lit (by omega)
                have x0 := hc j hlt3
                obtain ⟨_, ht⟩ := hS.two
                obtain ⟨bh, oh, rfl, hh⟩ := ht (by omega)
                have j0 : (0 : Int) ≤ (j : Int) := by omega
                have j1 : (j : Int) < (l.length : Int) := by omega
                have hkg : j < gone.length := by have := hS.len; omega
                obtain ⟨bb, hbb⟩ : ∃ bb, gone[j] = bb := ⟨_, rfl⟩
                have hb1 : gone[j]? = some bb := by rw [← hbb]; exact List.getElem?_eq_getElem hkg
                obtain ⟨y0, y1⟩ := hh j hlt3
                have KF := hide (own_get hS j hlt3 (by omega) bb hb1)
                have HHD := hide (fun (V : World) (hb : Below wj.heap.size wj V) => hS.held (Kp.of_below hb) j hlt3 bb hb1)
                clear hS hc hh ht hbb hb1 hkg
                generalize l[j] = lj at x0 KF
                go_wp2_with fail
                refine KF.out.mono ?_
                rintro e w5 ⟨x, rfl, hx, hb5⟩
                have HS5 := hide (HS.out.below hb5)
                obtain ⟨-, -, z5⟩ := HHD.out w5 hb5
                have x5 := cell_b hb5 x0
                have hX := hide hx
                clear hb5 hx KF HHD HS x0 y0 y1
                cases bb with
                | true =>
                  go_wp2_with fail
                  go_roundw
                  case rel => exact ⟨j + 1, by omega, by go_num, HS5.out⟩
                  case measure => simp [intOf]; omega
                | false =>
                  obtain rfl := hX.out rfl
                  go_wp2_with fail
                  go_roundw
                  case rel => exact ⟨j + 1, by omega, by go_num, HS5.out⟩
                  case measure => simp [intOf]; omega
              · obtain rfl : j = l.length := by omega
                have B := hide hS.bel
                clear hS HS
                go_wp2
                go_ret
                exact ⟨rfl, B.out⟩
          · go_wp2_with fail
            go_loopw [14] (OwRel3 W g l (.slice Ah l.length ch) bg gone) (fun i _ => l.length - (intOf i).toNat)
            case atStart => exact S4.out
            case round =>
              rename World => wj
              obtain ⟨j, hj, rfl, hS⟩ := hrel
              obtain rfl : j = l.length := by omega
              have B := hide hS.bel
              clear hS
              go_wp2
              go_ret
              exact ⟨rfl, B.out⟩
end Go.Proofs.Ytooejagekkgpaaa
