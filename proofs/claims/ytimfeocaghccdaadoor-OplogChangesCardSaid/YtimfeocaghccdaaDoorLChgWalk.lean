/-
  The walk of OplogChanges. Conditions: those of the statement.
-/
import Derived.Test.YtimfeocaghccdaaDoorLChgPure
import Derived.Deep.CutRange
import Derived.Deep.RegionHeld3
namespace Go.Proofs.YtimfeocaghccdaaDoor
set_option maxRecDepth 100000
open Go.RowKit Go.Maps
set_option linter.unusedVariables false
set_option linter.unusedSimpArgs false
set_option maxRecDepth 100000

/-- The spot that is wanted, in its block. -/
def Wnt (w : World) (b : Nat) (x : Option Kd) : Prop := w.heap[b]? = some (.cells #[.bool (spI x), .int .i64 (spT x), .string (bs (spN x))] 35 (0, 0))
theorem Wnt.cells {w : World} {b : Nat} {x : Option Kd} (h : Wnt w b x) : w.cell? ⟨b, 0, none⟩ = some (.bool (spI x)) ∧ w.cell? ⟨b, 1, none⟩ = some (.int .i64 (spT x)) ∧ w.cell? ⟨b, 2, none⟩ = some (.string (bs (spN x))) := by
  have a0 := cell_of_row _ _ 0 _ _ (0, 0) h
  have a1 := cell_of_row _ _ 1 _ _ (0, 0) h
  have a2 := cell_of_row _ _ 2 _ _ (0, 0) h
  simp at a0 a1 a2
  exact ⟨a0, a1, a2⟩
theorem Wnt.lt {w : World} {b : Nat} {x : Option Kd} (h : Wnt w b x) : b < w.heap.size := (Array.getElem?_eq_some_iff.1 h).1
theorem Wnt.below {w w' : World} {b : Nat} {x : Option Kd} (h : Wnt w b x) (hb : Below w.heap.size w w') : Wnt w' b x := (hb.block _ h.lt).trans h
theorem Wnt.set {w : World} {b : Nat} {x : Option Kd} (h : Wnt w b x) (y : Option Kd) : Wnt (((w.setCell ⟨b, 0, none⟩ (.bool (spI y))).setCell ⟨b, 1, none⟩ (.int .i64 (spT y))).setCell ⟨b, 2, none⟩ (.string (bs (spN y)))) b y := by
  have h1 := Joins.block_setCell (i := 0) h (.bool (spI y))
  have h2 := Joins.block_setCell (i := 1) h1 (.int .i64 (spT y))
  have h3 := Joins.block_setCell (i := 2) h2 (.string (bs (spN y)))
  unfold Wnt
  simpa using h3
theorem Wnt.bel {w0 w : World} {b : Nat} (hb : Below w0.heap.size w0 w) (h0 : w0.heap.size ≤ b) (u v x : Value) : Below w0.heap.size w0 (((w.setCell ⟨b, 0, none⟩ u).setCell ⟨b, 1, none⟩ v).setCell ⟨b, 2, none⟩ x) :=
  ((hb.setCell (p := ⟨b, 0, none⟩) h0 _).setCell (p := ⟨b, 1, none⟩) h0 _).setCell (p := ⟨b, 2, none⟩) h0 _
def CgOut (w0 : World) (i : Value) (wr : World) : Prop := ∃ n : Nat, 256 ≤ n ∧ n ≤ 264 ∧ i = .int .i64 (n : Int) ∧ Below w0.heap.size w0 wr
def CgIn (w0 : World) (kb : Nat) (A B : List Kd) (D : List Int) (n : Int) (i : Value) (wr : World) : Prop :=
  ∃ j : Nat, j ≤ D.length ∧ i = .int .i64 (j : Int) ∧ Wnt wr kb (wantK A B D j n) ∧ Below w0.heap.size w0 wr
def CgLast (w0 : World) (m : Nat) (i : Value) (wr : World) : Prop := ∃ j : Nat, j ≤ m ∧ i = .int .i64 (j : Int) ∧ Below w0.heap.size w0 wr
set_option maxHeartbeats 8000000 in
theorem oplogChanges_walk (a : Option Addr) (len cap : Nat) (ts : List T5) (a' : Option Addr) (len' cap' : Nat) (us : List T5) (W : World) (h : IsTns W a len cap ts) (h' : IsTns W a' len' cap' us) (hE : Env W) :
    Calls Tryd.prog 3 #[.slice a len cap, .slice a' len' cap'] W (TrueRet W) := by
  obtain ⟨rfl, hts, hok⟩ := h
  obtain ⟨rfl, hus, hok'⟩ := h'
  have HT := hide hts
  have HU := hide hus
  have HK := hide hok
  have HK' := hide hok'
  have HE := hide hE
  clear hts hus hok hok' hE
  obtain ⟨X, hX⟩ : ∃ X, ts.map ofT = X := ⟨_, rfl⟩
  obtain ⟨Y, hY⟩ : ∃ Y, us.map ofT = Y := ⟨_, rfl⟩
  have xl : X.length = ts.length := by rw [← hX, List.length_map]
  have yl : Y.length = us.length := by rw [← hY, List.length_map]
  have XR := hide (show AllR X by rw [← hX]; exact tiny_R ts)
  have YR := hide (show AllR Y by rw [← hY]; exact tiny_R us)
  have XN := hide (show ∀ o ∈ X, o.l.length ≤ maxLen by rw [← hX]; exact ofT_name ts)
  have YN := hide (show ∀ o ∈ Y, o.l.length ≤ maxLen by rw [← hY]; exact ofT_name us)
  have XE := hide hX
  have YE := hide hY
  obtain ⟨M, hM⟩ : ∃ M, putO [] X = M := ⟨_, rfl⟩
  obtain ⟨N, hN⟩ : ∃ N, putO M Y = N := ⟨_, rfl⟩
  have m1 : M.length ≤ ts.length := by
    have := putF_most (f := ocF) X []
    rw [show putF ocF [] X = M from hM] at this
    simp at this
    omega
  have m2 : N.length ≤ M.length + us.length := by
    have := putF_most (f := ocF) Y M
    rw [show putF ocF M Y = N from hN] at this
    omega
  have m3 : M.length ≤ N.length := by
    have := putF_le (f := ocF) Y M
    rw [← hN]
    exact this
  have OK := hide (chL_ok (L := M) (M := N) (fun o ho => by rw [← hN]; exact mem_putF.2 (.inl ho)) (fun o ho => by
    rw [← hN] at ho
    rcases mem_putF.1 ho with ho | ho
    · rw [← hM] at ho
      rcases mem_putF.1 ho with ho | ho
      · simp at ho
      · rw [← hX] at ho
        exact ofT_d ts o ho
    · rw [← hY] at ho
      exact ofT_d us o ho))
  have HM := hide hM
  have HN := hide hN
  have m4 : X.length ≤ ts.length := Nat.le_of_eq xl
  have m5 : Y.length ≤ us.length := Nat.le_of_eq yl
  clear hX hY hM hN xl yl
  go_enter Tryd.func3, Tryd.ntmps3
  go_wp2_with fail
  refine (lawake_any W HE.out).mono ?_
  rintro e w1 ⟨rfl, hb⟩
  have B1 := hide hb
  clear hb
  by_cases h1 : ts.length ≤ 24 ∧ us.length ≤ 8
  · obtain ⟨h1, h2⟩ := h1
    have d1 : decide ((ts.length : Int) > 24) = false := by simp; omega
    have d2 : decide ((us.length : Int) > 8) = false := by simp; omega
    go_wp2_with fail
    refine (lnew_any 1000 w1).mono ?_
    rintro e w2 ⟨g, fs2, rfl, hL2⟩
    have L2 := hide (hL2.back B1.out)
    clear hL2
    have T2 := hide (HT.out.below L2.out.bel)
    go_wp2_with fail
    refine (all_any a cap ts w2 (by omega) HK.out T2.out).mono ?_
    rintro e w3 ⟨v3, rfl, hv3, hb3⟩
    rw [XE.out] at hv3
    obtain ⟨A3, c3, rfl, ho3⟩ := hv3.ops
    have L3 := hide (L2.out.below hb3)
    have O3 := hide ho3
    clear hv3 hb3 ho3 T2 L2 B1
    have K3 := hide (put_fits W HE.out g 1000 [] fs2 A3 c3 X XR.out XN.out (by simp; omega) (by rw [HM.out]; omega) w3 L3.out O3.out)
    rw [HM.out] at K3
    simp only [List.length_nil, Nat.sub_zero] at K3
    go_wp2_with fail
    refine K3.out.mono ?_
    rintro e w4 ⟨A4, k4, c4, fs4, rfl, -, hL4, -, -⟩
    have L4 := hide hL4
    clear hL4 K3 L3 O3
    go_wp2_with fail
    refine (ltree_any g 1000 M fs4 (by omega) w4 L4.out.lg).mono ?_
    rintro e w5 ⟨b5, f5, rfl, hT5, hf5, hb5⟩
    have L5 := hide (L4.out.below hb5)
    have T5 := hide hT5
    have F5 := hide (fun k hk => (show k ∉ fs4 from fun hk' => by have := L4.out.lg.lt k hk'; have := hf5 k hk; omega) : ∀ k ∈ f5, k ∉ fs4)
    clear hT5 hb5 hf5 L4
    have U5 := hide (HU.out.below L5.out.bel)
    go_wp2_with fail
    refine (all_any a' cap' us w5 (by omega) HK'.out U5.out).mono ?_
    rintro e w6 ⟨v6, rfl, hv6, hb6⟩
    rw [YE.out] at hv6
    obtain ⟨A6, c6, rfl, ho6⟩ := hv6.ops
    have L6 := hide (L5.out.below hb6)
    have T6 := hide (T5.out.below hb6)
    have O6 := hide ho6
    clear hv6 hb6 ho6 U5 L5 T5
    have K6 := hide (put_chs W HE.out g 1000 M fs4 A6 c6 Y YR.out YN.out (by omega) (by rw [HN.out]; omega) w6 L6.out O6.out)
    rw [HN.out] at K6
    unfold PutC at K6
    have cl0 : (chL M N).length ≤ 32 := by
      unfold chL chs dif
      rw [List.length_map]
      have h1 := List.length_filter_le (fun n => decide (fnd (runS M).1 n ≠ fnd (runS N).1 n)) (ups (N.map (·.d)))
      have h2 := ups_len (N.map (·.d))
      rw [List.length_map] at h2
      omega
    generalize chL M N = C at K6 OK cl0
    go_wp2_with fail
    refine K6.out.mono ?_
    rintro e w7 ⟨A7, c7, fs7, rfl, hC7, hL7, hm7, -⟩
    have L7 := hide hL7
    have T7 := hide (T6.out.mod hm7 F5.out)
    have C7 := hide (hC7.base (Nat.zero_le _))
    clear hC7 hL7 hm7 K6 L6 O6 F5 T6
    go_wp2_with fail
    refine (ltree_any g 1000 N fs7 (by omega) w7 L7.out.lg).mono ?_
    rintro e w8 ⟨b8', f8, rfl, hT8, -, hb8⟩
    have B8 := hide (L7.out.below hb8).bel
    have T8 := hide (T7.out.below hb8)
    have U8 := hide hT8
    have C8 := hide (C7.out.below hb8)
    clear hT8 hb8 T7 C7 L7
    generalize (runS M).1 = TA at OK T8
    generalize (runS N).1 = TB at OK U8
    generalize (runS M).2 = ra at T8
    generalize (runS N).2 = rb at U8
    generalize dif TA TB (N.map (·.d)) = D at OK
    have cl1 := Nat.le_of_eq OK.out.len
    have cl2 := Nat.le_of_eq OK.out.len.symm
    have S0 := hide (show CgOut w8 (.int .i64 256) w8 from ⟨256, Nat.le_refl _, by omega, rfl, Below.refl _ _⟩)
    go_wp2_with fail
    go_loopw [15] (CgOut w8) (fun i _ => 264 - (intOf i).toNat)
    case atStart => exact S0.out
    case round =>
      rename World => wi
      obtain ⟨n, hn1, hn2, rfl, hbn⟩ := hrel
      have BN := hide hbn
      clear hbn S0
      by_cases hlt : n < 264
      · have i1 : (n : Int) < 264 := by omega
        have h64 : i64B (n : Int) := by unfold i64B; omega
        have KA := hide (tspot_any b5 TA ra f5 (n : Int) h64 wi (T8.out.below BN.out))
        go_wp2_with fail
        refine KA.out.mono ?_
        rintro e w9 ⟨rfl, hb9⟩
        have B9 := hide (BN.out.trans (hb9.mono BN.out.size))
        unfold spv
        have WN := hide (show Wnt (w9.alloc (.cells #[.bool (spI (fnd TA n)), .int .i64 (spT (fnd TA n)), .string (bs (spN (fnd TA n)))] 35)) w9.heap.size (wantK TA TB D 0 n) by
          rw [wantK_zero]
          exact heap_alloc_new _ _)
        have S1 := hide (show CgIn w8 w9.heap.size TA TB D n (.int .i64 0) (w9.alloc (.cells #[.bool (spI (fnd TA n)), .int .i64 (spT (fnd TA n)), .string (bs (spN (fnd TA n)))] 35)) from
          ⟨0, Nat.zero_le _, rfl, WN.out, B9.out.alloc B9.out.size _⟩)
        have sz9 := B9.out.size
        clear WN KA hb9 B9
        go_wp2_with fail
        go_loopw [17] (CgIn w8 w9.heap.size TA TB D n) (fun i _ => D.length - (intOf i).toNat)
        case atStart => exact S1.out
        case round =>
          rename World => wj
          obtain ⟨j, hj, rfl, hw, hbj⟩ := hrel
          have HW := hide hw
          have BJ := hide hbj
          clear hw hbj S1
          by_cases hlj : j < C.length
          · have i2 : (j : Int) < (C.length : Int) := by omega
            have i0 : (0 : Int) ≤ (j : Int) := by omega
            have hjd : j < D.length := by omega
            obtain ⟨bc, rfl, hc0, hc1, hc2, hc3, hc4, hc5, hc6⟩ := (C8.out.below BJ.out).seven j hlj
            have hat : C[j] = (D[j], fnd TA D[j], fnd TB D[j]) := by
              have := OK.out.at_ j hjd
              rw [List.getElem?_eq_getElem hlj] at this
              exact Option.some.inj this
            rw [hat] at hc0 hc1 hc2 hc3 hc4 hc5 hc6
            have HNE := hide (OK.out.ne j hjd)
            have HWA := hide (wantK_was (A := TA) (B := TB) OK.out.srt hjd)
            have HWH := hide (wantK_hit (A := TA) (B := TB) hjd)
            have HWS := hide (fun h => wantK_skip (A := TA) (B := TB) (n := (n : Int)) hjd h)
            have HFA := hide (fun (x : Kd) (h : fnd TA D[j] = some x) => (fnd_some h).2)
            have HFB := hide (fun (x : Kd) (h : fnd TB D[j] = some x) => (fnd_some h).2)
            clear hat
            generalize D[j] = d at hc0 hc1 hc2 hc3 hc4 hc5 hc6 HNE HWA HWH HWS HFA HFB
            by_cases hd : d = (n : Int)
            · subst hd
              have hx1 : ((n : Int) == (n : Int)) = true := by simp
              have HW' := hide (show Wnt wj w9.heap.size (fnd TA n) by rw [← HWA.out]; exact HW.out)
              have hSP : ¬ (spI (fnd TA n) = spI (fnd TB n) ∧ spT (fnd TA n) = spT (fnd TB n) ∧ spN (fnd TA n) = spN (fnd TB n)) := fun h =>
                HNE.out (sp_same h fun x y hx hy => (HFA.out x hx).trans (HFB.out y hy).symm)
              have HWN := hide (fun (w : World) (h : Wnt w w9.heap.size (fnd TA n)) => show Wnt (((w.setCell ⟨w9.heap.size, 0, none⟩ (.bool (spI (fnd TB n)))).setCell ⟨w9.heap.size, 1, none⟩ (.int .i64 (spT (fnd TB n)))).setCell ⟨w9.heap.size, 2, none⟩ (.string (bs (spN (fnd TB n))))) w9.heap.size (wantK TA TB D (j + 1) n) by
                rw [HWH.out]
                exact h.set _)
              clear HNE HWA HWH HWS HFA HFB HW
              generalize fnd TA n = xa at hc1 hc2 hc3 HW' hSP HWN
              generalize fnd TB n = xb at hc4 hc5 hc6 hSP HWN
              obtain ⟨q0, q1, q2⟩ := HW'.out.cells
              have hq1 := spot_neq (spI xa) (spI xa) (spT xa) (spT xa) (spN xa) (spN xa)
              have hq2 := spot_eql (spI xa) (spI xb) (spT xa) (spT xb) (spN xa) (spN xb)
              simp only [and_self, decide_true, Bool.not_true] at hq1
              rw [decide_eq_false hSP] at hq2
              clear hSP
              have fz0 := Joins.unfrozen_of_block HW'.out 0
              have fz1 := Joins.unfrozen_of_block HW'.out 1
              have fz2 := Joins.unfrozen_of_block HW'.out 2
              go_wp2_with fail
              go_quiet (fail)
              have HWN' := hide (HWN.out (wj.drewN nq) (HW'.out.below (belowD' (Below.refl _ _) nq)))
              have BW' := hide (Wnt.bel (belowD' BJ.out nq) sz9 (.bool (spI xb)) (.int .i64 (spT xb)) (.string (bs (spN xb))))
              clear HWN HW'
              go_wp2_with fail
              go_roundw
              case rel => exact ⟨j + 1, by omega, by go_num, HWN'.out, BW'.out⟩
              case measure => simp [intOf]; omega
            · have hx1 : (d == (n : Int)) = false := by simpa using hd
              have HW' := hide (show Wnt wj w9.heap.size (wantK TA TB D (j + 1) n) by rw [HWS.out hd]; exact HW.out)
              clear HNE HWA HWH HWS HFA HFB HW hd
              go_wp2_with fail
              go_roundw
              case rel => exact ⟨j + 1, by omega, by go_num, HW'.out, BJ.out⟩
              case measure => simp [intOf]; omega
          · have ej : j = D.length := by omega
            have HWF := hide (show Wnt wj w9.heap.size (fnd TB n) by rw [← OK.out.all n, ← ej]; exact HW.out)
            have i2 : ¬ (j : Int) < (C.length : Int) := by omega
            have hS0 := HWF.out.cells
            have BJd := hide (BJ.out.drew)
            have HWd := hide (HWF.out.below (Below.refl _ wj).drew)
            have KU := hide (fun V (hV : Below w8.heap.size w8 V) => tspot_any b8' TB rb f8 (n : Int) h64 V (U8.out.below hV))
            unfold SpotRet spv at KU
            clear HW ej
            generalize fnd TB n = xb at HWF HWd hS0 KU
            have hq1 := spot_neq (spI xb) (spI xb) (spT xb) (spT xb) (spN xb) (spN xb)
            simp only [and_self, decide_true, Bool.not_true] at hq1
            go_wp2_with fail
            go_region_held3 (fun w' => w'.cell? ⟨w9.heap.size, 0, none⟩ = some (.bool (spI xb)) ∧ w'.cell? ⟨w9.heap.size, 1, none⟩ = some (.int .i64 (spT xb)) ∧ w'.cell? ⟨w9.heap.size, 2, none⟩ = some (.string (bs (spN xb))))
              (first | with_reducible exact hS1 | with_reducible exact hS0 | go_keep)
              (first
                | (go_at_call 11
                   (with_reducible refine (KU.out _ ?hz).mono ?_)
                   case hz => first | with_reducible exact BJd.out | with_reducible exact BJ.out
                   rintro e wz ⟨rfl, hb⟩
                   have hb' : Below wj.heap.size wj wz := ⟨hb.os, hb.tape, hb.output, hb.size, hb.block⟩
                   have hS1 := (HWF.out.below hb').cells
                   have BZ := hide (BJ.out.trans (hb'.mono BJ.out.size))
                   clear hb hb'))
            go_wp2_with fail
            go_roundw
            case rel => exact ⟨n + 1, by omega, by omega, by go_num, BZ.out⟩
            case measure => simp [intOf]; omega
      · have i1 : ¬ (n : Int) < 264 := by omega
        have S2 := hide (show CgLast w8 C.length (.int .i64 0) wi from ⟨0, Nat.zero_le _, rfl, BN.out⟩)
        go_wp2_with fail
        go_loopw [18] (CgLast w8 C.length) (fun i _ => C.length - (intOf i).toNat)
        case atStart => exact S2.out
        case round =>
          rename World => wk
          obtain ⟨j, hj, rfl, hbk⟩ := hrel
          have BK := hide hbk
          clear hbk S2
          by_cases hlj : j < C.length
          · have i2 : (j : Int) < (C.length : Int) := by omega
            have i0 : (0 : Int) ≤ (j : Int) := by omega
            have hjd : j < D.length := by omega
            obtain ⟨bc, rfl, hc0, -⟩ := (C8.out.below BK.out).seven j hlj
            have hat : C[j] = (D[j], fnd TA D[j], fnd TB D[j]) := by
              have := OK.out.at_ j hjd
              rw [List.getElem?_eq_getElem hlj] at this
              exact Option.some.inj this
            rw [hat] at hc0
            have hbd := OK.out.bnd D[j] (List.getElem_mem hjd)
            clear hat
            by_cases hz : 0 < j
            · obtain ⟨m, hm⟩ : ∃ m, m + 1 = j := ⟨j - 1, by omega⟩
              obtain ⟨bc', hbc', hd0, -⟩ := (C8.out.below BK.out).seven m (by omega)
              cases hbc'
              have hat : C[m] = (D[m], fnd TA D[m], fnd TB D[m]) := by
                have := OK.out.at_ m (by omega)
                rw [List.getElem?_eq_getElem (by omega)] at this
                exact Option.some.inj this
              rw [hat] at hd0
              have hlt2 := srt_lt OK.out.srt (show m < j by omega) hjd
              clear hat
              generalize D[j] = d at hc0 hbd hlt2
              generalize D[m] = d' at hd0 hlt2
              have x1 : decide (d < 256) = false := by simp; omega
              have x2 : decide (d > 263) = false := by simp; omega
              have x2' : decide (263 < d) = false := by simp; omega
              have x3 : decide (d ≤ d') = false := by simp; omega
              have x4 : decide ((j : Int) > 0) = true := by simp; omega
              have x8 : decide (0 < j) = true := by simp; omega
              have x5 : (j : Int) - 1 = (m : Int) := by omega
              have x6 : (m : Int) < (C.length : Int) := by omega
              have x7 : (0 : Int) ≤ (m : Int) := by omega
              have x9 : IntKind.i64.wrap (m : Int) = (m : Int) := by rw [IntKind.wrap_i64]; omega
              clear hbd hlt2 hm hz
              go_wp2_with fail
              go_quiet (fail)
              go_wp2_with fail
              go_roundw
              case rel => exact ⟨j + 1, by omega, by go_num, belowD' BK.out _⟩
              case measure => simp [intOf]; omega
            · obtain rfl : j = 0 := by omega
              generalize D[0] = d at hc0 hbd
              have x1 : decide (d < 256) = false := by simp; omega
              have x2 : decide (d > 263) = false := by simp; omega
              have x2' : decide (263 < d) = false := by simp; omega
              simp only [Nat.zero_mul] at hc0
              clear hbd hz
              rw [show ((0 : Nat) : Int) = 0 from rfl]
              go_wp2_with fail
              go_quiet (fail)
              go_wp2_with fail
              go_roundw
              case rel => exact ⟨1, by omega, by go_num, belowD' BK.out _⟩
              case measure => simp [intOf]; omega
          · have BF := hide BK.out
            have i2 : ¬ (j : Int) < (C.length : Int) := by omega
            go_wp2
            go_ret
            exact ⟨rfl, B8.out.trans (BF.out.mono B8.out.size)⟩
  · by_cases h2 : ts.length ≤ 24
    · have d1 : decide ((ts.length : Int) > 24) = false := by simp; omega
      have d2 : decide ((us.length : Int) > 8) = true := by simp; omega
      clear h1
      go_wp2
      go_ret
      exact ⟨rfl, B1.out⟩
    · have d1 : decide ((ts.length : Int) > 24) = true := by simp; omega
      clear h1
      go_wp2
      go_ret
      exact ⟨rfl, B1.out⟩
end Go.Proofs.YtimfeocaghccdaaDoor
