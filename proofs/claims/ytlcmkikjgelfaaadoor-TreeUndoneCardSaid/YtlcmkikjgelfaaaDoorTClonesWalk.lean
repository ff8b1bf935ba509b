/-
  The walk of TreeClones; two trees side by side. Conditions: those of the statement.
-/
import Derived.Test.YtlcmkikjgelfaaaDoorTLaw
namespace Go.Proofs.YtlcmkikjgelfaaaDoor
open Go.RowKit Go.Maps
set_option linter.unusedVariables false
set_option linter.unusedSimpArgs false
set_option maxRecDepth 100000

/-- Two trees in memory, with no block in common. -/
structure Two (w0 w : World) (ga gb : Nat) (s s' : St) (fa fb : List Nat) : Prop where
  a : Lw w0 w ga s fa
  b : Lw w0 w gb s' fb
  d : ∀ k ∈ fa, k ∉ fb
theorem Two.swap {w0 w : World} {ga gb : Nat} {s s' : St} {fa fb : List Nat} (h : Two w0 w ga gb s s' fa fb) : Two w0 w gb ga s' s fb fa := ⟨h.b, h.a, fun k hk hk' => h.d k hk' hk⟩
theorem Two.below {w0 w w' : World} {ga gb : Nat} {s s' : St} {fa fb : List Nat} (h : Two w0 w ga gb s s' fa fb) (hb : Below w.heap.size w w') : Two w0 w' ga gb s s' fa fb := ⟨h.a.below hb, h.b.below hb, h.d⟩
theorem Two.retA {w0 w w' : World} {ga gb : Nat} {s s' s2 : St} {fa fb : List Nat} {v : Value} {e : Ending} (h : Two w0 w ga gb s s' fa fb) (hr : TrRet v ga s2.1 s2.2 fa w e w') :
    e = .returned v ∧ ∃ fa', Two w0 w' ga gb s2 s' fa' fb ∧ Mod fa w w' ∧ ∀ k ∈ fa', k ∈ fa ∨ w.heap.size ≤ k := by
  obtain ⟨rfl, fa', h1, h2, h3⟩ := h.a.ret hr
  refine ⟨rfl, fa', ⟨h1, ⟨h.b.tr.mod h2 (fun k hk hk' => h.d k hk' hk), h.b.fs, h1.bel⟩, fun k hk hk' => ?_⟩, h2, h3⟩
  rcases h3 k hk with h4 | h4
  · exact h.d k h4 hk'
  · have := h.b.tr.lt k hk'
    omega
theorem Two.retB {w0 w w' : World} {ga gb : Nat} {s s' s2 : St} {fa fb : List Nat} {v : Value} {e : Ending} (h : Two w0 w ga gb s s' fa fb) (hr : TrRet v gb s2.1 s2.2 fb w e w') :
    e = .returned v ∧ ∃ fb', Two w0 w' ga gb s s2 fa fb' ∧ Mod fb w w' ∧ ∀ k ∈ fb', k ∈ fb ∨ w.heap.size ≤ k := by
  obtain ⟨rfl, fb', h1, h2, h3⟩ := h.swap.retA hr
  exact ⟨rfl, fb', h1.swap, h2, h3⟩
theorem stp_right (s : St) {o : O5} (h : o.R = true) : stp s o = (app s.1 o, s.1 :: s.2) := by unfold stp; rw [h]; simp
/-- Undone, it is what it was. -/
theorem tundo_back (g : Nat) (s : St) (o : O5) (hR : o.R = true) (fs : List Nat) (hr : s.2.length < 900000) (w : World) (h : Tr w g (stp s o).1 (stp s o).2 fs) : Calls Tryd.prog 14 #[.pointer (some ⟨g, 0, none⟩)] w (TrRet (.bool true) g s.1 s.2 fs w) := by
  rw [stp_right s hR] at h
  exact tundo_some g _ s.1 s.2 fs hr w h
theorem tundo_start (g : Nat) (fs : List Nat) (w : World) (h : Tr w g (runS []).1 (runS []).2 fs) : Calls Tryd.prog 14 #[.pointer (some ⟨g, 0, none⟩)] w (fun e w' => e = .returned (.bool false) ∧ w' = w) := tundo_none g _ fs w h
/-- So many are left. -/
def ClRel (w0 : World) (ga gb : Nat) (os : List O5) (i : Value) (wr : World) : Prop :=
  ∃ (k : Nat) (fa fb : List Nat), k ≤ os.length ∧ i = .int .i64 (k : Int) ∧ Two w0 wr ga gb (runS (os.take (os.length - k))) (runS (os.take (os.length - k))) fa fb
set_option maxHeartbeats 8000000 in
theorem treeClones_walk (a : Option Addr) (len cap : Nat) (ts : List T5) (ta tb tc te tf : Int) (first : Bool) (W : World) (h : IsTns W a len cap ts)
    (ha : (Lit.int .u8 ta).wf = true) (hb : (Lit.int .u8 tb).wf = true) (hc : (Lit.int .u8 tc).wf = true) (he : (Lit.int .u8 te).wf = true) (hf : (Lit.int .u8 tf).wf = true) (hE : Env W) :
    Calls Tryd.prog 8 #[.slice a len cap, .agg #[.int .u8 ta, .int .u8 tb, .int .u8 tc, .int .u8 te, .int .u8 tf], .bool first] W (TrueRet W) := by
  obtain ⟨rfl, hts, hok⟩ := h
  have ha := bounds_u8 ha
  have hb := bounds_u8 hb
  have hc := bounds_u8 hc
  have he := bounds_u8 he
  have hf := bounds_u8 hf
  obtain ⟨ta, rfl⟩ : ∃ n : Nat, ta = n := ⟨ta.toNat, by omega⟩
  obtain ⟨tb, rfl⟩ : ∃ n : Nat, tb = n := ⟨tb.toNat, by omega⟩
  obtain ⟨tc, rfl⟩ : ∃ n : Nat, tc = n := ⟨tc.toNat, by omega⟩
  obtain ⟨te, rfl⟩ : ∃ n : Nat, te = n := ⟨te.toNat, by omega⟩
  obtain ⟨tf, rfl⟩ : ∃ n : Nat, tf = n := ⟨tf.toNat, by omega⟩
  have KO := hide (fun W => of_any ta tb tc te tf W (by omega) (by omega) (by omega) (by omega) (by omega))
  obtain ⟨o, ho⟩ : ∃ o : O5, o = ofT ⟨ta, tb, tc, te, tf⟩ := ⟨_, rfl⟩
  have hR : o.R = true := by rw [ho]; exact ofT_R _
  have hv : opv (1 + (ta : Int) % 40) ((tb : Int) % 4) (256 + (tc : Int) % 8) (toOf te) [b8 (97 + tf % 8)] = .agg #[.int .i64 o.n, .int .i64 o.r, .int .i64 o.d, .int .i64 o.t, .string (bs o.l)] := by rw [ho]; rfl
  rw [hv] at KO
  have HR := hide hR
  clear ho hv hR ha hb hc he hf
  have Bz := (Below.refl W.heap.size W).alloc (Nat.le_refl _) (.cells #[.int .u8 (ta : Int), .int .u8 (tb : Int), .int .u8 (tc : Int), .int .u8 (te : Int), .int .u8 (tf : Int)] 59)
  have bx := heap_alloc_new W (.cells #[.int .u8 (ta : Int), .int .u8 (tb : Int), .int .u8 (tc : Int), .int .u8 (te : Int), .int .u8 (tf : Int)] 59)
  have HBX := hide bx
  have B0 := hide Bz
  have HT := hide hts
  have HK := hide hok
  have HE := hide hE
  have lx : W.heap.size < (W.alloc (.cells #[.int .u8 (ta : Int), .int .u8 (tb : Int), .int .u8 (tc : Int), .int .u8 (te : Int), .int .u8 (tf : Int)] 59)).heap.size := by simp
  clear Bz bx hts hok hE
  go_enter Tryd.func8, Tryd.ntmps8
  go_wp2_with fail
  refine (awake_any _ (HE.out.below B0.out)).mono ?_
  rintro e w1 ⟨rfl, hb⟩
  have B1 := hide (B0.out.trans (hb.mono (by simp)))
  have X1 := hide ((hb.block _ lx).trans HBX.out)
  clear hb B0 HBX lx
  by_cases h1 : ts.length ≤ 30
  · have d1 : decide ((ts.length : Int) > 30) = false := by simp; omega
    go_wp2_with fail
    clear d1
    refine (all_any a cap ts w1 (by omega) HK.out (HT.out.below B1.out)).mono ?_
    rintro e w2 ⟨v2, rfl, hown, hb⟩
    have B2 := hide (B1.out.trans (hb.mono B1.out.size))
    have X2 := hide ((hb.block _ (Array.getElem?_eq_some_iff.1 X1.out).1).trans X1.out)
    obtain ⟨A2, c2, rfl, p2⟩ := hown.ops
    have P2 := hide p2
    have KG := hide (grown_any A2 c2 (ts.map ofT) w2 (by simp; omega) (ofT_name ts) (HE.out.below B2.out) p2)
    have hrl := fun k => runS_len ((ts.map ofT).take k)
    have HRL := hide hrl
    have HH := hide (fun k => runS_hst ((ts.map ofT).take k))
    have HAR := hide (show ∀ x ∈ ts.map ofT, x.R = true by intro x hx; obtain ⟨t, _, rfl⟩ := List.mem_map.1 hx; exact ofT_R t)
    have hml : ts.length = (ts.map ofT).length := by simp
    rw [hml] at h1 ⊢
    generalize ts.map ofT = os at KG P2 HRL HH HAR h1
    clear hown hb p2 B1 X1 hrl hml
    have hr9 : (runS os).2.length < 900000 := by
      have := runS_len os
      omega
    have hL9 : (runS os).1.length ≤ 1000 := by
      have := (runS_hst os).len
      have := runS_len os
      omega
    go_wp2_with fail
    refine KG.out.mono ?_
    rintro e w3 ⟨g, fs, rfl, hL⟩
    have L3 := hide hL
    have KC := hide (tclone_any g (runS os).1 (runS os).2 fs hr9 w3 hL.tr)
    have FL := hide (hL.tr.lt)
    clear hL KG P2
    go_wp2_with fail
    refine KC.out.mono ?_
    rintro e w4 ⟨gc, fc, rfl, hTc, hfc, hb⟩
    have L4 := L3.out.below hb
    have T4 := hide (show Two w2 w4 g gc (runS os) (runS os) fs fc from ⟨L4, ⟨hTc, fun k hk => Nat.le_trans L3.out.bel.size (hfc k hk), L4.bel⟩, fun k hk hk' => by
      have := FL.out k hk
      have := hfc k hk'
      omega⟩)
    clear hTc hfc hb L4 L3 FL KC
    have KAl := hide (tall_any g (runS os).1 (runS os).2 fs (by omega) w4 T4.out.a.tr)
    go_wp2_with fail
    refine KAl.out.mono ?_
    rintro e w5 ⟨v5, rfl, hk5, hb⟩
    have T5' := hide (T4.out.below hb)
    have V5 := hide hk5
    have NV := hide (show ∀ b, v5.ownBlock = some b → b ∉ fs ∧ b ∉ fc from fun b hb' => by
      have h2 := (hk5.lt hb').1
      exact ⟨fun hk => by have := T4.out.a.tr.lt b hk; omega, fun hk => by have := T4.out.b.tr.lt b hk; omega⟩)
    obtain ⟨A5, c5, rfl, _, _, _⟩ := hk5.kids
    have X5 := (T5'.out.a.bel.block _ (Array.getElem?_eq_some_iff.1 X2.out).1).trans X2.out
    have y0 := cell_of_row _ _ 0 _ _ (0, 0) X5
    have y1 := cell_of_row _ _ 1 _ _ (0, 0) X5
    have y2 := cell_of_row _ _ 2 _ _ (0, 0) X5
    have y3 := cell_of_row _ _ 3 _ _ (0, 0) X5
    have y4 := cell_of_row _ _ 4 _ _ (0, 0) X5
    simp at y0 y1 y2 y3 y4
    clear hk5 hb KAl T4 X5 X2
    cases first with
    | false =>
      have TA := hide (T5'.out)
      go_wp2_with fail
      refine (KO.out _).mono ?_
      rintro e w6 ⟨rfl, hb⟩
      have T6 := hide (TA.out.below hb)
      have V6 := hide (V5.out.below hb)
      have KA := hide (tapply_any g (runS os) fs o (by have := right_len (O5.R_t HR.out).2.2; unfold maxLen; omega) hr9 w6 ((HE.out.below B2.out).below T6.out.a.bel) T6.out.a.tr)
      clear hb TA T5' V5 KO y0 y1 y2 y3 y4
      go_wp2_with fail
      refine KA.out.mono ?_
      rintro e w7 hr
      obtain ⟨rfl, fa, hT7, hM7, hF7⟩ := T6.out.retA (s2 := stp (runS os) o) hr
      have T7 := hide hT7
      have V7 := hide (V6.out.mod hM7 (fun b hb => (NV.out b hb).1))
      have KB := hide (tall_any gc (runS os).1 (runS os).2 fc (by omega) w7 hT7.b.tr)
      clear hr hT7 hM7 hF7 KA T6 V6 NV
      go_wp2_with fail
      refine KB.out.mono ?_
      rintro e w8 ⟨v8, rfl, hk8, hb⟩
      have T8 := hide (T7.out.below hb)
      have KS := hide (ksame_any v8 _ _ _ w8 (by rw [sortK_length]; omega) (by rw [sortK_length]; omega) hk8.kids (V7.out.below hb).kids)
      rw [decide_eq_true rfl] at KS
      obtain ⟨A8, c8, rfl, _, _, _⟩ := hk8.kids
      clear hk8 hb KB T7 V7
      go_wp2_with fail
      refine KS.out.mono ?_
      rintro e w9 ⟨rfl, hb⟩
      have T9 := hide (T8.out.below hb)
      have KU := hide (tundo_back g (runS os) o HR.out fa hr9 w9 T9.out.a.tr)
      clear hb KS T8
      go_wp2_with fail
      refine KU.out.mono ?_
      rintro e w10 hr
      obtain ⟨rfl, fa', hT, _, _⟩ := T9.out.retA (s2 := runS os) hr
      have S0 := hide (show ClRel w2 g gc os (.int .i64 0) w10 from ⟨0, fa', fc, Nat.zero_le _, rfl, by rw [Nat.sub_zero, List.take_length]; exact hT⟩)
      clear hr hT KU T9
      go_wp2_with fail
      go_loopw [13] (ClRel w2 g gc os) (fun i _ => os.length - (intOf i).toNat)
      case atStart => exact S0.out
      case round =>
        obtain ⟨k, fx, fy, hk, rfl, hT⟩ := hrel
        have TT := hide hT
        clear hT S0
        by_cases hlt : k < os.length
        · obtain ⟨j, hj⟩ : ∃ j, os.length - k = j + 1 := ⟨os.length - k - 1, by omega⟩
          have hjl : j < os.length := by omega
          have hj2 : os.length - (k + 1) = j := by omega
          have ES := hide (show runS (os.take (os.length - k)) = stp (runS (os.take j)) os[j] by rw [hj, List.take_succ_eq_append_getElem hjl, runS_snoc])
          have hRj := HAR.out _ (List.getElem_mem hjl)
          have hrj : (runS (os.take j)).2.length < 900000 := by
            have := HRL.out j
            simp at this
            omega
          have hLj : (runS (os.take j)).1.length ≤ 1000 := by
            have := (HH.out j).len
            have := HRL.out j
            simp at this
            omega
          have TT2 := hide (show Two w2 wr g gc (stp (runS (os.take j)) os[j]) (stp (runS (os.take j)) os[j]) fx fy by rw [← ES.out]; exact TT.out)
          have HJ2 := hide hj2
          clear TT ES hj hj2
          have K1 := hide (tundo_back g (runS (os.take j)) os[j] hRj fx hrj wr TT2.out.a.tr)
          go_wp2_with fail
          refine K1.out.mono ?_
          rintro e w11 hr
          obtain ⟨rfl, fx', hT, _, _⟩ := TT2.out.retA (s2 := runS (os.take j)) hr
          have T11 := hide hT
          have K2 := hide (tundo_back gc (runS (os.take j)) os[j] hRj fy hrj w11 hT.b.tr)
          clear hr hT K1 TT2
          go_wp2_with fail
          refine K2.out.mono ?_
          rintro e w12 hr
          obtain ⟨rfl, fy', hT, _, _⟩ := T11.out.retB (s2 := runS (os.take j)) hr
          have T12 := hide hT
          have K3 := hide (tall_any g (runS (os.take j)).1 (runS (os.take j)).2 fx' (by omega) w12 hT.a.tr)
          clear hr hT K2 T11
          go_wp2_with fail
          refine K3.out.mono ?_
          rintro e w13 ⟨v13, rfl, hk13, hb⟩
          have T13 := hide (T12.out.below hb)
          have V13 := hide hk13
          have K4 := hide (tall_any gc (runS (os.take j)).1 (runS (os.take j)).2 fy' (by omega) w13 T13.out.b.tr)
          obtain ⟨A13, c13, rfl, _, _, _⟩ := hk13.kids
          clear hk13 hb K3 T12
          go_wp2_with fail
          refine K4.out.mono ?_
          rintro e w14 ⟨v14, rfl, hk14, hb⟩
          have T14 := hide (T13.out.below hb)
          have K5 := hide (ksame_any _ v14 _ _ w14 (by rw [sortK_length]; omega) (by rw [sortK_length]; omega) (V13.out.below hb).kids hk14.kids)
          rw [decide_eq_true rfl] at K5
          obtain ⟨A14, c14, rfl, _, _, _⟩ := hk14.kids
          clear hk14 hb K4 T13 V13
          go_wp2_with fail
          refine K5.out.mono ?_
          rintro e w15 ⟨rfl, hb⟩
          have T15 := hide (T14.out.below hb)
          clear hb K5 T14
          go_wp2_with fail
          go_roundw
          case rel => exact ⟨k + 1, fx', fy', by omega, by go_num, by rw [HJ2.out]; exact T15.out⟩
          case measure => simp [intOf]; omega
        · obtain rfl : k = os.length := by omega
          have TT2 := hide (show Two w2 wr g gc (runS []) (runS []) fx fy by have := TT.out; rwa [Nat.sub_self, List.take_zero] at this)
          clear TT
          go_wp2_with fail
          refine (tundo_start g fx wr TT2.out.a.tr).mono ?_
          rintro e w20 ⟨rfl, hw⟩
          subst hw
          go_wp2_with fail
          refine (tundo_start gc fy w20 TT2.out.b.tr).mono ?_
          rintro e w21 ⟨rfl, hw⟩
          subst hw
          go_wp2
          go_ret
          exact ⟨rfl, B2.out.trans (TT2.out.a.bel.mono B2.out.size)⟩
    | true =>
      have TA := hide (T5'.out.swap)
      go_wp2_with fail
      refine (KO.out _).mono ?_
      rintro e w6 ⟨rfl, hb⟩
      have T6 := hide (TA.out.below hb)
      have V6 := hide (V5.out.below hb)
      have KA := hide (tapply_any gc (runS os) fc o (by have := right_len (O5.R_t HR.out).2.2; unfold maxLen; omega) hr9 w6 ((HE.out.below B2.out).below T6.out.a.bel) T6.out.a.tr)
      clear hb TA T5' V5 KO y0 y1 y2 y3 y4
      go_wp2_with fail
      refine KA.out.mono ?_
      rintro e w7 hr
      obtain ⟨rfl, fa, hT7, hM7, hF7⟩ := T6.out.retA (s2 := stp (runS os) o) hr
      have T7 := hide hT7
      have V7 := hide (V6.out.mod hM7 (fun b hb => (NV.out b hb).2))
      have KB := hide (tall_any g (runS os).1 (runS os).2 fs (by omega) w7 hT7.b.tr)
      clear hr hT7 hM7 hF7 KA T6 V6 NV
      go_wp2_with fail
      refine KB.out.mono ?_
      rintro e w8 ⟨v8, rfl, hk8, hb⟩
      have T8 := hide (T7.out.below hb)
      have KS := hide (ksame_any v8 _ _ _ w8 (by rw [sortK_length]; omega) (by rw [sortK_length]; omega) hk8.kids (V7.out.below hb).kids)
      rw [decide_eq_true rfl] at KS
      obtain ⟨A8, c8, rfl, _, _, _⟩ := hk8.kids
      clear hk8 hb KB T7 V7
      go_wp2_with fail
      refine KS.out.mono ?_
      rintro e w9 ⟨rfl, hb⟩
      have T9 := hide (T8.out.below hb)
      have KU := hide (tundo_back gc (runS os) o HR.out fa hr9 w9 T9.out.a.tr)
      clear hb KS T8
      go_wp2_with fail
      refine KU.out.mono ?_
      rintro e w10 hr
      obtain ⟨rfl, fa', hT, _, _⟩ := T9.out.retA (s2 := runS os) hr
      have S0 := hide (show ClRel w2 gc g os (.int .i64 0) w10 from ⟨0, fa', fs, Nat.zero_le _, rfl, by rw [Nat.sub_zero, List.take_length]; exact hT⟩)
      clear hr hT KU T9
      go_wp2_with fail
      go_loopw [13] (ClRel w2 gc g os) (fun i _ => os.length - (intOf i).toNat)
      case atStart => exact S0.out
      case round =>
        obtain ⟨k, fx, fy, hk, rfl, hT⟩ := hrel
        have TT := hide hT
        clear hT S0
        by_cases hlt : k < os.length
        · obtain ⟨j, hj⟩ : ∃ j, os.length - k = j + 1 := ⟨os.length - k - 1, by omega⟩
          have hjl : j < os.length := by omega
          have hj2 : os.length - (k + 1) = j := by omega
          have ES := hide (show runS (os.take (os.length - k)) = stp (runS (os.take j)) os[j] by rw [hj, List.take_succ_eq_append_getElem hjl, runS_snoc])
          have hRj := HAR.out _ (List.getElem_mem hjl)
          have hrj : (runS (os.take j)).2.length < 900000 := by
            have := HRL.out j
            simp at this
            omega
          have hLj : (runS (os.take j)).1.length ≤ 1000 := by
            have := (HH.out j).len
            have := HRL.out j
            simp at this
            omega
          have TT2 := hide (show Two w2 wr gc g (stp (runS (os.take j)) os[j]) (stp (runS (os.take j)) os[j]) fx fy by rw [← ES.out]; exact TT.out)
          have HJ2 := hide hj2
          clear TT ES hj hj2
          have K1 := hide (tundo_back gc (runS (os.take j)) os[j] hRj fx hrj wr TT2.out.a.tr)
          go_wp2_with fail
          refine K1.out.mono ?_
          rintro e w11 hr
          obtain ⟨rfl, fx', hT, _, _⟩ := TT2.out.retA (s2 := runS (os.take j)) hr
          have T11 := hide hT
          have K2 := hide (tundo_back g (runS (os.take j)) os[j] hRj fy hrj w11 hT.b.tr)
          clear hr hT K1 TT2
          go_wp2_with fail
          refine K2.out.mono ?_
          rintro e w12 hr
          obtain ⟨rfl, fy', hT, _, _⟩ := T11.out.retB (s2 := runS (os.take j)) hr
          have T12 := hide hT
          have K3 := hide (tall_any gc (runS (os.take j)).1 (runS (os.take j)).2 fx' (by omega) w12 hT.a.tr)
          clear hr hT K2 T11
          go_wp2_with fail
          refine K3.out.mono ?_
          rintro e w13 ⟨v13, rfl, hk13, hb⟩
          have T13 := hide (T12.out.below hb)
          have V13 := hide hk13
          have K4 := hide (tall_any g (runS (os.take j)).1 (runS (os.take j)).2 fy' (by omega) w13 T13.out.b.tr)
          obtain ⟨A13, c13, rfl, _, _, _⟩ := hk13.kids
          clear hk13 hb K3 T12
          go_wp2_with fail
          refine K4.out.mono ?_
          rintro e w14 ⟨v14, rfl, hk14, hb⟩
          have T14 := hide (T13.out.below hb)
          have K5 := hide (ksame_any _ v14 _ _ w14 (by rw [sortK_length]; omega) (by rw [sortK_length]; omega) (V13.out.below hb).kids hk14.kids)
          rw [decide_eq_true rfl] at K5
          obtain ⟨A14, c14, rfl, _, _, _⟩ := hk14.kids
          clear hk14 hb K4 T13 V13
          go_wp2_with fail
          refine K5.out.mono ?_
          rintro e w15 ⟨rfl, hb⟩
          have T15 := hide (T14.out.below hb)
          clear hb K5 T14
          go_wp2_with fail
          go_roundw
          case rel => exact ⟨k + 1, fx', fy', by omega, by go_num, by rw [HJ2.out]; exact T15.out⟩
          case measure => simp [intOf]; omega
        · obtain rfl : k = os.length := by omega
          have TT2 := hide (show Two w2 wr gc g (runS []) (runS []) fx fy by have := TT.out; rwa [Nat.sub_self, List.take_zero] at this)
          clear TT
          go_wp2_with fail
          refine (tundo_start gc fx wr TT2.out.a.tr).mono ?_
          rintro e w20 ⟨rfl, hw⟩
          subst hw
          go_wp2_with fail
          refine (tundo_start g fy w20 TT2.out.b.tr).mono ?_
          rintro e w21 ⟨rfl, hw⟩
          subst hw
          go_wp2
          go_ret
          exact ⟨rfl, B2.out.trans (TT2.out.a.bel.mono B2.out.size)⟩
  · have d1 : decide ((ts.length : Int) > 30) = true := by simp; omega
    go_wp2
    go_ret
    exact ⟨rfl, B1.out⟩
end Go.Proofs.YtlcmkikjgelfaaaDoor
