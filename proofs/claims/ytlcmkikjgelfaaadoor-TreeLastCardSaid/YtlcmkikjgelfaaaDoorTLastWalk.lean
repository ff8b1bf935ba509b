/-
  The walk of TreeLast. Conditions: those of the statement.
-/
import Derived.Test.YtlcmkikjgelfaaaDoorTLaw
namespace Go.Proofs.YtlcmkikjgelfaaaDoor
open Go.RowKit Go.Maps
set_option linter.unusedVariables false
set_option linter.unusedSimpArgs false
set_option maxRecDepth 100000

/-- What all statements over small operations begin with: a tree of them. -/
theorem small_tree {w : World} {A : Option Addr} {c : Nat} {ts : List T5} (hn : ts.length ≤ 30) : (ts.map ofT).length ≤ 1000 := by simp; omega
def lastO (t : T5) : O5 := { ofT t with t := 0 }
theorem lastO_R (t : T5) : (lastO t).R = true := by
  have h := ofT_R t
  obtain ⟨h1, h2, _, h4⟩ := opR_t h
  show opR _ _ _ _ _ = true
  unfold opR
  have h3 : toB 0 = true := by decide
  have h1' : stR (lastO t).n (lastO t).r = true := h1
  have h2' : ndB (lastO t).d = true := h2
  have h4' : right (lastO t).l = true := h4
  rw [h1', h2', h4']
  exact h3
/-- What is told to be below the root is put there. -/
theorem can_root {L : List Kd} (h : Wf L) {o : O5} (hr : o.R = true) (ht : o.t = 0) : can L o = true := by
  have hd := (O5.R_t hr).1
  unfold can
  rw [ht]
  have e1 : isKn L 0 = true := rfl
  have e2 : abv L o.d 0 = false := by
    cases e : abv L o.d 0 with
    | false => rfl
    | true =>
      obtain ⟨_, hx⟩ := (h.abv _ _).1 e
      exfalso
      generalize hz : (0 : Int) = z at hx
      cases hx with
      | self => omega
      | up hf _ =>
        subst hz
        rw [fnd_top h.lo (by omega)] at hf
        cases hf
  rw [e1, e2]
  rfl
theorem last_above {L : List Kd} (h : Wf L) {o : O5} (hr : o.R = true) (ht : o.t = 0) : abv (app L o) 0 o.d = true ∧ abv (app L o) 1 o.d = false := by
  have hc := can_root h hr ht
  have hW := h.app hr
  have ha : app L o = putS L o.d (some o.kd) := by unfold app; rw [hc]; simp
  have hf : fnd (app L o) o.d = some o.kd := by rw [ha, fnd_moved, if_pos rfl]
  have hk : isKn (app L o) o.d = true := by unfold isKn; rw [hf]; simp
  refine ⟨(hW.abv _ _).2 ⟨hk, .up hf (by show Anc _ 0 o.t; rw [ht]; exact .self)⟩, ?_⟩
  cases e : abv (app L o) 1 o.d with
  | false => rfl
  | true =>
    obtain ⟨_, hx⟩ := (hW.abv _ _).1 e
    exfalso
    generalize hz : o.d = z at hx
    have hd := (O5.R_t hr).1
    cases hx with
    | self => omega
    | up hf' hx' =>
      subst hz
      rw [hf] at hf'
      cases hf'
      have hx2 : Anc (app L o) 1 0 := by
        have : o.kd.to = 0 := ht
        rw [← this]
        exact hx'
      generalize hz : (0 : Int) = z at hx2
      cases hx2 with
      | self => omega
      | up hf3 _ =>
        subst hz
        rw [fnd_top hW.lo (by omega)] at hf3
        cases hf3
theorem countP_one {L : List Kd} (h : L.Nodup) {k : Kd} (hk : k ∈ L) : L.countP (fun x => decide (x = k)) = 1 := by
  induction L with
  | nil => simp at hk
  | cons x L ih =>
    obtain ⟨h1, h2⟩ := List.nodup_cons.1 h
    rw [List.countP_cons]
    by_cases e : x = k
    · subst e
      rw [List.countP_eq_zero.2 (fun y hy => by simp; rintro rfl; exact h1 hy)]
      simp
    · rcases List.mem_cons.1 hk with rfl | hk'
      · exact absurd rfl e
      · rw [ih h2 hk']
        simp [e]
theorem last_count {L : List Kd} (h : Wf L) {o : O5} (hr : o.R = true) (ht : o.t = 0) : (sortK ((app L o).filter fun k => k.to == 0)).countP (fun x => decide (x = ⟨0, o.l, o.d⟩)) = 1 := by
  have hc := can_root h hr ht
  have hW := h.app hr
  have ha : app L o = putS L o.d (some o.kd) := by unfold app; rw [hc]; simp
  have hkd : o.kd = ⟨0, o.l, o.d⟩ := by unfold O5.kd; rw [ht]
  have hf : fnd (app L o) o.d = some o.kd := by rw [ha, fnd_moved, if_pos rfl]
  have hp := sortK_perm ((app L o).filter fun k => k.to == 0)
  refine countP_one (hp.nodup_iff.2 (List.filter_sublist.nodup (nodup_of_nd hW.one))) (hp.mem_iff.2 (List.mem_filter.2 ⟨?_, rfl⟩))
  rw [← hkd]
  exact (fnd_some hf).1
def LastRel (w : World) (ks : List Kd) (x : Kd) (n i : Value) (wr : World) : Prop :=
  ∃ k : Nat, k ≤ ks.length ∧ i = .int .i64 (k : Int) ∧ n = .int .i64 (((ks.take k).countP fun y => decide (y = x) : Nat) : Int) ∧ Below w.heap.size w wr
theorem countP_le (ks : List Kd) (x : Kd) (k : Nat) : (ks.take k).countP (fun y => decide (y = x)) ≤ k := Nat.le_trans List.countP_le_length (by rw [List.length_take]; omega)
set_option maxHeartbeats 4000000 in
theorem treeLast_walk (a : Option Addr) (len cap : Nat) (ts : List T5) (ta tb tc te tf : Int) (W : World) (h : IsTns W a len cap ts)
    (ha : (Lit.int .u8 ta).wf = true) (hb : (Lit.int .u8 tb).wf = true) (hc : (Lit.int .u8 tc).wf = true) (he : (Lit.int .u8 te).wf = true) (hf : (Lit.int .u8 tf).wf = true) (hE : Env W) :
    Calls Tryd.prog 10 #[.slice a len cap, .agg #[.int .u8 ta, .int .u8 tb, .int .u8 tc, .int .u8 te, .int .u8 tf]] W (TrueRet W) := by
  obtain ⟨rfl, hts, hok⟩ := h
  have ha := bounds_u8 ha
  have hb := bounds_u8 hb
  have hc := bounds_u8 hc
  have he := bounds_u8 he
  have hf := bounds_u8 hf
  obtain ⟨ta, rfl⟩ : ∃ n : Nat, ta = n := ⟨ta.toNat, by omega⟩
  obtain ⟨tb, rfl⟩ : ∃ n : Nat, tb = n := ⟨tb.toNat, by omega⟩
  obtain ⟨tc, rfl⟩ : ∃ n : Nat, tc = n := ⟨tc.toNat, by omega⟩
  obtain ⟨te, rfl⟩ : ∃ n : Nat, te = n := ⟨te.toNat, by omega⟩
  obtain ⟨tf, rfl⟩ : ∃ n : Nat, tf = n := ⟨tf.toNat, by omega⟩
  have KO := hide (fun W => of_any ta tb tc te tf W (by omega) (by omega) (by omega) (by omega) (by omega))
  obtain ⟨t, ht⟩ : ∃ t : T5, t = ⟨ta, tb, tc, te, tf⟩ := ⟨_, rfl⟩
  have hx : ofT t = ⟨1 + (ta : Int) % 40, (tb : Int) % 4, 256 + (tc : Int) % 8, toOf te, [b8 (97 + tf % 8)]⟩ := by rw [ht]; rfl
  have EX := hide hx
  clear ht hx ha hb hc he hf
  have Bz := (Below.refl W.heap.size W).alloc (Nat.le_refl _) (.cells #[.int .u8 (ta : Int), .int .u8 (tb : Int), .int .u8 (tc : Int), .int .u8 (te : Int), .int .u8 (tf : Int)] 59)
  have bx := heap_alloc_new W (.cells #[.int .u8 (ta : Int), .int .u8 (tb : Int), .int .u8 (tc : Int), .int .u8 (te : Int), .int .u8 (tf : Int)] 59)
  have HBX := hide bx
  have B0 := hide Bz
  have HT := hide hts
  have HK := hide hok
  have HE := hide hE
  have lx : W.heap.size < (W.alloc (.cells #[.int .u8 (ta : Int), .int .u8 (tb : Int), .int .u8 (tc : Int), .int .u8 (te : Int), .int .u8 (tf : Int)] 59)).heap.size := by simp
  clear Bz bx hts hok hE
  go_enter Tryd.func10, Tryd.ntmps10
  go_wp2_with fail
  refine (awake_any _ (HE.out.below B0.out)).mono ?_
  rintro e w1 ⟨rfl, hb⟩
  have B1 := hide (B0.out.trans (hb.mono (by simp)))
  have X1 := hide ((hb.block _ lx).trans HBX.out)
  clear hb B0 HBX lx
  by_cases h1 : ts.length ≤ 30
  · have d1 : decide ((ts.length : Int) > 30) = false := by simp; omega
    go_wp2_with fail
    clear d1
    refine (all_any a cap ts w1 (by omega) HK.out (HT.out.below B1.out)).mono ?_
    rintro e w2 ⟨v2, rfl, hown, hb⟩
    have B2 := hide (B1.out.trans (hb.mono B1.out.size))
    have X2 := hide ((hb.block _ (Array.getElem?_eq_some_iff.1 X1.out).1).trans X1.out)
    obtain ⟨A2, c2, rfl, p2⟩ := hown.ops
    have P2 := hide p2
    have KG := hide (grown_any A2 c2 (ts.map ofT) w2 (by simp; omega) (ofT_name ts) (HE.out.below B2.out) p2)
    have hrl := runS_len (ts.map ofT)
    have HH := hide (runS_hst (ts.map ofT))
    have hml : (ts.map ofT).length ≤ 30 := by simpa using h1
    generalize ts.map ofT = os at KG P2 hrl HH hml
    have hrl' : (runS os).2.length ≤ 30 := by omega
    clear hown hb p2 B1 X1 hrl
    go_wp2_with fail
    refine KG.out.mono ?_
    rintro e w3 ⟨g, fs, rfl, hL⟩
    have L3 := hide hL
    have X3 := (hL.bel.block _ (Array.getElem?_eq_some_iff.1 X2.out).1).trans X2.out
    have y0 := cell_of_row _ _ 0 _ _ (0, 0) X3
    have y1 := cell_of_row _ _ 1 _ _ (0, 0) X3
    have y2 := cell_of_row _ _ 2 _ _ (0, 0) X3
    have y3 := cell_of_row _ _ 3 _ _ (0, 0) X3
    have y4 := cell_of_row _ _ 4 _ _ (0, 0) X3
    simp at y0 y1 y2 y3 y4
    generalize runS os = s at L3 HH hrl'
    clear hL KG P2 X3 X2
    go_wp2_with fail
    refine (KO.out _).mono ?_
    rintro e w4 ⟨rfl, hb⟩
    have L4 := hide (L3.out.below hb)
    clear hb KO L3 y0 y1 y2 y3 y4
    obtain ⟨o, ho⟩ : ∃ o : O5, o = lastO t := ⟨_, rfl⟩
    have hR : o.R = true := by rw [ho]; exact lastO_R t
    have ht0 : o.t = 0 := by rw [ho]; rfl
    have e1 : o.n = 1 + (ta : Int) % 40 := by rw [ho]; show (ofT t).n = _; rw [EX.out]
    have e2 : o.r = (tb : Int) % 4 := by rw [ho]; show (ofT t).r = _; rw [EX.out]
    have e3 : o.d = 256 + (tc : Int) % 8 := by rw [ho]; show (ofT t).d = _; rw [EX.out]
    have e4 : o.l = [b8 (97 + tf % 8)] := by rw [ho]; show (ofT t).l = _; rw [EX.out]
    have hdd := (O5.R_t hR).1
    unfold opv
    rw [← e1, ← e2, ← e3, ← e4]
    generalize toOf te = tt
    have HR := hide hR
    have HT0 := hide ht0
    clear ho hR ht0 e1 e2 e3 e4 EX
    have Bz := (Below.refl w4.heap.size w4).alloc (Nat.le_refl _) (.cells #[.int .i64 o.n, .int .i64 o.r, .int .i64 o.d, .int .i64 0, .string (bs o.l)] 37)
    have bx := heap_alloc_new w4 (.cells #[.int .i64 o.n, .int .i64 o.r, .int .i64 o.d, .int .i64 0, .string (bs o.l)] 37)
    have L5 := hide (L4.out.below Bz)
    have HX := hide bx
    have NF := hide (show w4.heap.size ∉ fs from fun hk => by have := L4.out.tr.lt _ hk; omega)
    have lx : w4.heap.size < (w4.alloc (.cells #[.int .i64 o.n, .int .i64 o.r, .int .i64 o.d, .int .i64 0, .string (bs o.l)] 37)).heap.size := by simp
    clear Bz bx L4
    have KA := hide (tapply_any g s fs o (by have := right_len (O5.R_t HR.out).2.2; unfold maxLen; omega) (by omega) _ ((HE.out.below B2.out).below L5.out.bel) L5.out.tr)
    have eA : apB s o = true := by unfold apB; rw [HR.out, can_root HH.out.wf HR.out HT0.out]; rfl
    have eS : stp s o = (app s.1 o, s.1 :: s.2) := by unfold stp; rw [HR.out]; simp
    rw [eA, eS, HT0.out] at KA
    have HW := hide (HH.out.wf)
    have C1 := hide (last_above HH.out.wf HR.out HT0.out)
    have C2 := hide (last_count HH.out.wf HR.out HT0.out)
    have hLn := (Hst.app o HH.out HR.out).len
    simp at hLn
    clear eA eS
    go_upto_region 9 with (fail)
    generalize w4.alloc (.cells #[.int .i64 o.n, .int .i64 o.r, .int .i64 o.d, .int .i64 0, .string (bs o.l)] 37) = w5 at L5 HX lx KA ⊢
    have z0 := cell_of_row _ _ 0 _ _ (0, 0) HX.out
    have z1 := cell_of_row _ _ 1 _ _ (0, 0) HX.out
    have z2 := cell_of_row _ _ 2 _ _ (0, 0) HX.out
    have z3 := cell_of_row _ _ 3 _ _ (0, 0) HX.out
    have z4 := cell_of_row _ _ 4 _ _ (0, 0) HX.out
    simp at z0 z1 z2 z3 z4
    go_wp2_with fail
    refine KA.out.mono ?_
    rintro e w6 hr
    obtain ⟨rfl, fs6, hL6, hM6, _⟩ := L5.out.ret (s' := (app s.1 o, s.1 :: s.2)) hr
    have X6 := (hM6.block _ lx NF.out).trans HX.out
    have L6 := hide hL6
    have KK := hide (tkids_any g (app s.1 o) (s.1 :: s.2) fs6 0 (by omega) w6 hL6.tr)
    have HX6 := hide X6
    have lx6 : w4.heap.size < w6.heap.size := (Array.getElem?_eq_some_iff.1 X6).1
    clear hr hL6 hM6 X6 KA L5 HX NF lx z0 z1 z2 z3 z4
    go_wp2_with fail
    refine KK.out.mono ?_
    rintro e w7 ⟨v7, rfl, hk7, hb7⟩
    have L7 := hide (L6.out.below hb7)
    have X7 := (hb7.block _ lx6).trans HX6.out
    have q1 := cell_of_row _ _ 2 _ _ (0, 0) X7
    have q2 := cell_of_row _ _ 4 _ _ (0, 0) X7
    simp at q1 q2
    have HX7 := hide X7
    have lx7 : w4.heap.size < w7.heap.size := (Array.getElem?_eq_some_iff.1 X7).1
    have hks : (sortK ((app s.1 o).filter fun k => k.to == 0)).length ≤ 1000 := by
      rw [sortK_length]
      have := List.length_filter_le (fun k : Kd => k.to == 0) (app s.1 o)
      omega
    generalize sortK ((app s.1 o).filter fun k => k.to == 0) = ks at hk7 C2 hks
    obtain ⟨A7, c7, rfl, g1, g2, g3⟩ := hk7.kids
    have G3 := hide g3
    unfold maxLen at g2
    clear hk7 hb7 KK L6 HX6 lx6 X7 g3
    go_wp2_with fail
    go_loopw [10, 11] (LastRel w7 ks ⟨0, o.l, o.d⟩) (fun _ i _ => ks.length - (intOf i).toNat)
    case atStart => exact ⟨0, Nat.zero_le _, rfl, rfl, Below.refl _ _⟩
    case round =>
      obtain ⟨k, hk, rfl, rfl, hb⟩ := hrel
      have BB := hide hb
      have hcl := countP_le ks ⟨0, o.l, o.d⟩ k
      by_cases hlt : k < ks.length
      · obtain ⟨b, oo, rfl, hat⟩ := G3.out (by omega)
        obtain ⟨r0, r1, r2⟩ := (hat.below hb).three k hlt
        have p1 := (hb.cell (p := ⟨w4.heap.size, 2, none⟩) lx7).trans q1
        have p2 := (hb.cell (p := ⟨w4.heap.size, 4, none⟩) lx7).trans q2
        have CS := hide (show (ks.take (k + 1)).countP (fun y => decide (y = ⟨0, o.l, o.d⟩)) = (ks.take k).countP (fun y => decide (y = ⟨0, o.l, o.d⟩)) + (if ks[k] = ⟨0, o.l, o.d⟩ then 1 else 0) by
          rw [List.take_succ_eq_append_getElem hlt, List.countP_append, List.countP_singleton]
          simp)
        generalize (ks.take k).countP (fun y => decide (y = (⟨0, o.l, o.d⟩ : Kd))) = m at CS hcl ⊢
        generalize ks[k] = x at r0 r1 r2 CS
        have hq := kid_eql x ⟨0, o.l, o.d⟩
        simp only at hq
        have i1 : (k : Int) < (ks.length : Int) := by omega
        have i0 : (0 : Int) ≤ (k : Int) := by omega
        clear hat hb
        by_cases hxe : x = ⟨0, o.l, o.d⟩
        · rw [decide_eq_true hxe] at hq
          have CE := hide (show (ks.take (k + 1)).countP (fun y => decide (y = (⟨0, o.l, o.d⟩ : Kd))) = m + 1 by rw [CS.out, if_pos hxe])
          clear CS hxe
          go_wp2_with fail
          go_quiet (fail)
          go_wp2
          go_roundw
          case rel => exact ⟨k + 1, by omega, by go_num, by rw [CE.out]; go_num, belowD' BB.out _⟩
          case measure => simp [intOf]; omega
        · rw [decide_eq_false hxe] at hq
          have CE := hide (show (ks.take (k + 1)).countP (fun y => decide (y = (⟨0, o.l, o.d⟩ : Kd))) = m by rw [CS.out, if_neg hxe]; rfl)
          clear CS hxe
          go_wp2_with fail
          go_quiet (fail)
          go_wp2
          go_roundw
          case rel => exact ⟨k + 1, by omega, by go_num, by rw [CE.out], belowD' BB.out _⟩
          case measure => simp [intOf]; omega
      · obtain rfl : k = ks.length := by omega
        rw [List.take_length, C2.out]
        have p1 := (hb.cell (p := ⟨w4.heap.size, 2, none⟩) lx7).trans q1
        have L8 := hide (L7.out.below hb)
        have hdd' : i64B o.d := by unfold i64B; omega
        have K0 := hide (tabove_any g (app s.1 o) (s.1 :: s.2) fs6 0 o.d (by unfold i64B; omega) hdd' wr L8.out.tr)
        rw [C1.out.1] at K0
        have X8 := (hb.block _ lx7).trans HX7.out
        have HX8 := hide X8
        have lx8 : w4.heap.size < wr.heap.size := (Array.getElem?_eq_some_iff.1 X8).1
        clear hb X8
        go_wp2_with fail
        refine K0.out.mono ?_
        rintro e w9 ⟨rfl, hb9⟩
        have L9 := hide (L8.out.below hb9)
        have K1 := hide (tabove_any g (app s.1 o) (s.1 :: s.2) fs6 1 o.d (by unfold i64B; omega) hdd' w9 L9.out.tr)
        rw [C1.out.2] at K1
        have p9 := cell_of_row _ _ 2 _ _ (0, 0) ((hb9.block _ lx8).trans HX8.out)
        simp at p9
        clear hb9 K0 L8 p1
        go_wp2_with fail
        refine K1.out.mono ?_
        rintro e w10 ⟨rfl, hb10⟩
        have LA := hide (L9.out.below hb10)
        clear hb10 K1 L9
        go_wp2
        go_ret
        exact ⟨rfl, B2.out.trans (LA.out.bel.mono B2.out.size)⟩
  · have d1 : decide ((ts.length : Int) > 30) = true := by simp; omega
    go_wp2
    go_ret
    exact ⟨rfl, B1.out⟩
end Go.Proofs.YtlcmkikjgelfaaaDoor
