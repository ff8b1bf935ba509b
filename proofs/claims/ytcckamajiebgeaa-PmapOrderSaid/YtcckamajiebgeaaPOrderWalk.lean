/-
  PmapOrder returns true, if the program keeps the contracts. Condition: these.
-/
import Derived.Test.YtcckamajiebgeaaPOrdPure
import Derived.Test.YtcckamajiebgeaaPHighWalk
namespace Go.Proofs.Ytcckamajiebgeaa
open Go.RowKit
set_option linter.unusedVariables false
set_option linter.unusedSimpArgs false
set_option maxRecDepth 100000

theorem step_append_b (w : World) {ops : Array Oper} {o : Oper} {a : Act} {K : Act → World → Prop} {Q : Exit → Act → World → Prop} {E : Prop} (hgd : o.guard = none) (s x : Operand)
    (ho : o.op = .call { callee := .builtin .append, args := #[s, x], argTypes := #[48, 48] })
    (base : Nat) (v : Value) (n : Nat) (os : List UInt8) (hs : a.eval s = v) (hown : w.ownsRow base 5 1 v n (bc os)) (b of m c : Nat) (l : List UInt8) (hx : a.eval x = .slice (some ⟨b, of, none⟩) m c) (hm : l.length = m) (hO : ∀ j (h : j < l.length), w.cell? ⟨b, of + j, none⟩ = some (.int .u8 l[j].toNat)) (h63 : n + m ≤ 1000000) (hbase : base ≤ w.heap.size)
    (h : ∀ A' c' w', w'.ownsRow base 5 1 (.slice A' (n + m) c') (n + m) (bc (os ++ l)) → w.grownBy w' v.ownBlock → K (a.put o.dst (.slice A' (n + m) c')) w') :
    if Region.wanted o (yielded ops a.tmps) = true then Oper.wp Try.prog o a w K Q else E := by
  have hw : Region.wanted o (yielded ops a.tmps) = true := by simp [Region.wanted, hgd]
  rw [if_pos hw]
  obtain ⟨i0, hi0, hz0, hz1, hz2⟩ := info_parts u8info
  have hnews : ∀ j u, (bc l)[j]? = some u → w.cell? ((⟨b, of, none⟩ : Addr).add j) = some u := fun j u hu => by
    have hj : j < l.length := by
      have := (List.getElem?_eq_some_iff.1 hu).1
      simpa [bc] using this
    rw [Addr.add_lit, hO j hj]
    simpa [bc, hj] using hu
  have hm2 : maxLen = 9223372036854775807 := rfl
  obtain ⟨v', w', hr, h2, h3, _, h5⟩ := run_append_own_at (P := Try.prog) w base 48 o.type 5 i0 (.int .u8 0) 1 1 Try.underlying48 hi0 hz0 hz1 hz2 rfl (by decide) v n (bc os) hown ⟨b, of, none⟩ m c (bc l) (by rw [bc_length, hm, Nat.mul_one]) hnews (bc_one _) (by omega) (by omega) hbase
  obtain ⟨A', c', rfl⟩ := row_form h2
  unfold Oper.wp execOp
  simp only [ho, resolve, invoke, builtin, Sem.run_bind, Sem.run_pure, Result.andThen_ok, List.map_toArray, List.map_cons, List.map_nil, hs, hx, hr]
  exact h A' c' w' (by rw [bc_append]; exact h2) h3
/-- What the law has behind so many keys put, in both orders. -/
structure Os2 (P : MapPred) (W w : World) (gm i k9 k10 : Nat) (Ar' : Option Addr) (cr : Nat) (l r : List UInt8) (T S : Tr) (A : Ar) (U : Nat) : Prop where
  pm : P W w gm 4000 U A
  uu : U ≤ 2000 * i
  st : Stands A T
  ss : Stands A S
  pt : T.prs = mkO l i
  ps : S.prs = mkO r i
  live : A.live ≤ 56 * i
  h9 : Hb w k9 T.root.1 T.root.2
  h10 : Hb w k10 S.root.1 S.root.2
  ub : Ub W w Ar' cr r
  b9 : W.heap.size ≤ k9
  b10 : W.heap.size ≤ k10
  ne : k9 ≠ k10
def OsRel (P : MapPred) (W : World) (gm n k9 k10 : Nat) (Ar' : Option Addr) (cr : Nat) (l r : List UInt8) (vi : Value) (w : World) : Prop := ∃ i T S A U, i ≤ n ∧ vi = .int .i64 (i : Int) ∧ Os2 P W w gm i k9 k10 Ar' cr l r T S A U
/-- Both roots are written. -/
theorem Os2.next {P : MapPred} (H : MapOk P) {W w w' : World} {gm i k9 k10 : Nat} {Ar' : Option Addr} {cr : Nat} {l r : List UInt8} {T S : Tr} {A : Ar} {U : Nat} (h : Os2 P W w gm i k9 k10 Ar' cr l r T S A U) (hk : Kp w w') {T' S' : Tr} {A' : Ar} {U' : Nat} (hp : P W w' gm 4000 U' A') (hu : U' ≤ U + 2000) (hst : Stands A' T') (hss : Stands A' S') (hpt : T'.prs = mkO l (i + 1)) (hps : S'.prs = mkO r (i + 1)) (hl : A'.live ≤ A.live + 56) :
    Os2 P W ((((w'.setCell ⟨k9, 0, none⟩ (.int .i64 T'.root.1)).setCell ⟨k9, 1, none⟩ (.int .i64 T'.root.2)).setCell ⟨k10, 0, none⟩ (.int .i64 S'.root.1)).setCell ⟨k10, 1, none⟩ (.int .i64 S'.root.2)) gm (i + 1) k9 k10 Ar' cr l r T' S' A' U' := by
  have h9 := h.h9.kp hk
  have h10 := h.h10.kp hk
  have hp1 := mo_setH H hp h9 h.b9 (.int .i64 T'.root.1) (.int .i64 T'.root.2)
  have h10' := h10.setO h.ne.symm (.int .i64 T'.root.1) (.int .i64 T'.root.2)
  have hub := (h.ub.kp (H.bel h.pm) (H.bel hp) hk).setH h9 h.b9 (.int .i64 T'.root.1) (.int .i64 T'.root.2)
  refine ⟨mo_setH H hp1 h10' h.b10 _ _, by have := h.uu; omega, hst, hss, hpt, hps, by have := h.live; omega, h9.set.setO h.ne _ _, h10'.set, hub.setH h10' h.b10 _ _, h.b9, h.b10, h.ne⟩
/-- While all keys are taken again. -/
structure Od (P : MapPred) (W w : World) (gm j k9 : Nat) (vx : Value) (M : List Pp) (T : Tr) (A : Ar) (U : Nat) : Prop where
  pm : P W w gm 4000 U A
  uu : U ≤ 60000 + 1000 * j
  st : Stands A T
  pt : T.prs = M.drop j
  live : A.live ≤ 1680 + 28 * j
  h9 : Hb w k9 T.root.1 T.root.2
  own : OwnP w W.heap.size vx M
  b9 : W.heap.size ≤ k9
def OdRel (P : MapPred) (W : World) (gm k9 : Nat) (vx : Value) (M : List Pp) (vj : Value) (w : World) : Prop := ∃ j T A U, j ≤ M.length ∧ vj = .int .i64 (j : Int) ∧ Od P W w gm j k9 vx M T A U
theorem Od.next {P : MapPred} (H : MapOk P) {W w w' : World} {gm j k9 : Nat} {vx : Value} {M : List Pp} {T : Tr} {A : Ar} {U : Nat} (h : Od P W w gm j k9 vx M T A U) (hk : Kp w w') {T' : Tr} {A' : Ar} {U' n : Nat} (hp : P W w' gm 4000 U' A') (hu : U' ≤ U + 1000) (hst : Stands A' T') (hpt : T'.prs = M.drop (j + 1)) (hl : A'.live = A.live + n) (hn : n ≤ 28) :
    Od P W ((w'.setCell ⟨k9, 0, none⟩ (.int .i64 T'.root.1)).setCell ⟨k9, 1, none⟩ (.int .i64 T'.root.2)) gm (j + 1) k9 vx M T' A' U' :=
  have h9 := h.h9.kp hk
  ⟨mo_setH H hp h9 h.b9 _ _, by have := h.uu; omega, hst, hpt, by have := h.live; omega, h9.set, (h.own.kp hk).setH h9 _ _, h.b9⟩
set_option maxHeartbeats 8000000 in
theorem pmapOrder_walk {P : MapPred} (H : MapOk P) (p : Option Addr) (len cap : Nat) (zs : List Int) (y : Int) (W : World) (h : IsRow .u8 W p len cap zs) (hy : (Lit.int .u8 y).wf = true) :
    Calls Try.prog 8 #[.slice p len cap, .int .u8 y] W (TrueRet W) := by
  have by' := bounds_u8 hy
  obtain ⟨y, rfl⟩ : ∃ k : Nat, y = k := ⟨y.toNat, by omega⟩
  have hb := ByteArg.of_row h
  generalize rowBytes zs len = l at hb
  obtain rfl := hb.leq
  have HB := hide hb
  have c1 := hb.ceq
  have c2 := hb.most
  unfold maxLen at c2
  clear h hy hb
  go_enter Try.func8, Try.ntmps8
  go_wp2_with fail
  refine (awake_any H W).mono ?_
  rintro e w1 ⟨rfl, hb1⟩
  have B1 := hide hb1
  clear hb1
  by_cases hl : l.length ≤ 30
  case neg =>
    have d0 : decide ((l.length : Int) > 30) = true := decide_eq_true (by omega)
    go_wp2_with fail
    go_ret
    exact ⟨rfl, B1.out⟩
  have d0 : decide ((l.length : Int) > 30) = false := decide_eq_false (by omega)
  by_cases hl0 : l.length = 0
  · have d1 : ((l.length : Int) == 0) = true := by simp [hl0]
    go_wp2_with fail
    go_ret
    exact ⟨rfl, B1.out⟩
  have d1 : ((l.length : Int) == 0) = false := by simpa using hl0
  have KN := hide (H.new W w1 4000 (by omega) B1.out)
  unfold cmpV at KN
  go_wp2_with fail
  refine KN.out.mono ?_
  rintro e w2 ⟨gm, rfl, hp, hb⟩
  have HP := hide hp
  clear hp hb KN d0
  obtain ⟨k, hk⟩ : ∃ k, y % l.length = k := ⟨_, rfl⟩
  have hkl : k < l.length := by rw [← hk]; exact Nat.mod_lt _ (by omega)
  have j2 : (y : Int) % (l.length : Int) = (k : Int) := by rw [← hk]; omega
  obtain ⟨b, o, rfl, hat⟩ := HB.out.lit (by omega)
  have HLA := hide hat
  have HAT := hide (fun (V : World) (hV : Below W.heap.size W V) (j : Nat) (hj : j < l.length) => cell_b hV (hat j hj))
  have BW := H.bel HP.out
  have hsz := BW.size
  have Bd := ((Below.refl w2.heap.size w2).alloc (Nat.le_refl _) (.cells #[] 5)).drew
  have OE := hide (own_below (own_new0 w2 w2.heap.size (Nat.le_refl _)) (Below.refl (w2.alloc (.cells #[] 5)).heap.size (w2.alloc (.cells #[] 5))).drew)
  have BD := hide Bd
  have HWD := hide (BW.trans (Bd.mono hsz))
  have i0 : (0 : Int) ≤ (k : Int) := by omega
  have i1 : (k : Int) ≤ (l.length : Int) := by omega
  have i2 : (l.length : Int) ≤ (cap : Int) := by omega
  have i3 : (k : Int) ≤ (cap : Int) := by omega
  have hck : ¬ cap = k := by omega
  clear hk hat Bd B1
  go_upto_region 8 with (fail)
  rw [j2]
  have hdl : (l.drop k).length = l.length - k := by simp
  have htl : (l.take k).length = k := by simp; omega
  have K1 := hide (fun j (h : j < (l.drop k).length) => show (w2.alloc (.cells #[] 5)).drew.cell? ⟨b, o + k + j, none⟩ = some (.int .u8 (l.drop k)[j].toNat) by
    rw [List.getElem_drop, Nat.add_assoc]
    exact HAT.out _ HWD.out (k + j) (by omega))
  have K2 := hide (fun (V : World) (hV : Below w2.heap.size w2 V) (j : Nat) (h : j < (l.take k).length) => show V.cell? ⟨b, o + j, none⟩ = some (.int .u8 (l.take k)[j].toNat) by
    rw [List.getElem_take]
    exact HAT.out _ ((H.bel HP.out).trans (hV.mono (H.bel HP.out).size)) j (by omega))
  go_region_held3 (fun _ => True)
    (first | exact trivial | go_keep)
    (first
      | (refine step_append_b _ (by rfl) _ _ (by rfl) w2.heap.size (.slice (some ⟨w2.heap.size, 0, none⟩) 0 0) 0 [] (by rfl) OE.out b (o + k) (l.length - k) (cap - k) (l.drop k) (by first | rfl | (simp [Act.eval]; omega) | simp [Act.eval, hck]) hdl K1.out (by omega) BD.out.size ?_
         intro A1 n1 wa hwa hga
         rw [Nat.zero_add, List.nil_append] at hwa
         rw [Nat.zero_add]
         have HWA := hide hwa
         have BA := hide (BD.out.grown hga BD.out.size (fun k hk => by simp [Value.ownBlock] at hk; omega)))
      | (refine step_append_b _ (by rfl) _ _ (by rfl) w2.heap.size (.slice A1 (l.length - k) n1) (l.length - k) (l.drop k) (by rfl) HWA.out b o k cap (l.take k) (by first | rfl | simp [Act.eval]) htl (K2.out wa BA.out) (by omega) BA.out.size ?_
         intro A2 n2 wb hwb hgb))
  have hrl : (l.drop k ++ l.take k).length = l.length := by simp; omega
  have hlk : l.length - k + k = l.length := by omega
  rw [hlk] at hwb ⊢
  have HRT := hide (mkO_turn l k)
  generalize l.drop k ++ l.take k = r at hwb hrl HRT
  rw [← hrl] at hwb
  have hub := (Ub.of_own (W := W) (A := A2) (c := n2) hwb).2
  have HB9 := hide ((BA.out).grown hgb BA.out.size (fun q hq => (World.ownsRow.lt hwa q hq).1))
  have HP2 := H.below HP.out HB9.out
  have HF := hide (show Os2 P W ((wb.alloc (.cells #[.int .i64 0, .int .i64 0] 28)).alloc (.cells #[.int .i64 0, .int .i64 0] 28)) gm 0 wb.heap.size (wb.heap.size + 1) A2 n2 l r .nil .nil ⟨[], []⟩ 0 from by
    have D1 := (Below.refl wb.heap.size wb).alloc (Nat.le_refl _) (.cells #[.int .i64 0, .int .i64 0] 28)
    have D2 := (Below.refl _ _).alloc (Nat.le_refl _) (w := wb.alloc (.cells #[.int .i64 0, .int .i64 0] 28)) (.cells #[.int .i64 0, .int .i64 0] 28)
    have hs1 : (wb.alloc (.cells #[.int .i64 0, .int .i64 0] 28)).heap.size = wb.heap.size + 1 := by simp
    have hsb := (H.bel HP2).size
    exact ⟨H.below (H.below HP2 D1) D2, by omega, Stands.nil _, Stands.nil _, rfl, rfl, by simp [Ar.live], (Hb.new wb 0 0).below D2, by rw [← hs1]; exact Hb.new _ 0 0, (hub.below D1).below D2, hsb, by omega, by omega⟩)
  clear hwb hub HP2 HB9 hwa hga hgb HWA BA OE BD HWD K1 K2 hdl htl hlk hsz BW HLA j2 i0 i1 i2 i3 hkl HB HP d1
  go_upto_region 11 with (fail)
  generalize (wb.alloc _).alloc _ = w3 at HF ⊢
  generalize wb.heap.size + 1 = k10 at HF ⊢
  generalize wb.heap.size = k9 at HF ⊢
  go_wp2_with fail
  go_loopw [11] (OsRel P W gm l.length k9 k10 A2 n2 l r) (fun i _ => l.length - (intOf i).toNat)
  case atStart => exact ⟨0, _, _, _, _, Nat.zero_le _, rfl, HF.out⟩
  case round =>
    clear HF
    obtain ⟨i, T, S, A, U, hi, rfl, F⟩ := hrel
    have HF := hide F
    by_cases hlt : i < l.length
    case pos =>
      have huu := F.uu
      have hlv := F.live
      have hl1 := mkO_length l i
      have hl2 := mkO_length r i
      have hir : i < r.length := by omega
      obtain ⟨br, or', rfl, -, hatr⟩ := F.ub.lit (by omega)
      have i0 : (0 : Int) ≤ (i : Int) := by omega
      have i1 : (i : Int) < (l.length : Int) := by omega
      have hh1 := F.st.bal.high9 (by rw [F.pt]; omega)
      have hh2 := F.ss.bal.high9 (by rw [F.ps]; omega)
      have HM1 := hide (show mkO l (i + 1) = wiP (l[i].toNat : Int) ((l[i].toNat : Int) + 1) (mkO l i) by show wiP ((l.getD i 0).toNat : Int) _ _ = _; simp [hlt])
      have HM2 := hide (show mkO r (i + 1) = wiP (r[i].toNat : Int) ((r[i].toNat : Int) + 1) (mkO r i) by show wiP ((r.getD i 0).toNat : Int) _ _ = _; simp [hir])
      have hk1 := byte_b l[i]
      have hk2 := byte_b r[i]
      have hv1 : i64B ((l[i].toNat : Int) + 1) := by have := l[i].toNat_lt; unfold i64B; omega
      have hv2 : i64B ((r[i].toNat : Int) + 1) := by have := r[i].toNat_lt; unfold i64B; omega
      have KZ := hide (fun (V : World) (hV : Below W.heap.size W V) => HAT.out V hV i hlt)
      have KY := hide (fun (V : World) (hV : Ub W V (some ⟨br, or', none⟩) n2 r) => show V.cell? ⟨br, or' + i, none⟩ = some (.int .u8 r[i].toNat) by
        obtain ⟨b', o', e, -, hat⟩ := hV.lit (by omega)
        cases e
        exact hat i hir)
      clear hatr
      generalize (l[i].toNat : Int) = ka at *
      generalize (r[i].toNat : Int) = kb at *
      have hwa : IntKind.i64.wrap ka = ka := wrap_in _ hk1.1 hk1.2
      have hwb : IntKind.i64.wrap kb = kb := wrap_in _ hk2.1 hk2.2
      have hwc : IntKind.i64.wrap (ka + 1) = ka + 1 := wrap_in _ hv1.1 hv1.2
      have hwd : IntKind.i64.wrap (kb + 1) = kb + 1 := wrap_in _ hv2.1 hv2.2
      have hsb := (H.bel F.pm).size
      obtain ⟨x0, x1⟩ := F.h9.two
      have z0 := KZ.out wr (H.bel F.pm)
      have BD1 := hide ((Below.refl wr.heap.size wr).drew)
      have BD2 := hide (((Below.refl wr.heap.size wr).alloc (Nat.le_refl _) (.cells #[.int .i64 0, .int .i64 0, .slice none 0 0, .slice none 0 0] 34)).drew)
      have KS := hide (fun (V : World) (hk : Kp wr V) (hb : Below W.heap.size W V) => show (V.cell? ⟨k9, 0, none⟩ = some (.int .i64 T.root.1) ∧ V.cell? ⟨k9, 1, none⟩ = some (.int .i64 T.root.2)) ∧ V.cell? ⟨b, o + i, none⟩ = some (.int .u8 ka) from ⟨(HF.out.h9.kp hk).two, KZ.out V hb⟩)
      have KP := hide (fun (V : World) (hV : Below wr.heap.size wr V) => H.put T ka (ka + 1) (H.below HF.out.pm hV) (by omega) HF.out.st (by rw [HF.out.pt]; omega) (by omega) hk1 hv1)
      have KQ := hide (fun (w6 : World) (A1 : Ar) (U1 : Nat) (hp : P W w6 gm 4000 U1 A1) (hu : U1 ≤ U + 1000) (hs : Stands A1 S) (hl : A1.live ≤ A.live + 28) => H.put S kb (kb + 1) hp (by omega) hs (by rw [HF.out.ps]; omega) (by omega) hk2 hv2)
      rw [F.pt] at KP
      rw [F.ps] at KQ
      rw [← HM1.out] at KP
      rw [← HM2.out] at KQ
      clear F huu hl1 hl2 hk1 hk2 hv1 hv2 hlv
      go_upto_region 14 with (fail)
      go_region_held3 (fun w' => (w'.cell? ⟨k9, 0, none⟩ = some (.int .i64 T.root.1) ∧ w'.cell? ⟨k9, 1, none⟩ = some (.int .i64 T.root.2)) ∧ w'.cell? ⟨b, o + i, none⟩ = some (.int .u8 ka))
        (first | with_reducible exact hS2 | with_reducible exact hS1 | with_reducible exact ⟨⟨x0, x1⟩, z0⟩ | go_keep)
        (first
          | (with_reducible refine (KP.out _ BD1.out).mono ?_
             rintro e w5 ⟨vm, vg, T1, A1, U1, made, gone, rfl, E⟩
             obtain ⟨am, cm, rfl⟩ := row_form E.om
             obtain ⟨ag, cg, rfl⟩ := row_form E.og
             have hS1 := KS.out _ ((Kp.of_below BD1.out).trans E.kp) (H.bel E.pm)
             have HX := hide (Eds.late H BD1.out E.pm E.kp E.om E.og T1.root)
             have HY := hide (⟨E.uu, E.live, E.few, E.st, E.prs, E.mono⟩ : U1 ≤ U + 1000 ∧ A1.live = A.live + made.length ∧ made.length ≤ 3 * T.high + 1 ∧ Stands A1 T1 ∧ T1.prs = mkO l (i + 1) ∧ ∀ s t x, A.get s t = some x → A1.get s t = some x)
             clear E
             unfold edv)
          | (with_reducible refine (KP.out _ BD2.out).mono ?_
             rintro e w5 ⟨vm, vg, T1, A1, U1, made, gone, rfl, E⟩
             obtain ⟨am, cm, rfl⟩ := row_form E.om
             obtain ⟨ag, cg, rfl⟩ := row_form E.og
             obtain ⟨hZ, c0, c1, c2, c3, g0, g1, g2, g3⟩ := ed_zero (kp_zero E.kp)
             have hS1 := KS.out _ ((Kp.of_below BD2.out).trans E.kp) (H.bel E.pm)
             have hX := Eds.early H hZ hsb BD2.out E.pm E.kp E.om E.og T1.root
             have hS2 := KS.out _ hX.kp (H.bel hX.pm)
             have HX := hide hX
             have HY := hide (⟨E.uu, E.live, E.few, E.st, E.prs, E.mono⟩ : U1 ≤ U + 1000 ∧ A1.live = A.live + made.length ∧ made.length ≤ 3 * T.high + 1 ∧ Stands A1 T1 ∧ T1.prs = mkO l (i + 1) ∧ ∀ s t x, A.get s t = some x → A1.get s t = some x)
             clear E hX hZ
             unfold edv))
      all_goals
        clear hS1
        try clear hS2 c0 c1 c2 c3 g0 g1 g2 g3
        first
          | (generalize (World.alloc w5 _) = w6 at HX ⊢
             generalize w5.heap.size = ke at HX ⊢
             have HXC : Hid (Eds P W wr w6 gm 4000 U1 A1 T1.root am cm ag cg made gone ke) := HX
             clear HXC)
          | (generalize (World.setCell _ _ _) = w6 at HX ⊢
             generalize hke : wr.heap.size = ke at HX ⊢
             have HXC : Hid (Eds P W wr w6 gm 4000 U1 A1 T1.root am cm ag cg made gone ke) := HX
             clear hke HXC)
        go_upto_region 15 with (fail)
        clear x0 x1 z0 BD1 BD2 KS KP
        have hbw6 := (H.bel HX.out.pm).size
        have F10 := hide (HF.out.h10.kp HX.out.kp)
        have FUB := hide (HF.out.ub.kp (H.bel HF.out.pm) (H.bel HX.out.pm) HX.out.kp)
        have HSS := hide (HF.out.ss.mono HY.out.2.2.2.2.2)
        obtain ⟨x0, x1⟩ := F10.out.two
        have z0 := KY.out w6 FUB.out
        have BD1 := hide ((Below.refl w6.heap.size w6).drew)
        have BD2 := hide (((Below.refl w6.heap.size w6).alloc (Nat.le_refl _) (.cells #[.int .i64 0, .int .i64 0, .slice none 0 0, .slice none 0 0] 34)).drew)
        have KS := hide (fun (V : World) (hk : Kp w6 V) (hb : Below W.heap.size W V) => show (V.cell? ⟨k10, 0, none⟩ = some (.int .i64 S.root.1) ∧ V.cell? ⟨k10, 1, none⟩ = some (.int .i64 S.root.2)) ∧ V.cell? ⟨br, or' + i, none⟩ = some (.int .u8 kb) from ⟨(F10.out.kp hk).two, KY.out V (FUB.out.kp (H.bel HX.out.pm) hb hk)⟩)
        have KP := hide (fun (V : World) (hV : Below w6.heap.size w6 V) => KQ.out V A1 U1 (H.below HX.out.pm hV) HY.out.1 HSS.out (by have := HY.out.2.1; have := HY.out.2.2.1; omega))
        go_region_held3 (fun w' => (w'.cell? ⟨k10, 0, none⟩ = some (.int .i64 S.root.1) ∧ w'.cell? ⟨k10, 1, none⟩ = some (.int .i64 S.root.2)) ∧ w'.cell? ⟨br, or' + i, none⟩ = some (.int .u8 kb))
          (first | with_reducible exact hS2 | with_reducible exact hS1 | with_reducible exact ⟨⟨x0, x1⟩, z0⟩ | go_keep)
          (first
            | (with_reducible refine (KP.out _ BD1.out).mono ?_
               rintro e w7 ⟨vm, vg, S1, A3, U3, made3, gone3, rfl, E⟩
               obtain ⟨am3, cm3, rfl⟩ := row_form E.om
               obtain ⟨ag3, cg3, rfl⟩ := row_form E.og
               have hS1 := KS.out _ ((Kp.of_below BD1.out).trans E.kp) (H.bel E.pm)
               have HX3 := hide (Eds.late H BD1.out E.pm E.kp E.om E.og S1.root)
               have HY3 := hide (⟨E.uu, E.live, E.few, E.st, E.prs, E.mono⟩ : U3 ≤ U1 + 1000 ∧ A3.live = A1.live + made3.length ∧ made3.length ≤ 3 * S.high + 1 ∧ Stands A3 S1 ∧ S1.prs = mkO r (i + 1) ∧ ∀ s t x, A1.get s t = some x → A3.get s t = some x)
               clear E
               unfold edv)
            | (with_reducible refine (KP.out _ BD2.out).mono ?_
               rintro e w7 ⟨vm, vg, S1, A3, U3, made3, gone3, rfl, E⟩
               obtain ⟨am3, cm3, rfl⟩ := row_form E.om
               obtain ⟨ag3, cg3, rfl⟩ := row_form E.og
               obtain ⟨hZ, c0, c1, c2, c3, g0, g1, g2, g3⟩ := ed_zero (kp_zero E.kp)
               have hS1 := KS.out _ ((Kp.of_below BD2.out).trans E.kp) (H.bel E.pm)
               have hX := Eds.early H hZ hbw6 BD2.out E.pm E.kp E.om E.og S1.root
               have hS2 := KS.out _ hX.kp (H.bel hX.pm)
               have HX3 := hide hX
               have HY3 := hide (⟨E.uu, E.live, E.few, E.st, E.prs, E.mono⟩ : U3 ≤ U1 + 1000 ∧ A3.live = A1.live + made3.length ∧ made3.length ≤ 3 * S.high + 1 ∧ Stands A3 S1 ∧ S1.prs = mkO r (i + 1) ∧ ∀ s t x, A1.get s t = some x → A3.get s t = some x)
               clear E hX hZ
               unfold edv))
        all_goals
          clear hS1
          try clear hS2 c0 c1 c2 c3 g0 g1 g2 g3
          first
            | (generalize (World.alloc w7 _) = w8 at HX3 ⊢
               generalize w7.heap.size = kf at HX3 ⊢
               have HXC : Hid (Eds P W w6 w8 gm 4000 U3 A3 S1.root am3 cm3 ag3 cg3 made3 gone3 kf) := HX3
               clear HXC)
            | (generalize (World.setCell _ _ _) = w8 at HX3 ⊢
               generalize hke : w6.heap.size = kf at HX3 ⊢
               have HXC : Hid (Eds P W w6 w8 gm 4000 U3 A3 S1.root am3 cm3 ag3 cg3 made3 gone3 kf) := HX3
               clear hke HXC)
          have HKK := hide (HX.out.kp.trans HX3.out.kp)
          obtain ⟨e0, e1, -, -⟩ := (HX.out.eb.kp HX3.out.kp).four
          have H9 := hide (HF.out.h9.kp HKK.out)
          have H10 := hide (F10.out.kp HX3.out.kp)
          obtain ⟨y0, y1⟩ := H9.out.two
          obtain ⟨y2, y3⟩ := H10.out.two
          have f0 := Joins.unfrozen_of_block H9.out 0
          have f1 := Joins.unfrozen_of_block H9.out 1
          have EB3 := hide HX3.out.eb
          have HN := hide (HF.out.next H HKK.out HX3.out.pm (by have := HY.out.1; have := HY3.out.1; omega) (HY.out.2.2.2.1.mono HY3.out.2.2.2.2.2) HY3.out.2.2.2.1 HY.out.2.2.2.2.1 HY3.out.2.2.2.2.1 (by have h1 := HY.out.2.1; have h2 := HY.out.2.2.1; have h3 := HY3.out.2.1; have h4 := HY3.out.2.2.1; omega))
          have HE9 := hide (show Eb ((w8.setCell ⟨k9, 0, none⟩ (.int .i64 T1.root.1)).setCell ⟨k9, 1, none⟩ (.int .i64 T1.root.2)) kf S1.root (.slice am3 made3.length cm3) (.slice ag3 gone3.length cg3) from by
            have hne : kf ≠ k9 := by
              rintro rfl
              have h1 := H9.out
              have h2 := EB3.out
              unfold Hb at h1
              unfold Eb at h2
              rw [h1] at h2
              simp at h2
            exact ((Below.heap_setCell _ _ _ _ hne).trans (Below.heap_setCell _ _ _ _ hne)).trans EB3.out)
          have H10' := hide (H10.out.setO HF.out.ne.symm (.int .i64 T1.root.1) (.int .i64 T1.root.2))
          clear x0 x1 z0 KP KS KQ BD1 BD2 HX HX3 HY HY3 KZ KY HKK F10 FUB HSS H9 H10 EB3
          go_upto_region 19 with (fail)
          obtain ⟨e0, e1, -, -⟩ := HE9.out.four
          obtain ⟨y2, y3⟩ := H10'.out.two
          have f0 := Joins.unfrozen_of_block H10'.out 0
          have f1 := Joins.unfrozen_of_block H10'.out 1
          clear HE9 H10'
          go_wp2_with fail
          go_roundw
          case rel => exact ⟨i + 1, T1, S1, A3, U3, by omega, by go_num, HN.out⟩
          case measure => simp [intOf]; omega
    case neg =>
      obtain rfl : i = l.length := by omega
      have hps : S.prs = T.prs := by
        rw [F.pt, F.ps, ← hrl]
        rw [HRT.out, hrl]
      have hml : T.prs.length ≤ 30 := by rw [F.pt]; exact Nat.le_trans (mkO_length _ _) hl
      have hh1 := F.st.bal.high9 (by omega)
      have hh2 := F.ss.bal.high9 (by rw [hps]; omega)
      have huu := F.uu
      have hlv := F.live
      obtain ⟨x0, x1⟩ := F.h9.two
      have KA := hide (walk_any gm A.get T F.st.lies F.st.bal (by omega) 40 (by omega) (by omega) wr (H.load F.pm (by omega)))
      have KB := hide (fun (V : World) (hV : Below wr.heap.size wr V) => walk_any gm A.get S HF.out.ss.lies HF.out.ss.bal (by rw [hps]; omega) 40 (by omega) (by omega) V (H.load (H.below HF.out.pm hV) (by omega)))
      obtain ⟨M, hM⟩ : ∃ M, T.prs = M := ⟨_, rfl⟩
      have HM := hide hM
      have HS := hide (hps.trans hM)
      have HSR := hide (hM ▸ F.st.ord : Srt M)
      have HKB := hide (show ∀ x ∈ M, i64B x.1 from fun x hx => by
        rw [← hM, F.pt] at hx
        obtain ⟨b, -, rfl⟩ := mkO_all.1 hx
        exact byte_b b)
      have hMl : M.length ≤ 30 := by rw [← hM]; exact hml
      clear F hps hml hlv hM hh1 hh2 HAT HRT
      go_wp2_with fail
      refine KA.out.mono ?_
      rintro e w5 ⟨va, vha, rfl, hoa, hoha, hb⟩
      rw [HM.out] at hoa
      obtain ⟨aa, ca, rfl⟩ := row_form hoa
      obtain ⟨aha, cha, rfl⟩ := row_form hoha
      have HOA := hide hoa
      have B5 := hide hb
      have x0 := ((HF.out.h9.below hb).two).1
      obtain ⟨x2, x3⟩ := (HF.out.h10.below hb).two
      have KB := hide (KB.out w5 hb)
      clear hoa hoha hb KA
      go_wp2_with fail
      refine KB.out.mono ?_
      rintro e w6 ⟨vb, vhb, rfl, hob, hohb, hb⟩
      rw [HS.out] at hob
      obtain ⟨ab, cb, rfl⟩ := row_form hob
      obtain ⟨ahb, chb, rfl⟩ := row_form hohb
      have HOA6 := hide (HOA.out.below hb)
      have KS := hide (psame_any aa ca M ab cb M (by omega) (by omega) w6 (HOA.out.below hb).at hob.at)
      rw [decide_eq_true rfl] at KS
      have B6 := hide (B5.out.trans (hb.mono B5.out.size))
      clear hob hohb hb KB HOA B5 x0 x1 x2 x3
      go_wp2_with fail
      refine KS.out.mono ?_
      rintro e w7 ⟨rfl, hb⟩
      have B7 := hide (B6.out.trans (hb.mono B6.out.size))
      have HD := hide (show Od P W w7 gm 0 k9 (.slice aa M.length ca) M T A U from
        ⟨H.below HF.out.pm B7.out, by omega, HF.out.st, HM.out, by have := HF.out.live; omega, HF.out.h9.below B7.out, (HOA6.out.below hb).base (Nat.le_trans (H.bel HF.out.pm).size (by simp)), HF.out.b9⟩)
      clear hb KS B6 B7 HOA6 HF HS HM huu hrl
      clear KB x0 hi hlt
      go_wp2_with fail
      go_loopw [24] (OdRel P W gm k9 (.slice aa M.length ca) M) (fun j _ => M.length - (intOf j).toNat)
      case atStart => exact ⟨0, _, _, _, Nat.zero_le _, rfl, HD.out⟩
      case round =>
        clear HD
        obtain ⟨j, T, A, U, hj, rfl, F⟩ := hrel
        have HF := hide F
        obtain ⟨x0, x1⟩ := F.h9.two
        by_cases hlt : j < M.length
        · have huu := F.uu
          have hlv := F.live
          obtain ⟨b, o, rfl, hat⟩ := F.own.at.lit (by omega)
          obtain ⟨z0, -⟩ := hat.two j hlt
          have KZ := hide (fun (V : World) (hV : OwnP V W.heap.size (.slice (some ⟨b, o, none⟩) M.length ca) M) => show V.cell? ⟨b, o + j * 2, none⟩ = some (.int .i64 M[j].1) by
            obtain ⟨b', o', e, h⟩ := hV.at.lit (by omega)
            cases e
            exact (h.two j hlt).1)
          have i0 : (0 : Int) ≤ (j : Int) := by omega
          have i1 : (j : Int) < (M.length : Int) := by omega
          have hdr : M.drop j = M[j] :: M.drop (j + 1) := List.drop_eq_getElem_cons hlt
          have hsr : Srt (M[j] :: M.drop (j + 1)) := by rw [← hdr]; exact HSR.out.sublist (List.drop_sublist _ _)
          have hwo : woP M[j].1 T.prs = M.drop (j + 1) := by rw [F.pt, hdr]; exact wo_head hsr
          have hfi : (fiP M[j].1 T.prs).isSome = true := by rw [F.pt, hdr]; exact fi_head _ _
          have hln : T.prs.length ≤ 30 := by rw [F.pt, List.length_drop]; omega
          have hh := F.st.bal.high9 (by omega)
          have hkb := HKB.out _ (List.getElem_mem hlt)
          have hsb := (H.bel F.pm).size
          have KP := hide (fun (V : World) (hV : Below wr.heap.size wr V) => H.del T M[j].1 (H.below HF.out.pm hV) (by omega) HF.out.st (by omega) (by omega) hkb hfi)
          rw [hwo] at KP
          have BD1 := hide ((Below.refl wr.heap.size wr).drew)
          have BD2 := hide (((Below.refl wr.heap.size wr).alloc (Nat.le_refl _) (.cells #[.int .i64 0, .int .i64 0, .slice none 0 0, .slice none 0 0] 34)).drew)
          clear F hat hdr hsr hwo hfi hln hlv huu hkb
          generalize M[j].1 = key at *
          generalize hMD : M.drop (j + 1) = MD at *
          have HMD := hide hMD
          have KS := hide (fun (V : World) (hk : Kp wr V) => show (V.cell? ⟨k9, 0, none⟩ = some (.int .i64 T.root.1) ∧ V.cell? ⟨k9, 1, none⟩ = some (.int .i64 T.root.2)) ∧ V.cell? ⟨b, o + j * 2, none⟩ = some (.int .i64 key) from ⟨(HF.out.h9.kp hk).two, KZ.out V (HF.out.own.kp hk)⟩)
          clear hMD
          go_upto_region 27 with (fail)
          go_region_held3 (fun w' => (w'.cell? ⟨k9, 0, none⟩ = some (.int .i64 T.root.1) ∧ w'.cell? ⟨k9, 1, none⟩ = some (.int .i64 T.root.2)) ∧ w'.cell? ⟨b, o + j * 2, none⟩ = some (.int .i64 key))
            (first | with_reducible exact hS2 | with_reducible exact hS1 | with_reducible exact ⟨⟨x0, x1⟩, z0⟩ | go_keep)
            (first
              | (with_reducible refine (KP.out _ BD1.out).mono ?_
                 rintro e w5 ⟨vm, vg, T1, A1, U1, made, gone, rfl, E⟩
                 obtain ⟨am, cm, rfl⟩ := row_form E.om
                 obtain ⟨ag, cg, rfl⟩ := row_form E.og
                 have hS1 := KS.out _ ((Kp.of_below BD1.out).trans E.kp)
                 have HX := hide (Eds.late H BD1.out E.pm E.kp E.om E.og T1.root)
                 have HY := hide (⟨E.uu, E.live, E.few, E.st, E.prs⟩ : U1 ≤ U + 1000 ∧ A1.live = A.live + made.length ∧ made.length ≤ 3 * T.high + 1 ∧ Stands A1 T1 ∧ T1.prs = MD)
                 clear E
                 unfold edv)
              | (with_reducible refine (KP.out _ BD2.out).mono ?_
                 rintro e w5 ⟨vm, vg, T1, A1, U1, made, gone, rfl, E⟩
                 obtain ⟨am, cm, rfl⟩ := row_form E.om
                 obtain ⟨ag, cg, rfl⟩ := row_form E.og
                 obtain ⟨hZ, c0, c1, c2, c3, g0, g1, g2, g3⟩ := ed_zero (kp_zero E.kp)
                 have hS1 := KS.out _ ((Kp.of_below BD2.out).trans E.kp)
                 have hX := Eds.early H hZ hsb BD2.out E.pm E.kp E.om E.og T1.root
                 have hS2 := KS.out _ hX.kp
                 have HX := hide hX
                 have HY := hide (⟨E.uu, E.live, E.few, E.st, E.prs⟩ : U1 ≤ U + 1000 ∧ A1.live = A.live + made.length ∧ made.length ≤ 3 * T.high + 1 ∧ Stands A1 T1 ∧ T1.prs = MD)
                 clear E hX hZ
                 unfold edv))
          all_goals
            clear hS1
            try clear hS2 c0 c1 c2 c3 g0 g1 g2 g3
            first
              | (generalize (World.alloc w5 _) = w6 at HX ⊢
                 generalize w5.heap.size = ke at HX ⊢
                 have HXC : Hid (Eds P W wr w6 gm 4000 U1 A1 T1.root am cm ag cg made gone ke) := HX
                 clear HXC)
              | (generalize (World.setCell _ _ _) = w6 at HX ⊢
                 generalize hke : wr.heap.size = ke at HX ⊢
                 have HXC : Hid (Eds P W wr w6 gm 4000 U1 A1 T1.root am cm ag cg made gone ke) := HX
                 clear hke HXC)
            obtain ⟨e0, e1, -, -⟩ := HX.out.eb.four
            have H9 := hide (HF.out.h9.kp HX.out.kp)
            obtain ⟨y0, y1⟩ := H9.out.two
            have f0 := Joins.unfrozen_of_block H9.out 0
            have f1 := Joins.unfrozen_of_block H9.out 1
            have HN := hide (HF.out.next H HX.out.kp (n := made.length) HX.out.pm HY.out.1 HY.out.2.2.2.1 (HY.out.2.2.2.2.trans HMD.out.symm) HY.out.2.1 (by have := HY.out.2.2.1; omega))
            clear x0 x1 z0 KP KS BD1 BD2 HX HY H9
            go_wp2_with fail
            go_roundw
            case rel => exact ⟨j + 1, T1, A1, U1, by omega, by go_num, HN.out⟩
            case measure => simp [intOf]; omega
        · obtain rfl : j = M.length := by omega
          have hr : T.root = (0, 0) := by
            have h1 := F.pt
            rw [List.drop_length] at h1
            rw [Tr.nil_of h1]
            rfl
          rw [hr] at x0 x1
          have BE := hide (H.bel F.pm)
          have hq := fun V => handle_eql 0 0 0 0 V
          simp only [decide_true] at hq
          clear F HF hr
          go_wp2_with fail
          go_ret
          exact ⟨by simp, BE.out⟩
end Go.Proofs.Ytcckamajiebgeaa
