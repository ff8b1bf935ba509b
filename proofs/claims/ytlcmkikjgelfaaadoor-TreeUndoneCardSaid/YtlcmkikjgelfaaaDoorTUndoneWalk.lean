/-
  The walk of TreeUndone. Conditions: those of the statement.
-/
import Derived.Test.YtlcmkikjgelfaaaDoorTClonesWalk
import Derived.Test.YtlcmkikjgelfaaaDoorWShort
import Derived.Test.YtlcmkikjgelfaaaDoorORef
namespace Go.Proofs.YtlcmkikjgelfaaaDoor
open Go.RowKit Go.Maps
set_option linter.unusedVariables false
set_option linter.unusedSimpArgs false
set_option maxRecDepth 100000

theorem opSize (w : World) : (Go.sizeOf 37).run Tryd.prog w = .ok 5 w := by kernel_rfl
theorem opUnder : Tryd.prog.underlying 22 = some (.slice (Tryd.prog.elem 22)) := by simp [Program.elem, Tryd.underlying22]
theorem opElem : Tryd.prog.elem 22 = 37 := by simp [Program.elem, Tryd.underlying22]
theorem ops_head (A : Option Addr) (n c q : Nat) (hq : q ≤ c) (w : World) :
    (Instr.slice 22 (.slice A n c) none (some (.int .i64 (q : Int))) none).run Tryd.prog w = .ok (.slice A q c) w := by
  rw [run_slice_h w _ _ _ _ opUnder .i64 _ (by omega) (by omega), opElem, opSize]
  rcases A with _ | ad
  · simp [Result.andThen, sliced]
  · simp [Result.andThen, sliced, Addr.add]
theorem Ops.take {w : World} {A : Option Addr} {c : Nat} {os : List O5} (h : Ops w A c os) (q : Nat) : Ops w A c (os.take q) := by
  have hl : (os.take q).length ≤ os.length := by rw [List.length_take]; omega
  refine ⟨fun e => by rw [h.nil e]; simp, Nat.le_trans hl h.le, h.most, fun hp => ?_⟩
  obtain ⟨b, o, e, hat⟩ := h.lit (by omega)
  refine ⟨b, o, e, fun j u hu => hat j u ?_⟩
  have ht : ocs os = ocs (os.take q) ++ ocs (os.drop q) := by rw [← ocs_append, List.take_append_drop]
  rw [ht, List.getElem?_append_left (List.getElem?_eq_some_iff.1 hu).1]
  exact hu
theorem foldS_filter : ∀ (os : List O5) (s : St), os.foldl stp s = (os.filter O5.R).foldl stp s
  | [], s => rfl
  | o :: os, s => by
    cases h : o.R with
    | false =>
      have e : stp s o = s := by unfold stp; rw [h]; simp
      rw [List.foldl_cons, e, foldS_filter os s, List.filter_cons_of_neg (by simp [h])]
    | true => rw [List.foldl_cons, foldS_filter os (stp s o), List.filter_cons_of_pos h, List.foldl_cons]
theorem runS_filter (os : List O5) : runS os = runS (os.filter O5.R) := foldS_filter os ([], [])
/-- Where the gathering of right ones stands. -/
def RtRel (w : World) (os : List O5) (v i : Value) (wr : World) : Prop :=
  ∃ k : Nat, k ≤ os.length ∧ i = .int .i64 (k : Int) ∧ OwnOps wr w.heap.size v ((os.take k).filter O5.R) ∧ Below w.heap.size w wr
/-- Where the doings and undoings stand. -/
def UnRel (w0 : World) (ga gb : Nat) (s2 : St) (v : Value) (ks : List Kd) (f : Nat → St) (lo hi : Nat) (i : Value) (wr : World) : Prop :=
  ∃ (k : Nat) (fx fy : List Nat), lo ≤ k ∧ k ≤ hi ∧ i = .int .i64 (k : Int) ∧ Two w0 wr ga gb (f k) s2 fx fy ∧ OwnKids wr 0 v ks ∧ ∀ b, v.ownBlock = some b → b ∉ fx
theorem keep_row {w w' : World} {v : Value} {ks : List Kd} {fx fx' : List Nat} (h : OwnKids w 0 v ks) (hn : ∀ b, v.ownBlock = some b → b ∉ fx) (hm : Mod fx w w') (hf : ∀ k ∈ fx', k ∈ fx ∨ w.heap.size ≤ k) : OwnKids w' 0 v ks ∧ ∀ b, v.ownBlock = some b → b ∉ fx' :=
  ⟨h.mod hm hn, fun b hb hk => by
    rcases hf b hk with h1 | h1
    · exact hn b hb h1
    · have := (h.lt hb).2
      omega⟩
theorem runS_undo (rs : List O5) (j : Nat) (h : j < rs.length) : runS (rs.take (j + 1)) = stp (runS (rs.take j)) rs[j] := by rw [List.take_succ_eq_append_getElem h, runS_snoc]
set_option maxHeartbeats 8000000 in
theorem treeUndone_walk (a : Option Addr) (len cap : Nat) (os : List O5) (kk : Int) (W : World) (h : IsOps W a len cap os) (hkk : (Lit.int .u8 kk).wf = true) (hE : Env W) :
    Calls Tryd.prog 6 #[.slice a len cap, .int .u8 kk] W (TrueRet W) := by
  obtain ⟨rfl, hops, hnm⟩ := h
  have hkk := bounds_u8 hkk
  obtain ⟨kk, rfl⟩ : ∃ n : Nat, kk = n := ⟨kk.toNat, by omega⟩
  have HO := hide hops
  have HE := hide hE
  have HN := hide hnm
  have hle : os.length ≤ 9223372036854775807 := by
    have h1 := hops.le
    have h2 := hops.most
    unfold maxLen at h2
    omega
  clear hops hE hnm
  go_enter Tryd.func6, Tryd.ntmps6
  go_wp2_with fail
  refine (awake_any W HE.out).mono ?_
  rintro e w1 ⟨rfl, hb⟩
  have B1 := hide hb
  have O1 := hide (HO.out.below hb)
  clear hb HO
  go_wp2_with fail
  refine (shortOps_any a cap os w1 hle HN.out O1.out).mono ?_
  rintro e w2 ⟨rfl, hw⟩
  subst hw
  by_cases h1 : os.length ≤ 30
  · have d1 : decide ((os.length : Int) > 30) = false := by simp; omega
    cases hs : shO os with
    | false =>
      clear hs
      go_wp2
      go_ret
      exact ⟨rfl, B1.out⟩
    | true =>
      have HS := hide (show ∀ o ∈ os, o.l.length ≤ 60 from fun o ho => by
        have := List.all_eq_true.1 hs o ho
        simpa using this)
      clear hs
      go_wp2_with fail
      clear d1
      go_loopw [7, 8] (RtRel w2 os) (fun _ i _ => os.length - (intOf i).toNat)
      case atStart => exact ⟨0, Nat.zero_le _, rfl, World.ownsRow_nil _ _ _ _, Below.refl _ _⟩
      case round =>
        obtain ⟨k, hk, rfl, ho, hb⟩ := hrel
        have O := hide ho
        have B := hide hb
        have sz := hb.size
        clear ho hb
        by_cases hlt : k < os.length
        · obtain ⟨b, oo, rfl, hat⟩ := (O1.out.below B.out).lit (by omega)
          obtain ⟨c0, c1, c2, c3, c4⟩ := hat.five k hlt
          have hl60 := HS.out _ (List.getElem_mem hlt)
          have KR := hide (orefRight_any os[k].n os[k].r os[k].d os[k].t os[k].l wr (by omega))
          have hRv : opR os[k].n os[k].r os[k].d os[k].t os[k].l = os[k].R := rfl
          rw [hRv] at KR
          unfold opv at KR
          have FS := hide (show (os.take (k + 1)).filter O5.R = (os.take k).filter O5.R ++ (if os[k].R then [os[k]] else []) by
            rw [List.take_succ_eq_append_getElem hlt, List.filter_append]
            congr 1
            cases h : os[k].R <;> simp [h])
          have hfl : ((os.take k).filter O5.R).length ≤ 1000000 := Nat.le_trans (List.length_filter_le _ _) (by rw [List.length_take]; omega)
          have HAT := hide hat
          generalize hx : os[k] = x at c0 c1 c2 c3 c4 KR FS hRv
          clear hat hRv
          go_wp2_with fail
          refine KR.out.mono ?_
          rintro e wa ⟨rfl, hb⟩
          have Ba := hide (B.out.trans (hb.mono sz))
          have Oa := hide (O.out.below hb)
          have za := Ba.out.size
          obtain ⟨e0, e1, e2, e3, e4⟩ := (HAT.out.below hb).five k hlt
          rw [hx] at e0 e1 e2 e3 e4
          clear hb B O KR c0 c1 c2 c3 c4 hx HAT
          cases hR : x.R with
          | false =>
            have FE := hide (show (os.take (k + 1)).filter O5.R = (os.take k).filter O5.R by rw [FS.out, hR]; simp)
            clear hR FS
            go_wp2_with fail
            go_roundw
            case rel => exact ⟨k + 1, by omega, by go_num, by rw [FE.out]; exact Oa.out, Ba.out⟩
            case measure => simp [intOf]; omega
          | true =>
            have FE := hide (show (os.take (k + 1)).filter O5.R = (os.take k).filter O5.R ++ [x] by rw [FS.out, hR]; simp)
            clear hR FS
            have bz := (Below.refl wa.heap.size wa).alloc (Nat.le_refl _) (.cells #[.int .i64 x.n, .int .i64 x.r, .int .i64 x.d, .int .i64 x.t, .string (bs x.l)] 37)
            have Ob := hide (Oa.out.below bz)
            have Bb := hide (Ba.out.alloc za (.cells #[.int .i64 x.n, .int .i64 x.r, .int .i64 x.d, .int .i64 x.t, .string (bs x.l)] 37))
            have N5 := hide (cells_new5 wa x)
            have zb := bz.size
            clear bz Oa Ba
            generalize hwb : wa.alloc (.cells #[.int .i64 x.n, .int .i64 x.r, .int .i64 x.d, .int .i64 x.t, .string (bs x.l)] 37) = wb at Ob Bb N5 zb
            generalize hq : (os.take k).filter O5.R = qs at Ob FE hfl
            clear hq
            go_wp2_with (at_builtin; refine wpList_append_op _ rfl _ _ rfl w2.heap.size _ qs rfl Ob.out ⟨wa.heap.size, 0, none⟩ 1 x rfl N5.out (by omega) (by omega) ?_)
            intro v6 w6 hown6 hg6
            have B6 := hide (Bb.out.grown hg6 (by omega) (fun k hk => Ob.out.row _ hk))
            have O6 := hide hown6
            clear hown6 hg6 Ob Bb N5 hwb hfl e0 e1 e2 e3 e4
            go_wp2_with fail
            go_roundw
            case rel => exact ⟨k + 1, by omega, by go_num, by rw [FE.out]; exact O6.out, B6.out⟩
            case measure => simp [intOf]; omega
        · obtain rfl : k = os.length := by omega
          rename World => wz
          have O3 := O.out
          rw [List.take_length] at O3
          have HRS := hide (show ∀ x ∈ os.filter O5.R, x.R = true from fun x hx => (List.mem_filter.1 hx).2)
          have HRN := hide (show ∀ x ∈ os.filter O5.R, x.l.length ≤ maxLen from fun x hx => HN.out x (List.mem_filter.1 hx).1)
          have ERS := hide (runS_filter os)
          have hrl : (os.filter O5.R).length ≤ 30 := Nat.le_trans (List.length_filter_le _ _) h1
          generalize os.filter O5.R = rs at O3 HRS HRN ERS hrl
          obtain ⟨A3, c3, rfl, p3⟩ := O3.ops
          have P3 := hide p3
          have h3le := p3.le
          have h3m := p3.most
          unfold maxLen at h3m
          obtain ⟨n, hn⟩ : ∃ n : Nat, n = kk % (rs.length + 1) := ⟨_, rfl⟩
          have hnr : n ≤ rs.length := by
            have := Nat.mod_lt kk (show 0 < rs.length + 1 by omega)
            omega
          have HNN := hide (show ((kk : Int) % ((rs.length : Int) + 1)) = (n : Int) by rw [hn]; norm_cast)
          clear hn O3 p3 O
          go_upto_region 13 with (fail)
          rw [HNN.out]
          have HRL := hide (fun k => runS_len (rs.take k))
          have HHS := hide (fun k => runS_hst (rs.take k))
          have hrb : ∀ k, (runS (rs.take k)).2.length < 900000 ∧ (runS (rs.take k)).1.length ≤ 1000 := fun k => by
            have h2 := HRL.out k
            have h3 := (HHS.out k).len
            have h4 : (rs.take k).length ≤ 30 := Nat.le_trans (by rw [List.length_take]; omega) hrl
            omega
          have HRB := hide hrb
          have B3 := hide (B1.out.trans (B.out.mono B1.out.size))
          have KG := hide (grown_any a cap os wz (by omega) HN.out (HE.out.below B3.out) (O1.out.below B.out))
          rw [ERS.out] at KG
          clear hrb B O1 HRL HNN ERS
          go_wp2_with fail
          refine KG.out.mono ?_
          rintro e w4 ⟨g1, f1, rfl, hL⟩
          have L4 := hide hL
          have P4 := hide (P3.out.below hL.bel)
          have hd := ops_head A3 rs.length c3 n (by omega) w4
          have hln : (rs.take n).length = n := by rw [List.length_take]; omega
          have KG2 := hide (grown_any A3 c3 (rs.take n) w4 (by omega) (fun x hx => HRN.out x (List.mem_of_mem_take hx)) ((HE.out.below B3.out).below hL.bel) (P4.out.take n))
          rw [hln] at KG2
          clear hL KG hln
          go_wp2_with fail
          refine KG2.out.mono ?_
          rintro e w5 ⟨g2, f2, rfl, hL⟩
          have T5' := hide (show Two wz w5 g1 g2 (runS rs) (runS (rs.take n)) f1 f2 from ⟨L4.out.below hL.bel, ⟨hL.tr, fun k hk => Nat.le_trans L4.out.bel.size (hL.fs k hk), L4.out.bel.trans (hL.bel.mono L4.out.bel.size)⟩, fun k hk hk' => by
            have h2 := L4.out.tr.lt k hk
            have h3 := hL.fs k hk'
            omega⟩)
          have hrr := HRB.out rs.length
          rw [List.take_length] at hrr
          clear hL KG2 L4 P4 hd
          have KAl := hide (tall_any g1 (runS rs).1 (runS rs).2 f1 (by omega) w5 T5'.out.a.tr)
          go_wp2_with fail
          refine KAl.out.mono ?_
          rintro e w6 ⟨v6, rfl, hk6, hb⟩
          have T6 := hide (T5'.out.below hb)
          have S0 := hide (show UnRel wz g1 g2 (runS (rs.take n)) v6 (sortK (runS rs).1) (fun k => runS (rs.take (rs.length - (k - n)))) n rs.length (.int .i64 (n : Int)) w6 from
            ⟨n, f1, f2, Nat.le_refl _, hnr, rfl, by simp only; rw [Nat.sub_self, Nat.sub_zero, List.take_length]; exact T6.out, hk6.base (Nat.zero_le _), fun b hb' hk => by
              have h2 := (hk6.lt hb').1
              have h3 := T5'.out.a.tr.lt b hk
              omega⟩)
          obtain ⟨A6, c6, rfl, _, _, _⟩ := hk6.kids
          clear hk6 hb KAl T5' T6
          go_wp2_with fail
          go_loopw [14] (UnRel wz g1 g2 (runS (rs.take n)) (.slice A6 (sortK (runS rs).1).length c6) (sortK (runS rs).1) (fun k => runS (rs.take (rs.length - (k - n)))) n rs.length) (fun i _ => rs.length - (intOf i).toNat)
          case atStart => exact S0.out
          case round =>
            rename World => wq
            clear S0
            obtain ⟨k, fx, fy, hlo, hk, rfl, hT, hV, hF⟩ := hrel
            have TT := hide hT
            have VV := hide hV
            have FF := hide hF
            clear hT hV hF
            by_cases hlt : k < rs.length
            · obtain ⟨j, hj⟩ : ∃ j, rs.length - (k - n) = j + 1 := ⟨rs.length - (k - n) - 1, by omega⟩
              have hjl : j < rs.length := by omega
              have hj2 : rs.length - (k + 1 - n) = j := by omega
              have ES := hide (show runS (rs.take (rs.length - (k - n))) = stp (runS (rs.take j)) rs[j] by rw [hj, runS_undo rs j hjl])
              have hRj := HRS.out _ (List.getElem_mem hjl)
              have TT2 := hide (show Two wz wq g1 g2 (stp (runS (rs.take j)) rs[j]) (runS (rs.take n)) fx fy by rw [← ES.out]; exact TT.out)
              have HJ2 := hide hj2
              have hrj := (HRB.out j).1
              have K1 := hide (tundo_back g1 (runS (rs.take j)) rs[j] hRj fx hrj wq TT2.out.a.tr)
              clear TT ES hj hj2
              go_wp2_with fail
              refine K1.out.mono ?_
              rintro e w11 hr
              obtain ⟨rfl, fx', hT, hM, hF⟩ := TT2.out.retA (s2 := runS (rs.take j)) hr
              have T11 := hide hT
              have VV2 := hide (keep_row VV.out FF.out hM hF)
              clear hr hT hM hF K1 TT2 VV FF
              go_wp2_with fail
              go_roundw
              case rel => exact ⟨k + 1, fx', fy, by omega, by omega, by go_num, by simp only; rw [HJ2.out]; exact T11.out, VV2.out.1, VV2.out.2⟩
              case measure => simp [intOf]; omega
            · obtain rfl : k = rs.length := by omega
              have TT2 := hide (show Two wz wq g1 g2 (runS (rs.take n)) (runS (rs.take n)) fx fy by
                have := TT.out
                simp only at this
                rwa [show rs.length - (rs.length - n) = n by omega] at this)
              have hb2 := HRB.out n
              have K1 := hide (tall_any g1 (runS (rs.take n)).1 (runS (rs.take n)).2 fx (by omega) wq TT2.out.a.tr)
              clear TT
              go_wp2_with fail
              refine K1.out.mono ?_
              rintro e w13 ⟨v13, rfl, hk13, hb⟩
              have T13 := hide (TT2.out.below hb)
              have V13 := hide hk13
              have VK := hide (VV.out.below hb)
              have K4 := hide (tall_any g2 (runS (rs.take n)).1 (runS (rs.take n)).2 fy (by omega) w13 T13.out.b.tr)
              obtain ⟨A13, c13, rfl, _, _, _⟩ := hk13.kids
              clear hk13 hb K1 TT2 VV
              go_wp2_with fail
              refine K4.out.mono ?_
              rintro e w14 ⟨v14, rfl, hk14, hb⟩
              have T14 := hide (T13.out.below hb)
              have VK2 := hide (VK.out.below hb)
              have K5 := hide (ksame_any _ v14 _ _ w14 (by rw [sortK_length]; omega) (by rw [sortK_length]; omega) (V13.out.below hb).kids hk14.kids)
              rw [decide_eq_true rfl] at K5
              obtain ⟨A14, c14, rfl, _, _, _⟩ := hk14.kids
              clear hk14 hb K4 T13 V13 VK
              go_wp2_with fail
              refine K5.out.mono ?_
              rintro e w15 ⟨rfl, hb⟩
              have S1 := hide (show UnRel wz g1 g2 (runS (rs.take n)) (.slice A6 (sortK (runS rs).1).length c6) (sortK (runS rs).1) (fun k => runS (rs.take k)) n rs.length (.int .i64 (n : Int)) w15 from ⟨n, fx, fy, Nat.le_refl _, hnr, rfl, T14.out.below hb, VK2.out.below hb, FF.out⟩)
              clear hb K5 T14 VK2 FF
              go_wp2_with fail
              go_loopw [17] (UnRel wz g1 g2 (runS (rs.take n)) (.slice A6 (sortK (runS rs).1).length c6) (sortK (runS rs).1) (fun k => runS (rs.take k)) n rs.length) (fun i _ => rs.length - (intOf i).toNat)
              case atStart => exact S1.out
              case round =>
                rename World => wp
                clear S1
                obtain ⟨k, fx, fy, hlo, hk, rfl, hT, hV, hF⟩ := hrel
                have TT := hide hT
                have VV := hide hV
                have FF := hide hF
                clear hT hV hF
                by_cases hlt : k < rs.length
                · obtain ⟨b, oo, rfl, hat⟩ := (P3.out.below TT.out.a.bel).lit (by omega)
                  obtain ⟨q0, q1, q2, q3, q4⟩ := hat.five k hlt
                  have hxl := HRN.out _ (List.getElem_mem hlt)
                  have hrk := (HRB.out k).1
                  have K1 := hide (tapply_any g1 (runS (rs.take k)) fx rs[k] hxl hrk wp ((HE.out.below B3.out).below TT.out.a.bel) TT.out.a.tr)
                  rw [← runS_undo rs k hlt] at K1
                  generalize rs[k] = x at q0 q1 q2 q3 q4 K1 hxl
                  clear hat
                  go_wp2_with fail
                  refine K1.out.mono ?_
                  rintro e w21 hr
                  obtain ⟨rfl, fx', hT, hM, hF⟩ := TT.out.retA (s2 := runS (rs.take (k + 1))) hr
                  have T21 := hide hT
                  have VV2 := hide (keep_row VV.out FF.out hM hF)
                  clear hr hT hM hF K1 TT VV FF q0 q1 q2 q3 q4
                  go_wp2_with fail
                  go_roundw
                  case rel => exact ⟨k + 1, fx', fy, by omega, by omega, by go_num, T21.out, VV2.out.1, VV2.out.2⟩
                  case measure => simp [intOf]; omega
                · obtain rfl : k = rs.length := by omega
                  have TT2 := hide (show Two wz wp g1 g2 (runS rs) (runS (rs.take n)) fx fy by
                    have := TT.out
                    simp only at this
                    rwa [List.take_length] at this)
                  have K1 := hide (tall_any g1 (runS rs).1 (runS rs).2 fx (by omega) wp TT2.out.a.tr)
                  clear TT
                  go_wp2_with fail
                  refine K1.out.mono ?_
                  rintro e w23 ⟨v23, rfl, hk23, hb⟩
                  have T23 := hide (TT2.out.below hb)
                  have VK := hide (VV.out.below hb)
                  have K5 := hide (ksame_any v23 _ _ _ w23 (by rw [sortK_length]; omega) (by rw [sortK_length]; omega) hk23.kids VK.out.kids)
                  rw [decide_eq_true rfl] at K5
                  obtain ⟨A23, c23, rfl, _, _, _⟩ := hk23.kids
                  clear hk23 hb K1 TT2 VV
                  go_wp2_with fail
                  refine K5.out.mono ?_
                  rintro e w24 ⟨rfl, hb⟩
                  have S2 := hide (show UnRel wz g1 g2 (runS (rs.take n)) (.slice A6 (sortK (runS rs).1).length c6) (sortK (runS rs).1) (fun k => runS (rs.take (rs.length - k))) 0 rs.length (.int .i64 0) w24 from ⟨0, fx, fy, Nat.le_refl _, Nat.zero_le _, rfl, by simp only; rw [Nat.sub_zero, List.take_length]; exact T23.out.below hb, VK.out.below hb, FF.out⟩)
                  clear hb K5 T23 VK FF
                  go_wp2_with fail
                  go_loopw [19] (UnRel wz g1 g2 (runS (rs.take n)) (.slice A6 (sortK (runS rs).1).length c6) (sortK (runS rs).1) (fun k => runS (rs.take (rs.length - k))) 0 rs.length) (fun i _ => rs.length - (intOf i).toNat)
                  case atStart => exact S2.out
                  case round =>
                    rename World => wo
                    clear S2
                    obtain ⟨k, fx, fy, hlo, hk, rfl, hT, hV, hF⟩ := hrel
                    have TT := hide hT
                    have VV := hide hV
                    have FF := hide hF
                    clear hT hV hF
                    by_cases hlt : k < rs.length
                    · obtain ⟨j, hj⟩ : ∃ j, rs.length - k = j + 1 := ⟨rs.length - k - 1, by omega⟩
                      have hjl : j < rs.length := by omega
                      have hj2 : rs.length - (k + 1) = j := by omega
                      have ES := hide (show runS (rs.take (rs.length - k)) = stp (runS (rs.take j)) rs[j] by rw [hj, runS_undo rs j hjl])
                      have hRj := HRS.out _ (List.getElem_mem hjl)
                      have TT2 := hide (show Two wz wo g1 g2 (stp (runS (rs.take j)) rs[j]) (runS (rs.take n)) fx fy by rw [← ES.out]; exact TT.out)
                      have HJ2 := hide hj2
                      have hrj := (HRB.out j).1
                      have K1 := hide (tundo_back g1 (runS (rs.take j)) rs[j] hRj fx hrj wo TT2.out.a.tr)
                      clear TT ES hj hj2
                      go_wp2_with fail
                      refine K1.out.mono ?_
                      rintro e w31 hr
                      obtain ⟨rfl, fx', hT, hM, hF⟩ := TT2.out.retA (s2 := runS (rs.take j)) hr
                      have T31 := hide hT
                      have VV2 := hide (keep_row VV.out FF.out hM hF)
                      clear hr hT hM hF K1 TT2 VV FF
                      go_wp2_with fail
                      go_roundw
                      case rel => exact ⟨k + 1, fx', fy, by omega, by omega, by go_num, by simp only; rw [HJ2.out]; exact T31.out, VV2.out.1, VV2.out.2⟩
                      case measure => simp [intOf]; omega
                    · obtain rfl : k = rs.length := by omega
                      have TT2 := hide (show Two wz wo g1 g2 (runS []) (runS (rs.take n)) fx fy by
                        have := TT.out
                        simp only at this
                        rwa [Nat.sub_self, List.take_zero] at this)
                      have K1 := hide (tall_any g1 (runS []).1 (runS []).2 fx (by decide) wo TT2.out.a.tr)
                      have hz : (sortK (runS []).1).length = 0 := by rw [sortK_length]; rfl
                      clear TT VV FF
                      go_wp2_with fail
                      refine K1.out.mono ?_
                      rintro e w41 ⟨v41, rfl, hk41, hb⟩
                      have T41 := hide (TT2.out.below hb)
                      obtain ⟨A41, c41, rfl, _, _, _⟩ := hk41.kids
                      rw [hz]
                      clear hk41 hb K1 TT2 hz
                      go_wp2_with fail
                      refine (tundo_start g1 fx w41 T41.out.a.tr).mono ?_
                      rintro e w42 ⟨rfl, hw⟩
                      subst hw
                      go_wp2
                      go_ret
                      exact ⟨rfl, B3.out.trans (T41.out.a.bel.mono B3.out.size)⟩
  · have d1 : decide ((os.length : Int) > 30) = true := by simp; omega
    go_wp2
    go_ret
    exact ⟨rfl, B1.out⟩
end Go.Proofs.YtlcmkikjgelfaaaDoor
