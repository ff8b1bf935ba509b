/-
  The walk of OplogOrder. Conditions: those of the statement.
-/
import Derived.Test.YtimfeocaghccdaaGreatDoorLDuo
import Derived.Deep.CutRange
import Derived.Deep.RegionHeld3
import Derived.Deep.DeepCutAuto
namespace Go.Proofs.YtimfeocaghccdaaGreatDoor
open Go.RowKit Go.Maps
set_option linter.unusedVariables false
set_option linter.unusedSimpArgs false
set_option maxRecDepth 100000

/-- Where the putting one by one stands. -/
def OpoRel (w0 : World) (g h : Nat) (L X : List O5) (fg : List Nat) (va vl vi : Value) (wr : World) : Prop :=
  ∃ (k : Nat) (A : Option Addr) (c : Nat) (M R : List O5) (fh : List Nat), k + R.length = X.length ∧ vi = .int .i64 (k : Int) ∧ vl = .slice A R.length c ∧ Four9 w0 wr g h 1000 1000 L M fg fh va X vl R ∧ Ord9 X M R
set_option maxHeartbeats 400000 in
theorem oplogOrder_walk (a : Option Addr) (len cap : Nat) (ts : List T5) (a1 : Option Addr) (len1 cap1 : Nat) (zs : List Int) (fi ag : Int) (W : World) (h : IsTns W a len cap ts) (h1 : IsRow .u8 W a1 len1 cap1 zs)
    (hf : (Lit.int .u8 fi).wf = true) (hg : (Lit.int .u8 ag).wf = true) (hE : Env W) :
    Calls Tryz.prog 4 #[.slice a len cap, .slice a1 len1 cap1, .int .u8 fi, .int .u8 ag] W (TrueRet W) := by
  obtain ⟨rfl, hts, hok⟩ := h
  have hf := bounds_u8 hf
  have hg := bounds_u8 hg
  obtain ⟨fi, rfl⟩ : ∃ n : Nat, fi = n := ⟨fi.toNat, by omega⟩
  obtain ⟨ag, rfl⟩ : ∃ n : Nat, ag = n := ⟨ag.toNat, by omega⟩
  have hkb := ByteArg.of_row h1
  generalize rowBytes zs len1 = kl at hkb
  have hl1 := hkb.most
  have hl2 := hkb.ceq
  unfold maxLen at hl1
  have HKB := hide hkb
  have HT := hide hts
  have HK := hide hok
  have HE := hide hE
  clear hts hok hE h1 hkb
  obtain ⟨X, hX⟩ : ∃ X, ts.map ofT = X := ⟨_, rfl⟩
  have xl : X.length = ts.length := by rw [← hX, List.length_map]
  have XR := hide (show AllR X by rw [← hX]; exact tiny_R ts)
  have XN := hide (show ∀ o ∈ X, o.l.length ≤ maxLen by rw [← hX]; exact ofT_name ts)
  have XE := hide hX
  obtain ⟨L, hL⟩ : ∃ L, putO [] X = L := ⟨_, rfl⟩
  have m1 : L.length ≤ ts.length := by
    have := putF_most (f := ocF) X []
    rw [show putF ocF [] X = L from hL] at this
    simp at this
    omega
  have HL := hide hL
  have m4 : X.length ≤ ts.length := Nat.le_of_eq xl
  clear hX hL xl
  go_enter Tryz.func4, Tryz.ntmps4
  go_wp2_with fail
  refine (lawake_any W HE.out).mono ?_
  rintro e w1 ⟨rfl, hb⟩
  have B1 := hide hb
  have T1 := hide (HT.out.below hb)
  have KB1 := hide (fun (V : World) (hV : Below w1.heap.size w1 V) (k : Nat) (hk : k < len1) => show ∃ b o z : Nat, a1 = some ⟨b, o, none⟩ ∧ z < 256 ∧ V.cell? ⟨b, o + k, none⟩ = some (.int .u8 (z : Int)) from by
    obtain ⟨b, o, e, hc⟩ := HKB.out.lit (by omega)
    have hkl : k < kl.length := by rw [HKB.out.leq]; exact hk
    have := hc k hkl
    exact ⟨b, o, kl[k].toNat, e, UInt8.toNat_lt _, cellk (hb.trans (hV.mono hb.size)) this⟩)
  have E1 := hide (HE.out.below hb)
  clear hb HT HKB
  by_cases h1 : ts.length ≤ 24
  · have d1 : decide ((ts.length : Int) > 24) = false := by simp; omega
    go_wp2_with fail
    clear d1
    refine (all_any a cap ts w1 (by omega) HK.out T1.out).mono ?_
    rintro e w2 ⟨v2, rfl, hv2, hb2⟩
    rw [XE.out] at hv2
    obtain ⟨Aa, ca, rfl, -⟩ := hv2.ops
    have R2 := hide hv2
    have B2 := hide hb2
    have E2 := hide (E1.out.below hb2)
    clear hv2 hb2 T1
    go_wp2_with fail
    refine (lnew_any 1000 w2).mono ?_
    rintro e w3 ⟨g, fg3, rfl, hG⟩
    have G3 := hide hG
    clear hG
    go_wp2_with fail
    refine (lnew_any 1000 w3).mono ?_
    rintro e w4 ⟨q, fq4, rfl, hQ⟩
    have D4 := hide (Duo9.new G3.out hQ)
    have RA4 := hide (show Row9 w4 fg3 fq4 (.slice Aa X.length ca) X from
      ⟨((R2.out.below G3.out.bel).below hQ.bel).base (Nat.zero_le _), fun b hb hk => by have := G3.out.fs b hk; have := R2.out.lt hb; omega,
        fun b hb hk => by have := hQ.fs b hk; have := (R2.out.below G3.out.bel).lt hb; omega⟩)
    clear hQ G3 R2
    have O4 := hide (show Ops w4 Aa ca X by obtain ⟨A, c, e, h⟩ := RA4.out.own.ops; cases e; exact h)
    have K4 := hide (put_fits w2 E2.out g 1000 [] fg3 Aa ca X XR.out XN.out (by simp; omega) (by rw [HL.out]; omega) w4 D4.out.lft O4.out)
    rw [HL.out] at K4
    simp only [List.length_nil, Nat.sub_zero] at K4
    go_wp2_with fail
    refine K4.out.mono ?_
    rintro e w5 ⟨A5, k5, c5, fg5, rfl, -, hL5, hm5, hf5⟩
    have D5 := hide (D4.out.step1 hL5 hm5 hf5)
    have RA5 := hide (RA4.out.step1 hm5 hf5)
    have O5' := hide (show Ops w5 Aa ca X by obtain ⟨A, c, e, h⟩ := RA5.out.own.ops; cases e; exact h)
    clear hL5 hm5 hf5 K4 D4 RA4 O4
    have Bz := (Below.refl w5.heap.size w5).alloc (Nat.le_refl _) (.cells #[] 50)
    have BZ := hide Bz
    have OE := hide (show OwnOps (w5.alloc (.cells #[] 50)) w5.heap.size (.slice (some ⟨w5.heap.size, 0, none⟩) 0 0) [] from own_empty5 w5)
    have O6 := hide (O5'.out.below Bz)
    have NC := hide (RA5.out.own.nc)
    clear Bz O5'
    go_wp2_with (at_builtin; refine wpList_append_ops _ rfl _ _ rfl w5.heap.size _ [] rfl OE.out Aa ca X rfl O6.out NC.out (by simp; omega) BZ.out.size ?_)
    intro Al cl w6 hown hgr hob
    have hown : OwnOps w6 w5.heap.size (.slice Al X.length cl) X := hown
    have B6 := hide (BZ.out.grown hgr BZ.out.size (fun k hk => by simp [Value.ownBlock] at hk; omega))
    have RL6 := hide hown
    have F6 := hide (show Four9 w2 w6 g q 1000 1000 L [] fg5 fq4 (.slice Aa X.length ca) X (.slice Al X.length cl) X from ⟨D5.out.below B6.out, RA5.out.below B6.out, Row9.new D5.out hown⟩)
    clear hown hgr hob OE O6 BZ NC D5 RA5 RL6 B6
    obtain ⟨kk, hkk⟩ : ∃ kk : Nat, (fi : Int) % ((X.length : Int) + 1) = (kk : Int) := ⟨((fi : Int) % ((X.length : Int) + 1)).toNat, by have := Int.emod_nonneg (fi : Int) (show (X.length : Int) + 1 ≠ 0 by omega); omega⟩
    have hkl : kk ≤ X.length := by have := Int.emod_lt_of_pos (fi : Int) (show (0 : Int) < (X.length : Int) + 1 by omega); omega
    obtain ⟨qq, hqq⟩ : ∃ qq : Nat, (X.length : Int) - (kk : Int) = (qq : Int) := ⟨X.length - kk, by omega⟩
    have hql : qq ≤ X.length := by omega
    obtain ⟨At, hTT, hOt, -⟩ := ops_tail (w := w6) (by obtain ⟨A, c, e, h⟩ := F6.out.rl.own.ops; cases e; exact h) qq hql
    have OT := hide hOt
    clear hOt
    have HOR := hide (Ord9.start X qq)
    have hym : (X.drop qq).length ≤ X.length := by rw [List.length_drop]; omega
    have YR := hide (show AllR (X.drop qq) from fun o ho => XR.out o (List.mem_of_mem_drop ho))
    have YN := hide (show ∀ o ∈ X.drop qq, o.l.length ≤ maxLen from fun o ho => XN.out o (List.mem_of_mem_drop ho))
    generalize X.drop qq = Y at HOR hym YR YN OT hTT
    have hpm : (putO [] Y).length ≤ 24 := by
      have h5 : (putO [] Y).length ≤ ([] : List O5).length + Y.length := putF_most (f := ocF) Y []
      rw [List.length_nil] at h5
      omega
    have K7 := hide (put_fits w2 E2.out q 1000 [] fq4 At (cl - qq) Y YR.out YN.out (by simp; omega) (by omega) w6 F6.out.duo.rgt OT.out)
    generalize putO [] Y = M0 at HOR hpm K7
    simp only [List.length_nil, Nat.sub_zero] at K7
    clear hown
    go_wp2_with fail
    refine K7.out.mono ?_
    rintro e w7 ⟨A7, k7, c7, fq7, rfl, -, hL7, hm7, hf7⟩
    have F7 := hide (F6.out.step2 hL7 hm7 hf7)
    have S7 := hide (show OpoRel w2 g q L X fg5 (.slice Aa X.length ca) (.slice Al X.length cl) (.int .i64 0) w7 from ⟨0, Al, cl, M0, X, fq7, by simp, rfl, rfl, F7.out, HOR.out⟩)
    clear hL7 hm7 hf7 K7 F6 F7 OT hTT HOR hkk hqq hkl hql hpm
    go_wp2_with fail
    go_loopw [16, 21] (OpoRel w2 g q L X fg5 (.slice Aa X.length ca)) (fun _ i _ => X.length - (intOf i).toNat)
    case atStart => exact S7.out
    case round =>
      clear S7
      obtain ⟨k, A, c, M, R, fh, hk, rfl, rfl, hF, hO⟩ := hrel
      have F := hide hF
      have HO := hide hO
      have HKR := hide hk
      have hkr : k ≤ X.length := by omega
      have hrx : R.length ≤ X.length := by omega
      clear hF hO hk
      by_cases hlt : 0 < R.length
      · have i1 : (R.length : Int) > 0 := by omega
        go_upto_if 82 with (fail)
        go_cut [22] (fun s22 wx => ∃ at' : Nat, at' < R.length ∧ s22 = .int .i64 (at' : Int) ∧ wx = wr)
        case first =>
          by_cases hk1 : k < len1
          · obtain ⟨b, o, z, rfl, hz, hc⟩ := KB1.out wr (B2.out.trans (F.out.duo.lft.bel.mono B2.out.size)) k hk1
            have j1 : (k : Int) < (len1 : Int) := by omega
            have j0 : (0 : Int) ≤ (k : Int) := by omega
            have j2 : (z : Int) % (R.length : Int) = ((z % R.length : Nat) : Int) := by omega
            have j3 : ((R.length : Int) == 0) = false := by simp only [beq_eq_false_iff_ne, ne_eq]; omega
            go_wp2_with fail
            go_meet
            exact ⟨z % R.length, Nat.mod_lt _ hlt, by first | rfl | rw [j2], rfl⟩
          · have j1 : ¬ (k : Int) < (len1 : Int) := by omega
            go_wp2_with fail
            go_meet
            exact ⟨0, hlt, rfl, rfl⟩
        case rest =>
          obtain ⟨p, hp, rfl, rfl⟩ := hcut
          rename World => wx
          obtain ⟨b, o, rfl, hat⟩ := (show Ops wx A c R by obtain ⟨A', c', e, h⟩ := F.out.rl.own.ops; cases e; exact h).lit (by omega)
          obtain ⟨c0, c1, c2, c3, c4⟩ := hat.five p hp
          have HST := hide (HO.out.step hp)
          have HX := hide (HO.out.lft _ (List.getElem_mem hp))
          have hML := HO.out.len 24 (by omega)
          have j1 : (p : Int) < (R.length : Int) := by omega
          have j0 : (0 : Int) ≤ (p : Int) := by omega
          clear hat
          generalize R[p] = x at c0 c1 c2 c3 c4 HST HX
          have OR := hide (show AllR [x] from fun y hy => by rw [List.mem_singleton.1 hy]; exact XR.out _ HX.out)
          have ON := hide (show ∀ y ∈ [x], y.l.length ≤ maxLen from fun y hy => by rw [List.mem_singleton.1 hy]; exact XN.out _ HX.out)
          have Bz := (Below.refl wx.heap.size wx).alloc (Nat.le_refl _) (.cells #[.int .i64 x.n, .int .i64 x.r, .int .i64 x.d, .int .i64 x.t, .string (bs x.l)] 50)
          have FZ := hide (F.out.below Bz)
          have hpm := HST.out.len 24 (by omega)
          have KP := hide (put_fits w2 E2.out q 1000 M fh (some ⟨wx.heap.size, 0, none⟩) 1 [x] OR.out ON.out (by simp; omega) (by omega) _ FZ.out.duo.rgt (ops_new wx x))
          obtain ⟨M', hM'⟩ : ∃ M', putO M [x] = M' := ⟨_, rfl⟩
          rw [hM'] at KP HST hpm
          clear Bz hM'
          go_wp2_with fail
          refine KP.out.mono ?_
          rintro e w9 ⟨A9, k9, c9, fh9, rfl, -, hL9, hm9, hf9⟩
          have F9 := hide (FZ.out.step2 hL9 hm9 hf9)
          clear hL9 hm9 hf9 KP FZ F c0 c1 c2 c3 c4 OR ON
          have OA := hide (show Ops w9 (some ⟨b, o, none⟩) c R by obtain ⟨A', c', e, h⟩ := F9.out.rl.own.ops; cases e; exact h)
          have hmo := OA.out.le
          have hH := lops_head (some ⟨b, o, none⟩) R.length c p (by omega)
          obtain ⟨Au, hT, hOu, -⟩ := ops_tail OA.out (p + 1) (by omega)
          have HOu := hide hOu
          have HOt := hide (OA.out.head p)
          have HNu := hide (show Nc Au (c - (p + 1)) by
            intro e
            have h1 := hT w9
            rw [run_slice_l w9 _ _ _ _ lopUnder .i64 _ (by omega) (by omega), lopElem, lopSize] at h1
            simp [Result.andThen, sliced, e] at h1
            by_cases hcq : c = p + 1
            · omega
            · rw [if_neg hcq] at h1
              simp at h1)
          have e1 : ((p + 1 : Nat) : Int) = (p : Int) + 1 := by omega
          rw [e1] at hT
          have hw1 : IntKind.i64.wrap ((p : Int) + 1) = (p : Int) + 1 := by rw [IntKind.wrap_i64]; omega
          have HTL := hide (show (R.take p).length = p by rw [List.length_take]; omega)
          have HLEN := hide (show (R.take p ++ R.drop (p + 1)).length + 1 = R.length by rw [List.length_append, List.length_take, List.length_drop]; omega)
          clear hOu OA e1
          generalize R.drop (p + 1) = u at hT HOu HST HLEN
          generalize R.take p = t at HTL HOt HST HLEN
          obtain rfl : p = t.length := HTL.out.symm
          have HTU := hide (show t.length + u.length ≤ 1000000 by have := HLEN.out; rw [List.length_append] at this; omega)
          have Bd := (Below.refl w9.heap.size w9).drew.alloc (Nat.le_refl _) (.cells #[] 50)
          have OE := hide (show OwnOps (w9.drew.alloc (.cells #[] 50)) w9.heap.size (.slice (some ⟨w9.heap.size, 0, none⟩) 0 0) [] from own_empty5 w9.drew)
          have HOt1 := hide (HOt.out.below Bd)
          have BD := hide Bd
          clear Bd
          go_upto_region 22 with (fail)
          go_wp2_with fail
          go_region_held3 (fun _ => True)
            (first | exact trivial | go_keep)
            (first
              | (refine step_append_ops _ (by rfl) _ _ (by rfl) w9.heap.size (.slice (some ⟨w9.heap.size, 0, none⟩) 0 0) [] (by rfl) OE.out (some ⟨b, o, none⟩) c t (by rfl) HOt1.out (by intro h; cases h) (by have := HTU.out; simp; omega) BD.out.size ?_
                 intro A1 n1 wa hwa hga hoa
                 have BA := hide (BD.out.grown hga BD.out.size (fun k hk => by simp [Value.ownBlock] at hk; omega))
                 have OT1 := hide (show OwnOps wa w9.heap.size (.slice A1 t.length n1) t from hwa)
                 have HOu1 := hide (HOu.out.below BA.out)
                 clear hwa hga hoa)
              | (refine step_append_ops _ (by rfl) _ _ (by rfl) w9.heap.size (.slice A1 t.length n1) t (by rfl) OT1.out Au (c - (t.length + 1)) u (by rfl) HOu1.out HNu.out HTU.out BA.out.size ?_
                 intro A2 n2 wb hwb hgb hob
                 have BB := hide (BA.out.grown hgb BA.out.size (fun k hk => OT1.out.row k hk))
                 generalize hS : t ++ u = S at hwb hob HST HLEN ⊢
                 have OS := hide hwb
                 clear hwb hgb hob hS))
          have FN := hide (F9.out.row BB.out OS.out)
          have hlen2 : S.length < R.length := by have := HLEN.out; omega
          have HK2 := hide (show k + 1 + S.length = X.length by have := HLEN.out; have := HKR.out; omega)
          clear OE HOt1 BD BA OT1 HOu1 BB OS hH hT F9
          go_wp2_with fail
          go_roundw
          case rel => exact ⟨k + 1, A2, n2, M', S, fh9, HK2.out, by go_num, rfl, FN.out, HST.out⟩
          case measure => simp [intOf]; have := HK2.out; omega
      · have er : R = [] := List.length_eq_zero_iff.1 (by omega)
        subst er
        have HLM := hide (HL.out.symm.trans HO.out.done)
        obtain rfl := HLM.out
        have i1 : ¬ ((([] : List O5).length : Int) > 0) := by simp
        have HMX := hide (show ∀ x ∈ X, putO L [x] = L from fun x hx => putF_there ocF_order HO.out.srt (fun y hy => by
          rw [List.mem_singleton.1 hy]
          exact (HO.out.all x hx).elim id (fun h => by simp at h)))
        clear HLM hkr hrx hlt HO HKR
        go_upto_if 116 with (fail)
        go_cut [26] (fun _ wx => ∃ fh', Duo9 w2 wx g q 1000 1000 L L fg5 fh')
        case first =>
          by_cases hx : 0 < X.length
          · obtain ⟨b, o, rfl, hat⟩ := (show Ops wr Aa ca X by obtain ⟨A', c', e, h⟩ := F.out.ra.own.ops; cases e; exact h).lit (by omega)
            obtain ⟨p, hp⟩ : ∃ p, p = ag % X.length := ⟨_, rfl⟩
            have hpl : p < X.length := by rw [hp]; exact Nat.mod_lt _ hx
            have j2 : (ag : Int) % (X.length : Int) = (p : Int) := by rw [hp]; omega
            obtain ⟨c0, c1, c2, c3, c4⟩ := hat.five p hpl
            have HX := hide (List.getElem_mem hpl)
            have j0 : (0 : Int) ≤ (p : Int) := by omega
            have j1 : (p : Int) < (X.length : Int) := by omega
            have j3 : (X.length : Int) > 0 := by omega
            have j4 : ((X.length : Int) == 0) = false := by simp only [beq_eq_false_iff_ne, ne_eq]; omega
            clear hat hp
            generalize X[p] = x at c0 c1 c2 c3 c4 HX
            have OR := hide (show AllR [x] from fun y hy => by rw [List.mem_singleton.1 hy]; exact XR.out _ HX.out)
            have ON := hide (show ∀ y ∈ [x], y.l.length ≤ maxLen from fun y hy => by rw [List.mem_singleton.1 hy]; exact XN.out _ HX.out)
            have Bz := (Below.refl wr.heap.size wr).alloc (Nat.le_refl _) (.cells #[.int .i64 x.n, .int .i64 x.r, .int .i64 x.d, .int .i64 x.t, .string (bs x.l)] 50)
            have FZ := hide (F.out.duo.below Bz)
            have KP := hide (put_fits w2 E2.out q 1000 L fh (some ⟨wr.heap.size, 0, none⟩) 1 [x] OR.out ON.out (by simp; omega) (by rw [HMX.out x HX.out]; omega) _ FZ.out.rgt (ops_new wr x))
            rw [HMX.out x HX.out, Nat.sub_self] at KP
            clear Bz
            go_wp2_with fail
            refine KP.out.mono ?_
            rintro e w9 ⟨A9, k9, c9, fh9, rfl, hk9, hL9, hm9, hf9⟩
            obtain rfl : k9 = 0 := hk9 rfl
            have D9 := hide (FZ.out.step2 hL9 hm9 hf9)
            clear hk9 hL9 hm9 hf9 KP FZ F c0 c1 c2 c3 c4 OR ON
            go_wp2_with fail
            go_meet
            exact ⟨fh9, D9.out⟩
          · have j3 : ¬ (X.length : Int) > 0 := by omega
            go_wp2_with fail
            go_meet
            exact ⟨fh, F.out.duo⟩
        case rest =>
          obtain ⟨fh', hD⟩ := hcut
          rename World => wx
          have D := hide hD
          clear hD F HMX
          go_wp2_with fail
          refine (ltree_any g 1000 L fg5 (by omega) wx D.out.lft.lg).mono ?_
          rintro e wy ⟨b1, f1, rfl, hT1, -, hb1⟩
          have D1 := hide (D.out.below hb1)
          have T1 := hide hT1
          clear hT1 hb1 D
          go_wp2_with fail
          refine (ltree_any q 1000 L fh' (by omega) wy D1.out.rgt.lg).mono ?_
          rintro e wz ⟨b2, f2, rfl, hT2, -, hb2⟩
          have D2 := hide (D1.out.below hb2)
          have T2 := hide (T1.out.below hb2)
          have U2 := hide hT2
          clear hT2 hb2 D1 T1
          have hrl := runS_len L
          have HH := hide (runS_hst L)
          have hrk : (runS L).1.length ≤ 24 := by have := HH.out.len; omega
          have KA1 := hide (fun V (h : Below wz.heap.size wz V) => lall_any g 1000 L fg5 (by omega) V (D2.out.below h).lft.lg)
          have KA2 := hide (fun V (h : Below wz.heap.size wz V) => lall_any q 1000 L fh' (by omega) V (D2.out.below h).rgt.lg)
          have KB1 := hide (fun V (h : Below wz.heap.size wz V) => tall_any b1 (runS L).1 (runS L).2 f1 (by omega) V (T2.out.below h))
          have KB2 := hide (fun V (h : Below wz.heap.size wz V) => tall_any b2 (runS L).1 (runS L).2 f2 (by omega) V (U2.out.below h))
          have sl : (sortK (runS L).1).length ≤ 1000000 := by rw [sortK_length]; omega
          generalize sortK (runS L).1 = SK at KB1 KB2 sl
          have hLL : L.length ≤ 1000000 := by omega
          have BZ := hide (D2.out.lft.bel)
          clear T2 U2 D2 hrl HH hrk
          go_wp2_with fail
          refine (KA1.out _ (Below.refl _ _)).mono ?_
          rintro e wA ⟨vA, rfl, hown, hb⟩
          obtain ⟨Ax, cx, rfl, hO⟩ := hown.ops
          have ZA := hide hb
          have OA := hide hO
          clear hb hown hO
          go_wp2_with fail
          refine (KA2.out _ ZA.out).mono ?_
          rintro e wB ⟨vB, rfl, hown, hb⟩
          obtain ⟨Ay, cy, rfl, hO⟩ := hown.ops
          have ZB := hide (ZA.out.trans (hb.mono ZA.out.size))
          have OA2 := hide (OA.out.below hb)
          have OB := hide hO
          clear hb hown hO
          have KS := hide (sameOps_any Ax cx L Ay cy L wB hLL hLL OA2.out OB.out)
          rw [decide_eq_true (rfl : L = L)] at KS
          go_wp2_with fail
          refine KS.out.mono ?_
          rintro e wC ⟨rfl, hb⟩
          have ZC := hide (ZB.out.trans (hb.mono ZB.out.size))
          clear hb KS
          go_wp2_with fail
          refine (KB1.out _ ZC.out).mono ?_
          rintro e wD ⟨vD, rfl, hown, hb⟩
          have PD := hide hown.kids
          have ZD := hide (ZC.out.trans (hb.mono ZC.out.size))
          clear hb hown
          go_wp2_with fail
          refine (KB2.out _ ZD.out).mono ?_
          rintro e wE ⟨vE, rfl, hown, hb⟩
          have PD2 := hide (PD.out.below hb)
          have PE := hide hown.kids
          have ZE := hide (ZD.out.trans (hb.mono ZD.out.size))
          clear hb hown
          have KS := hide (ksame_any _ _ SK SK wE sl sl PD2.out PE.out)
          rw [decide_eq_true (rfl : SK = SK)] at KS
          go_wp2_with fail
          refine KS.out.mono ?_
          rintro e wF ⟨rfl, hb⟩
          have ZF := hide (ZE.out.trans (hb.mono ZE.out.size))
          clear hb KS
          have BF := hide (BZ.out.trans (ZF.out.mono BZ.out.size))
          clear OA OA2 OB PD PD2 PE
          go_wp2
          go_ret
          exact ⟨rfl, B1.out.trans ((B2.out.trans (BF.out.mono B2.out.size)).mono B1.out.size)⟩
  · have d1 : decide ((ts.length : Int) > 24) = true := by simp; omega
    clear h1
    go_wp2
    go_ret
    exact ⟨rfl, B1.out⟩
end Go.Proofs.YtimfeocaghccdaaGreatDoor
