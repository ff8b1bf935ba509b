/-
  The walk of WireTurned. Conditions: those of the statement.
-/
import Derived.Test.YteibkipcblmikaaDoorM8
import Derived.Test.YteibkipcblmikaaDoorWTiny
import Derived.Test.YteibkipcblmikaaDoorWTurnPure
import Derived.Test.YteibkipcblmikaaDoorWQDec
import Derived.Deep.CutRange
import Derived.StillTailTactics
import Derived.Laws.BitsAllLaws
import Derived.LoopTactic
import Derived.Lib.Walk
namespace Go.Proofs.YteibkipcblmikaaDoor
open Go.RowKit
set_option linter.unusedVariables false
set_option maxRecDepth 100000

theorem bit_test (y i : Nat) (hy : y < 4294967296) : (bits .and .u32 ((y : Int) / 2 ^ i) 1 == 1) = y.testBit i := by
  have hd : y / 2 ^ i < 4294967296 := Nat.lt_of_le_of_lt (Nat.div_le_self _ _) hy
  have e := u32_and_nat (y / 2 ^ i) 1 hd (by omega)
  rw [show ((y / 2 ^ i : Nat) : Int) = (y : Int) / 2 ^ i by rw [Int.natCast_ediv]; simp, show ((1 : Nat) : Int) = 1 by rfl, Nat.and_one_is_mod] at e
  rw [e, Nat.testBit_eq_decide_div_mod_eq]
  by_cases h : y / 2 ^ i % 2 = 1
  · rw [h]; simp
  · rw [decide_eq_false h]
    simp only [beq_eq_false_iff_ne, ne_eq]
    omega
theorem pow_mod (r : Nat) (hr : r < 8) : ((2 ^ r : Nat) : Int) = (2 : Int) ^ r % 256 := by
  have h := pow_lt r hr
  have e : (2 : Int) ^ r = ((2 ^ r : Nat) : Int) := by simp
  rw [e]
  generalize 2 ^ r = t at h
  omega
theorem set_behind (N X : List UInt8) (q : Nat) (z : UInt8) : (N ++ X).set (N.length + q) z = N ++ X.set q z := by
  rw [List.set_append_right _ _ (by omega)]
  congr 2
  omega
theorem turn_nums (L F Wn : Nat) (h : L = F + Wn) (hw : Wn ≤ 4004) (hF : F ≤ 2) (h6 : 6 ≤ Wn) : ∃ bt : Nat, wrap64 ((L : Int) - (F : Int)) = (Wn : Int) ∧ wrap64 (8 * (Wn : Int)) = (bt : Int) ∧ bt = 8 * Wn ∧ ((bt : Int) == 0) = false := by
  refine ⟨8 * Wn, ?_, ?_, rfl, ?_⟩
  · rw [wrap64_in _ (by omega) (by omega)]; omega
  · rw [wrap64_in _ (by omega) (by omega)]; omega
  · simp only [beq_eq_false_iff_ne, ne_eq]; omega
/-- After i bits. -/
def TurnRel (w : World) (N W : List UInt8) (n k y gc cc : Nat) (a b : Value) (wr : World) : Prop :=
  ∃ i : Nat, b = .int .i64 i ∧ i ≤ 32 ∧ k + i ≤ 8 * W.length ∧ a = .bool (turnB y i) ∧
    wr.ownsRow w.heap.size 5 1 (.slice (some ⟨gc, 0, none⟩) n cc) n (bc (N ++ turnL W k y i)) ∧ Below w.heap.size w wr
set_option maxHeartbeats 2000000 in
theorem wireTurned_in (a : Option Addr) (cap : Nat) (t : List T5) (p y c : Nat) (a' : Option Addr) (cap' : Nat) (mo : List UInt8) (w : World) (hT : Tns w a cap t) (hK : ∀ x ∈ t, x.ok) (hp : p < 65536) (hy : y < 4294967296) (hc : c < 65536) (hM : Hnd w (.slice a' mo.length cap') mo) (hA : a' = none → cap' = 0) (hE : Env w)
    (h1 : t.length ≤ 20) (h2 : mo.length ≤ 20) (h3 : mo ≠ []) :
    Calls Tryd.prog 6 #[.slice a t.length cap, .int .u16 p, .int .u32 y, .int .u16 c, .slice a' mo.length cap'] w (TrueRet w) := by
  have HT := hide hT
  have HK := hide hK
  have HM := hide hM
  have HA := hide hA
  have HE := hide hE
  have HO := hide (ofT_ok t (by omega))
  have H3 := hide h3
  have hmp : ((mo.length : Int) == 0) = false := by
    have := List.length_pos_iff.2 h3
    simp only [beq_eq_false_iff_ne, ne_eq]; omega
  have d1 : decide ((t.length : Int) > 20) = false := by simp; omega
  have d2 : decide ((mo.length : Int) > 20) = false := by simp; omega
  clear hT hK hM hA hE h3
  go_enter Tryd.func6, Tryd.ntmps6
  go_wp2_with fail
  refine (wAwake_any w HE.out).mono ?_
  rintro e w1 ⟨rfl, hb⟩
  have B1 := hide hb
  clear hb
  go_wp2_with fail
  clear d1 d2 hmp
  refine (all_any a cap t w1 (by omega) HK.out (HT.out.below B1.out)).mono ?_
  rintro e w2 ⟨v2, rfl, hown, hb⟩
  obtain ⟨A2, c2, rfl, p2⟩ := hown.ops
  have P2 := hide p2
  have B2 := hide (B1.out.trans (hb.mono B1.out.size))
  have HN := hide (ofT_name t)
  have na : (t.map ofT).length ≤ 1000000 := by rw [List.length_map]; omega
  clear hown hb p2 B1 HK HT
  have KE := hide (encode_any A2 c2 (t.map ofT) w2 na HN.out (HE.out.below B2.out) P2.out)
  rw [show encB (t.map ofT) = wEnc (t.map ofT) from if_pos HO.out, show encE (t.map ofT) = 0 from if_pos HO.out] at KE
  generalize t.map ofT = os at KE HO ⊢
  obtain ⟨x, N, hN, hW, hx, hx0, hNl, hW6, hWm⟩ := enc_head HO.out
  have HDT := hide (fun k i h hi => @dec_turn os HO.out k y i h hi)
  have HDS := hide (@dec_short os HO.out)
  have HDM := hide (dec_more HO.out mo H3.out)
  rw [← hN] at HDT
  rw [hW] at KE hx0 HDS HDM
  clear hN hW P2 HN na HO
  generalize wAll os = W at KE hx0 HDS HDM HDT hW6 hWm
  go_wp2_with fail
  refine KE.out.mono ?_
  rintro e w3 ⟨v3, rfl, hown, hb⟩
  have B3 := hide (B2.out.trans (hb.mono B2.out.size))
  have LL : (N ++ W).length = N.length + W.length := List.length_append
  have hNle : N.length ≤ 2 := by rw [hNl]; split <;> omega
  have hN1 : 1 ≤ N.length := by rw [hNl]; split <;> omega
  obtain ⟨gb, cb, rfl, hgb, hcell⟩ := own_some hown (by omega)
  have c0 : w3.cell? ⟨gb, 0, none⟩ = some (.int .u8 (x : Int)) := hcell 0 _ hx0
  have O3 := hide hown
  have R3 := hide (RSl.of_own hown)
  have HL := hide LL
  have hL7 : 7 ≤ (N ++ W).length := by omega
  have hLm : (N ++ W).length ≤ 4010 := by omega
  generalize hLL : (N ++ W).length = L at O3 HL hL7 hLm R3 HDS HDM ⊢
  have HLN := hide hLL
  have d7 : decide ((L : Int) < 7) = false := by simp; omega
  have HX0 := hide hx0
  clear hown hb hcell LL KE B2 hx0 hLL
  have HNl := hide hNl
  clear hNl
  by_cases h128 : 128 ≤ x
  · have hg : decide ((x : Int) ≥ 128) = true := by simp; omega
    have HF0 := hide (show N.length = 2 by rw [HNl.out, if_pos h128])
    go_upto_region 10 with (fail)
    clear hg d7 c0 HNl
    obtain ⟨F, hF⟩ : ∃ F, F = N.length := ⟨_, rfl⟩
    rw [show Value.int IntKind.i64 2 = .int .i64 ((F : Nat) : Int) by rw [hF, HF0.out]; rfl]
    have hF2 : F ≤ 2 := by omega
    have hFW : L = F + W.length := by rw [hF]; exact HL.out
    obtain ⟨bt, hb3⟩ : ∃ bt, bt = 8 * W.length := ⟨_, rfl⟩
    obtain ⟨k, hk⟩ : ∃ k, k = p % bt := ⟨_, rfl⟩
    have HB1 := hide (show 8 * ((L : Int) - (F : Int)) = (bt : Int) by omega)
    have HB2 := hide (show (p : Int) % (bt : Int) = (k : Int) by rw [hk]; rfl)
    have hkb : k < bt := by rw [hk]; exact Nat.mod_lt _ (by omega)
    have HF := hide hF
    have HFW := hide hFW
    have HBT := hide hb3
    have hbtm : bt ≤ 40000 := by omega
    clear hF hFW hb3 h128 HF0 hk
    go_upto_region 12 with (fail)
    rw [HB1.out, HB2.out]
    clear HB1 HB2
    have N0 : Hid (some (⟨gb, 0, none⟩ : Addr) = none → cb = 0) := hide (fun h => by cases h)
    have C1 := hide ((Below.refl w3.heap.size w3).alloc (Nat.le_refl _) (.cells #[] 5))
    have H0 := hide (Hnd.of_RSl (R3.out.below C1.out))
    go_wp2_with (at_builtin; refine wpList_append_b _ rfl _ _ rfl w3.heap.size _ 0 [] rfl (own_new0 w3 w3.heap.size (Nat.le_refl _)) (some ⟨gb, 0, none⟩) L cb (N ++ W) rfl HLN.out N0.out H0.out (by omega) (by simp) ?_)
    intro v2 w4 hown hg hv2
    obtain ⟨gc, cc, rfl, hgc, hgc2⟩ := own_form hown (fun e => by have := hv2 e; cases this)
    have B4 := hide (C1.out.grown hg (by simp) (fun q hq => by simp [Value.ownBlock] at hq; omega))
    have O4 : Hid (w4.ownsRow w3.heap.size 5 1 (.slice (some ⟨gc, 0, none⟩) L cc) L (bc (N ++ W))) := hide (by simpa using hown)
    clear hown hg hv2 C1 H0 N0
    go_wp2_with fail
    go_loopw [18, 19] (TurnRel w3 N W L k y gc cc) (fun _ b _ => 32 - (intOf b).toNat)
    case atStart => exact ⟨0, rfl, by omega, by have := HBT.out; omega, by rw [turnB_zero], O4.out, B4.out⟩
    case round =>
      obtain ⟨i, rfl, hi, hki, rfl, hown, hbr⟩ := hrel
      have OR := hide hown
      have BR := hide hbr
      have BW := hide (B3.out.trans (hbr.mono B3.out.size))
      have sr := hbr.size
      clear hown hbr O4 B4
      by_cases h32 : i < 32
      · by_cases hlt : k + i < bt
        · cases hb : y.testBit i with
          | true =>
            have fb := bit_test y i hy
            rw [hb] at fb
            have hlw : k + i < 8 * W.length := by have := HBT.out; omega
            have hlq : (k + i) / 8 < (turnL W k y i).length := by rw [turnL_length]; omega
            have SY := hide (turnL_yes W k y i hb)
            have SB := hide (turnB_yes y i hb)
            have SS := hide (fun z => set_behind N (turnL W k y i) ((k + i) / 8) z)
            have hmL : F + (k + i) / 8 < L := by rw [HFW.out]; omega
            have cx := (OR.out.cellAt (F + (k + i) / 8) (by omega)).trans (show (bc (N ++ turnL W k y i))[F + (k + i) / 8]? = some (.int .u8 (((turnL W k y i).getD ((k + i) / 8) 0).toNat : Int)) by
              rw [HF.out, bc, List.map_append, List.getElem?_append_right (by simp)]
              simp [List.getD, hlq])
            have zx := OR.out.frozenAt (F + (k + i) / 8)
            have x1 : IntKind.i64.wrap ((k : Int) + (i : Int)) = (k : Int) + (i : Int) := IntWalk.i64_in _ (by omega)
            have hq : (k + i) / 8 < W.length := by omega
            have hr : (k + i) % 8 < 8 := by omega
            have x2 : ((k : Int) + (i : Int)).tdiv 8 = (((k + i) / 8 : Nat) : Int) := by rw [Int.tdiv_eq_ediv_of_nonneg (by omega)]; omega
            have x3 : ((k : Int) + (i : Int)).tmod 8 = (((k + i) % 8 : Nat) : Int) := by rw [Int.tmod_eq_emod_of_nonneg (by omega)]; omega
            have x5 : IntKind.i64.wrap ((F : Int) + (((k + i) / 8 : Nat) : Int)) = ((F + (k + i) / 8 : Nat) : Int) := by rw [IntWalk.i64_in _ (by omega)]; omega
            have x6 : (F : Int) + (((k + i) / 8 : Nat) : Int) = ((F + (k + i) / 8 : Nat) : Int) := by omega
            have hu := ((turnL W k y i).getD ((k + i) / 8) 0).toNat_lt
            have ef := hide (flip_toNat ((turnL W k y i).getD ((k + i) / 8) 0) ((k + i) % 8) hr)
            have ex := u8_xor_nat ((turnL W k y i).getD ((k + i) / 8) 0).toNat (2 ^ ((k + i) % 8)) (by omega) (pow_lt _ hr)
            rw [← ef.out] at ex
            rw [← HF.out] at SS
            clear hlq hb ef
            revert SY cx zx x2 x3 x5 x6 hu ex hq hr hmL SS
            generalize flip ((turnL W k y i).getD ((k + i) / 8) 0) ((k + i) % 8) = z
            generalize (turnL W k y i).getD ((k + i) / 8) 0 = x
            generalize (k + i) / 8 = q
            generalize (k + i) % 8 = r
            generalize hm : F + q = m
            intro SY SS hmL cx zx hq hr x2 x3 x5 x6 hu ex
            have HMM := hide hm
            have x7 : IntKind.i64.wrap (q : Int) = (q : Int) := IntWalk.i64_in _ (by omega)
            have x9 : IntKind.i64.wrap (m : Int) = (m : Int) := IntWalk.i64_in _ (by omega)
            have hmI : (m : Int) < (L : Int) := by omega
            have x8 : IntKind.i64.wrap (r : Int) = (r : Int) := IntWalk.i64_in _ (by omega)
            rw [pow_mod r hr] at ex
            clear hm
            go_wp2_with fail
            go_still_tail 23, (by kernel_rfl)
            change wpList _ _ _ _ _ wr.drew
            have cx' : wr.drew.cell? ⟨gc, m, none⟩ = some (.int .u8 (x.toNat : Int)) := cx
            have zx' : wr.drew.frozen? ⟨gc, m, none⟩ = false := zx
            have OD := hide OR.out.drew
            have BD := hide BR.out.drew
            have sd : w3.heap.size ≤ wr.drew.heap.size := sr
            clear cx zx OR BR BW sr
            generalize wr.drew = wd at cx' zx' OD BD sd ⊢
            go_wp2_with fail
            obtain ⟨o4, g4⟩ := own_stored OD.out m z _ rfl
            rw [SS.out, ← SY.out] at o4
            have O5' := hide o4
            have B5 := hide (BD.out.grown g4 sd (fun q hq => by injection hq with hq; omega))
            clear o4 g4 OD BD cx' zx' ex SY fb SS
            generalize wd.setCell ⟨gc, m, none⟩ (.int .u8 (z.toNat : Int)) = w9 at O5' B5 ⊢
            go_wp2_with fail
            go_roundw
            case rel => exact ⟨i + 1, by go_num, by omega, by omega, by rw [SB.out], O5'.out, B5.out⟩
            case measure => simp [intOf]; omega
          | false =>
            have fb := bit_test y i hy
            rw [hb] at fb
            have SY := hide (turnL_no W k y i hb)
            have SB := hide (turnB_no y i hb)
            clear hb
            go_wp2_with fail
            go_roundw
            case rel => exact ⟨i + 1, by go_num, by omega, by have := HBT.out; omega, by rw [SB.out], by rw [SY.out]; exact OR.out, BR.out⟩
            case measure => simp [intOf]; omega
        · have dlt : decide ((k : Int) + (i : Int) < (bt : Int)) = false := by simp; omega
          have hXl : (N ++ turnL W k y i).length = L := by rw [List.length_append, turnL_length, ← HF.out]; exact HFW.out.symm
          have HIs := hide (HDT.out k i hki hi)
          have RC := hide (RSl.of_own (show wr.ownsRow w3.heap.size 5 1 (.slice (some ⟨gc, 0, none⟩) (N ++ turnL W k y i).length cc) (N ++ turnL W k y i).length (bc (N ++ turnL W k y i)) by rw [hXl]; exact OR.out))
          obtain ⟨A9, c9, e9, _, f2, f3⟩ := RC.out.form
          rw [hXl] at RC f2
          injection e9 with e91 e92 e93
          subst e93
          have HXl := hide hXl
          generalize N ++ turnL W k y i = X at RC HIs HXl
          generalize turnB y i = tb at HIs
          clear OR e91 e92 hXl
          have F2 := hide f2
          have F3 := hide f3
          clear f2 f3
          go_wp2_with fail
          have KD := hide (decode_any (some ⟨gc, 0, none⟩) cc X wr (by rw [HXl.out]; omega) (by rw [HXl.out]; exact F2.out) F3.out (HE.out.below BW.out) (by rw [HXl.out]; exact Hnd.of_RSl RC.out))
          rw [HXl.out] at KD
          refine KD.out.mono ?_
          rintro e w5 ⟨v5, rfl, _, hb⟩
          have B5 := hide (BW.out.trans (hb.mono BW.out.size))
          have R5 := hide ((R3.out.below BR.out).below hb)
          have hif : (if (dec? X).isSome = true then (0 : Int) else 3) = (if tb = true then 3 else 0) := by rw [HIs.out]; cases tb <;> rfl
          rw [hif]
          obtain ⟨qf, hqf⟩ : ∃ qf : Int, qf = (if tb = true then 3 else 0) := ⟨_, rfl⟩
          rw [← hqf]
          have hq0 : (qf == 0) = !tb := by rw [hqf]; cases tb <;> rfl
          clear hif hqf hb KD RC BR
          obtain ⟨q, hq⟩ : ∃ q, q = c % L := ⟨_, rfl⟩
          have hql : q < L := by rw [hq]; exact Nat.mod_lt _ (by omega)
          have hcq : (c : Int) % (L : Int) = (q : Int) := by rw [hq]; rfl
          have hlz : ((L : Int) == 0) = false := by simp only [beq_eq_false_iff_ne, ne_eq]; omega
          obtain ⟨A8, c8, e8, _, f2, f3⟩ := R5.out.form
          rw [HLN.out] at f2 e8
          injection e8 with e81 e82 e83
          subst e83
          have r1 := fun W => run_head_any (some ⟨gb, 0, none⟩) L cb q (by omega) W
          have HTk := hide (show ((N ++ W).take q).length = q by rw [List.length_take, HLN.out]; omega)
          have KD := hide (decode_any (some ⟨gb, 0, none⟩) cb ((N ++ W).take q) w5 (by rw [HTk.out]; omega) (by rw [HTk.out]; omega) f3 (HE.out.below B5.out) (by rw [HTk.out]; exact (Hnd.of_RSl R5.out).head q (by omega)))
          rw [HTk.out, HDS.out q hql] at KD
          clear e81 e82 hq
          go_wp2_with fail
          refine KD.out.mono ?_
          rintro e w6 ⟨v6, rfl, _, hb⟩
          have B6 := hide (B5.out.trans (hb.mono B5.out.size))
          have R6 := hide (R5.out.below hb)
          have N6 : Hid (some (⟨gb, 0, none⟩ : Addr) = none → cb = 0) := hide (fun h => by cases h)
          clear hb KD r1 hcq hlz HTk R5 f2 f3
          have s6 := B6.out.size
          have bz := (Below.refl w6.heap.size w6).alloc (Nat.le_refl _) (.cells #[] 5)
          have C6 := hide (B6.out.alloc s6 (.cells #[] 5))
          have R7 := hide (by have := R6.out.below bz; exact Hnd.of_RSl this)
          have O6 := hide (own_new0 w6 w6.heap.size (Nat.le_refl _))
          have z6 : w6.heap.size ≤ (w6.alloc (.cells #[] 5)).heap.size := bz.size
          clear bz
          generalize hw6 : w6.alloc (.cells #[] 5) = w6' at C6 R7 O6 z6
          have hz6 : ∀ o, o = w6.heap.size → o = w6.heap.size := fun _ h => h
          clear hz6
          go_wp2_with (at_builtin; refine wpList_append_b _ rfl _ _ rfl w6.heap.size _ 0 [] rfl O6.out (some ⟨gb, 0, none⟩) L cb (N ++ W) rfl HLN.out N6.out R7.out (by omega) z6 ?_)
          intro v7 w7 hown7 hg7 _
          have B7 := hide (C6.out.grown hg7 (by omega) (fun k hk => by have := own_row O6.out k hk; omega))
          have O7 : Hid (w7.ownsRow w6.heap.size 5 1 v7 L (bc (N ++ W))) := hide (by simpa using hown7)
          have z7 := hg7.size
          have M7 := hide (HM.out.below B7.out)
          clear hown7 hg7 C6 O6 R7 hw6
          go_wp2_with (at_builtin; refine wpList_append_b _ rfl _ _ rfl w6.heap.size _ L (N ++ W) rfl O7.out a' mo.length cap' mo rfl rfl HA.out M7.out (by omega) (by omega) ?_)
          intro v8 w8 hown8 hg8 _
          have B8 := hide (B7.out.grown hg8 (by omega) (fun k hk => by have := own_row O7.out k hk; omega))
          have HL8 := hide (show (N ++ W ++ mo).length = L + mo.length by rw [List.length_append, HLN.out])
          have O8 : Hid (w8.ownsRow w6.heap.size 5 1 v8 (N ++ W ++ mo).length (bc (N ++ W ++ mo))) := hide (by rw [HL8.out, List.append_assoc]; exact hown8)
          obtain ⟨A8', c8', rfl, _, f2, f3⟩ := (RSl.of_own O8.out).form
          have KD := hide (decode_any A8' c8' (N ++ W ++ mo) w8 (by rw [HL8.out]; omega) f2 f3 (HE.out.below B8.out) (Hnd.of_RSl (RSl.of_own O8.out)))
          rw [HDM.out] at KD
          generalize (N ++ W ++ mo).length = L8 at KD ⊢
          clear hown8 hg8 f2 f3 B7 O7 M7 O8 HL8
          go_wp2_with fail
          refine KD.out.mono ?_
          rintro e w9 ⟨v9, rfl, _, hb⟩
          have B9 := hide (B8.out.trans (hb.mono B8.out.size))
          clear hb KD
          have hnn : ((!tb) == (!tb)) = true := by simp
          go_wp2
          go_ret
          exact ⟨by simp, B9.out⟩
      · have dlt : decide ((i : Int) < 32) = false := by simp; omega
        have hXl : (N ++ turnL W k y i).length = L := by rw [List.length_append, turnL_length, ← HF.out]; exact HFW.out.symm
        have HIs := hide (HDT.out k i hki hi)
        have RC := hide (RSl.of_own (show wr.ownsRow w3.heap.size 5 1 (.slice (some ⟨gc, 0, none⟩) (N ++ turnL W k y i).length cc) (N ++ turnL W k y i).length (bc (N ++ turnL W k y i)) by rw [hXl]; exact OR.out))
        obtain ⟨A9, c9, e9, _, f2, f3⟩ := RC.out.form
        rw [hXl] at RC f2
        injection e9 with e91 e92 e93
        subst e93
        have HXl := hide hXl
        generalize N ++ turnL W k y i = X at RC HIs HXl
        generalize turnB y i = tb at HIs
        clear OR e91 e92 hXl
        have F2 := hide f2
        have F3 := hide f3
        clear f2 f3
        go_wp2_with fail
        have KD := hide (decode_any (some ⟨gc, 0, none⟩) cc X wr (by rw [HXl.out]; omega) (by rw [HXl.out]; exact F2.out) F3.out (HE.out.below BW.out) (by rw [HXl.out]; exact Hnd.of_RSl RC.out))
        rw [HXl.out] at KD
        refine KD.out.mono ?_
        rintro e w5 ⟨v5, rfl, _, hb⟩
        have B5 := hide (BW.out.trans (hb.mono BW.out.size))
        have R5 := hide ((R3.out.below BR.out).below hb)
        have hif : (if (dec? X).isSome = true then (0 : Int) else 3) = (if tb = true then 3 else 0) := by rw [HIs.out]; cases tb <;> rfl
        rw [hif]
        obtain ⟨qf, hqf⟩ : ∃ qf : Int, qf = (if tb = true then 3 else 0) := ⟨_, rfl⟩
        rw [← hqf]
        have hq0 : (qf == 0) = !tb := by rw [hqf]; cases tb <;> rfl
        clear hif hqf hb KD RC BR
        obtain ⟨q, hq⟩ : ∃ q, q = c % L := ⟨_, rfl⟩
        have hql : q < L := by rw [hq]; exact Nat.mod_lt _ (by omega)
        have hcq : (c : Int) % (L : Int) = (q : Int) := by rw [hq]; rfl
        have hlz : ((L : Int) == 0) = false := by simp only [beq_eq_false_iff_ne, ne_eq]; omega
        obtain ⟨A8, c8, e8, _, f2, f3⟩ := R5.out.form
        rw [HLN.out] at f2 e8
        injection e8 with e81 e82 e83
        subst e83
        have r1 := fun W => run_head_any (some ⟨gb, 0, none⟩) L cb q (by omega) W
        have HTk := hide (show ((N ++ W).take q).length = q by rw [List.length_take, HLN.out]; omega)
        have KD := hide (decode_any (some ⟨gb, 0, none⟩) cb ((N ++ W).take q) w5 (by rw [HTk.out]; omega) (by rw [HTk.out]; omega) f3 (HE.out.below B5.out) (by rw [HTk.out]; exact (Hnd.of_RSl R5.out).head q (by omega)))
        rw [HTk.out, HDS.out q hql] at KD
        clear e81 e82 hq
        go_wp2_with fail
        refine KD.out.mono ?_
        rintro e w6 ⟨v6, rfl, _, hb⟩
        have B6 := hide (B5.out.trans (hb.mono B5.out.size))
        have R6 := hide (R5.out.below hb)
        have N6 : Hid (some (⟨gb, 0, none⟩ : Addr) = none → cb = 0) := hide (fun h => by cases h)
        clear hb KD r1 hcq hlz HTk R5 f2 f3
        have s6 := B6.out.size
        have bz := (Below.refl w6.heap.size w6).alloc (Nat.le_refl _) (.cells #[] 5)
        have C6 := hide (B6.out.alloc s6 (.cells #[] 5))
        have R7 := hide (by have := R6.out.below bz; exact Hnd.of_RSl this)
        have O6 := hide (own_new0 w6 w6.heap.size (Nat.le_refl _))
        have z6 : w6.heap.size ≤ (w6.alloc (.cells #[] 5)).heap.size := bz.size
        clear bz
        generalize hw6 : w6.alloc (.cells #[] 5) = w6' at C6 R7 O6 z6
        have hz6 : ∀ o, o = w6.heap.size → o = w6.heap.size := fun _ h => h
        clear hz6
        go_wp2_with (at_builtin; refine wpList_append_b _ rfl _ _ rfl w6.heap.size _ 0 [] rfl O6.out (some ⟨gb, 0, none⟩) L cb (N ++ W) rfl HLN.out N6.out R7.out (by omega) z6 ?_)
        intro v7 w7 hown7 hg7 _
        have B7 := hide (C6.out.grown hg7 (by omega) (fun k hk => by have := own_row O6.out k hk; omega))
        have O7 : Hid (w7.ownsRow w6.heap.size 5 1 v7 L (bc (N ++ W))) := hide (by simpa using hown7)
        have z7 := hg7.size
        have M7 := hide (HM.out.below B7.out)
        clear hown7 hg7 C6 O6 R7 hw6
        go_wp2_with (at_builtin; refine wpList_append_b _ rfl _ _ rfl w6.heap.size _ L (N ++ W) rfl O7.out a' mo.length cap' mo rfl rfl HA.out M7.out (by omega) (by omega) ?_)
        intro v8 w8 hown8 hg8 _
        have B8 := hide (B7.out.grown hg8 (by omega) (fun k hk => by have := own_row O7.out k hk; omega))
        have HL8 := hide (show (N ++ W ++ mo).length = L + mo.length by rw [List.length_append, HLN.out])
        have O8 : Hid (w8.ownsRow w6.heap.size 5 1 v8 (N ++ W ++ mo).length (bc (N ++ W ++ mo))) := hide (by rw [HL8.out, List.append_assoc]; exact hown8)
        obtain ⟨A8', c8', rfl, _, f2, f3⟩ := (RSl.of_own O8.out).form
        have KD := hide (decode_any A8' c8' (N ++ W ++ mo) w8 (by rw [HL8.out]; omega) f2 f3 (HE.out.below B8.out) (Hnd.of_RSl (RSl.of_own O8.out)))
        rw [HDM.out] at KD
        generalize (N ++ W ++ mo).length = L8 at KD ⊢
        clear hown8 hg8 f2 f3 B7 O7 M7 O8 HL8
        go_wp2_with fail
        refine KD.out.mono ?_
        rintro e w9 ⟨v9, rfl, _, hb⟩
        have B9 := hide (B8.out.trans (hb.mono B8.out.size))
        clear hb KD
        have hnn : ((!tb) == (!tb)) = true := by simp
        go_wp2
        go_ret
        exact ⟨by simp, B9.out⟩
  · have hg : decide ((x : Int) ≥ 128) = false := by simp; omega
    have HF0 := hide (show N.length = 1 by rw [HNl.out, if_neg h128])
    go_upto_region 10 with (fail)
    clear hg d7 c0 HNl
    obtain ⟨F, hF⟩ : ∃ F, F = N.length := ⟨_, rfl⟩
    rw [show Value.int IntKind.i64 1 = .int .i64 ((F : Nat) : Int) by rw [hF, HF0.out]; rfl]
    have hF2 : F ≤ 2 := by omega
    have hFW : L = F + W.length := by rw [hF]; exact HL.out
    obtain ⟨bt, hb3⟩ : ∃ bt, bt = 8 * W.length := ⟨_, rfl⟩
    obtain ⟨k, hk⟩ : ∃ k, k = p % bt := ⟨_, rfl⟩
    have HB1 := hide (show 8 * ((L : Int) - (F : Int)) = (bt : Int) by omega)
    have HB2 := hide (show (p : Int) % (bt : Int) = (k : Int) by rw [hk]; rfl)
    have hkb : k < bt := by rw [hk]; exact Nat.mod_lt _ (by omega)
    have HF := hide hF
    have HFW := hide hFW
    have HBT := hide hb3
    have hbtm : bt ≤ 40000 := by omega
    clear hF hFW hb3 h128 HF0 hk
    go_upto_region 12 with (fail)
    rw [HB1.out, HB2.out]
    clear HB1 HB2
    have N0 : Hid (some (⟨gb, 0, none⟩ : Addr) = none → cb = 0) := hide (fun h => by cases h)
    have C1 := hide ((Below.refl w3.heap.size w3).alloc (Nat.le_refl _) (.cells #[] 5))
    have H0 := hide (Hnd.of_RSl (R3.out.below C1.out))
    go_wp2_with (at_builtin; refine wpList_append_b _ rfl _ _ rfl w3.heap.size _ 0 [] rfl (own_new0 w3 w3.heap.size (Nat.le_refl _)) (some ⟨gb, 0, none⟩) L cb (N ++ W) rfl HLN.out N0.out H0.out (by omega) (by simp) ?_)
    intro v2 w4 hown hg hv2
    obtain ⟨gc, cc, rfl, hgc, hgc2⟩ := own_form hown (fun e => by have := hv2 e; cases this)
    have B4 := hide (C1.out.grown hg (by simp) (fun q hq => by simp [Value.ownBlock] at hq; omega))
    have O4 : Hid (w4.ownsRow w3.heap.size 5 1 (.slice (some ⟨gc, 0, none⟩) L cc) L (bc (N ++ W))) := hide (by simpa using hown)
    clear hown hg hv2 C1 H0 N0
    go_wp2_with fail
    go_loopw [18, 19] (TurnRel w3 N W L k y gc cc) (fun _ b _ => 32 - (intOf b).toNat)
    case atStart => exact ⟨0, rfl, by omega, by have := HBT.out; omega, by rw [turnB_zero], O4.out, B4.out⟩
    case round =>
      obtain ⟨i, rfl, hi, hki, rfl, hown, hbr⟩ := hrel
      have OR := hide hown
      have BR := hide hbr
      have BW := hide (B3.out.trans (hbr.mono B3.out.size))
      have sr := hbr.size
      clear hown hbr O4 B4
      by_cases h32 : i < 32
      · by_cases hlt : k + i < bt
        · cases hb : y.testBit i with
          | true =>
            have fb := bit_test y i hy
            rw [hb] at fb
            have hlw : k + i < 8 * W.length := by have := HBT.out; omega
            have hlq : (k + i) / 8 < (turnL W k y i).length := by rw [turnL_length]; omega
            have SY := hide (turnL_yes W k y i hb)
            have SB := hide (turnB_yes y i hb)
            have SS := hide (fun z => set_behind N (turnL W k y i) ((k + i) / 8) z)
            have hmL : F + (k + i) / 8 < L := by rw [HFW.out]; omega
            have cx := (OR.out.cellAt (F + (k + i) / 8) (by omega)).trans (show (bc (N ++ turnL W k y i))[F + (k + i) / 8]? = some (.int .u8 (((turnL W k y i).getD ((k + i) / 8) 0).toNat : Int)) by
              rw [HF.out, bc, List.map_append, List.getElem?_append_right (by simp)]
              simp [List.getD, hlq])
            have zx := OR.out.frozenAt (F + (k + i) / 8)
            have x1 : IntKind.i64.wrap ((k : Int) + (i : Int)) = (k : Int) + (i : Int) := IntWalk.i64_in _ (by omega)
            have hq : (k + i) / 8 < W.length := by omega
            have hr : (k + i) % 8 < 8 := by omega
            have x2 : ((k : Int) + (i : Int)).tdiv 8 = (((k + i) / 8 : Nat) : Int) := by rw [Int.tdiv_eq_ediv_of_nonneg (by omega)]; omega
            have x3 : ((k : Int) + (i : Int)).tmod 8 = (((k + i) % 8 : Nat) : Int) := by rw [Int.tmod_eq_emod_of_nonneg (by omega)]; omega
            have x5 : IntKind.i64.wrap ((F : Int) + (((k + i) / 8 : Nat) : Int)) = ((F + (k + i) / 8 : Nat) : Int) := by rw [IntWalk.i64_in _ (by omega)]; omega
            have x6 : (F : Int) + (((k + i) / 8 : Nat) : Int) = ((F + (k + i) / 8 : Nat) : Int) := by omega
            have hu := ((turnL W k y i).getD ((k + i) / 8) 0).toNat_lt
            have ef := hide (flip_toNat ((turnL W k y i).getD ((k + i) / 8) 0) ((k + i) % 8) hr)
            have ex := u8_xor_nat ((turnL W k y i).getD ((k + i) / 8) 0).toNat (2 ^ ((k + i) % 8)) (by omega) (pow_lt _ hr)
            rw [← ef.out] at ex
            rw [← HF.out] at SS
            clear hlq hb ef
            revert SY cx zx x2 x3 x5 x6 hu ex hq hr hmL SS
            generalize flip ((turnL W k y i).getD ((k + i) / 8) 0) ((k + i) % 8) = z
            generalize (turnL W k y i).getD ((k + i) / 8) 0 = x
            generalize (k + i) / 8 = q
            generalize (k + i) % 8 = r
            generalize hm : F + q = m
            intro SY SS hmL cx zx hq hr x2 x3 x5 x6 hu ex
            have HMM := hide hm
            have x7 : IntKind.i64.wrap (q : Int) = (q : Int) := IntWalk.i64_in _ (by omega)
            have x9 : IntKind.i64.wrap (m : Int) = (m : Int) := IntWalk.i64_in _ (by omega)
            have hmI : (m : Int) < (L : Int) := by omega
            have x8 : IntKind.i64.wrap (r : Int) = (r : Int) := IntWalk.i64_in _ (by omega)
            rw [pow_mod r hr] at ex
            clear hm
            go_wp2_with fail
            go_still_tail 23, (by kernel_rfl)
            change wpList _ _ _ _ _ wr.drew
            have cx' : wr.drew.cell? ⟨gc, m, none⟩ = some (.int .u8 (x.toNat : Int)) := cx
            have zx' : wr.drew.frozen? ⟨gc, m, none⟩ = false := zx
            have OD := hide OR.out.drew
            have BD := hide BR.out.drew
            have sd : w3.heap.size ≤ wr.drew.heap.size := sr
            clear cx zx OR BR BW sr
            generalize wr.drew = wd at cx' zx' OD BD sd ⊢
            go_wp2_with fail
            obtain ⟨o4, g4⟩ := own_stored OD.out m z _ rfl
            rw [SS.out, ← SY.out] at o4
            have O5' := hide o4
            have B5 := hide (BD.out.grown g4 sd (fun q hq => by injection hq with hq; omega))
            clear o4 g4 OD BD cx' zx' ex SY fb SS
            generalize wd.setCell ⟨gc, m, none⟩ (.int .u8 (z.toNat : Int)) = w9 at O5' B5 ⊢
            go_wp2_with fail
            go_roundw
            case rel => exact ⟨i + 1, by go_num, by omega, by omega, by rw [SB.out], O5'.out, B5.out⟩
            case measure => simp [intOf]; omega
          | false =>
            have fb := bit_test y i hy
            rw [hb] at fb
            have SY := hide (turnL_no W k y i hb)
            have SB := hide (turnB_no y i hb)
            clear hb
            go_wp2_with fail
            go_roundw
            case rel => exact ⟨i + 1, by go_num, by omega, by have := HBT.out; omega, by rw [SB.out], by rw [SY.out]; exact OR.out, BR.out⟩
            case measure => simp [intOf]; omega
        · have dlt : decide ((k : Int) + (i : Int) < (bt : Int)) = false := by simp; omega
          have hXl : (N ++ turnL W k y i).length = L := by rw [List.length_append, turnL_length, ← HF.out]; exact HFW.out.symm
          have HIs := hide (HDT.out k i hki hi)
          have RC := hide (RSl.of_own (show wr.ownsRow w3.heap.size 5 1 (.slice (some ⟨gc, 0, none⟩) (N ++ turnL W k y i).length cc) (N ++ turnL W k y i).length (bc (N ++ turnL W k y i)) by rw [hXl]; exact OR.out))
          obtain ⟨A9, c9, e9, _, f2, f3⟩ := RC.out.form
          rw [hXl] at RC f2
          injection e9 with e91 e92 e93
          subst e93
          have HXl := hide hXl
          generalize N ++ turnL W k y i = X at RC HIs HXl
          generalize turnB y i = tb at HIs
          clear OR e91 e92 hXl
          have F2 := hide f2
          have F3 := hide f3
          clear f2 f3
          go_wp2_with fail
          have KD := hide (decode_any (some ⟨gc, 0, none⟩) cc X wr (by rw [HXl.out]; omega) (by rw [HXl.out]; exact F2.out) F3.out (HE.out.below BW.out) (by rw [HXl.out]; exact Hnd.of_RSl RC.out))
          rw [HXl.out] at KD
          refine KD.out.mono ?_
          rintro e w5 ⟨v5, rfl, _, hb⟩
          have B5 := hide (BW.out.trans (hb.mono BW.out.size))
          have R5 := hide ((R3.out.below BR.out).below hb)
          have hif : (if (dec? X).isSome = true then (0 : Int) else 3) = (if tb = true then 3 else 0) := by rw [HIs.out]; cases tb <;> rfl
          rw [hif]
          obtain ⟨qf, hqf⟩ : ∃ qf : Int, qf = (if tb = true then 3 else 0) := ⟨_, rfl⟩
          rw [← hqf]
          have hq0 : (qf == 0) = !tb := by rw [hqf]; cases tb <;> rfl
          clear hif hqf hb KD RC BR
          obtain ⟨q, hq⟩ : ∃ q, q = c % L := ⟨_, rfl⟩
          have hql : q < L := by rw [hq]; exact Nat.mod_lt _ (by omega)
          have hcq : (c : Int) % (L : Int) = (q : Int) := by rw [hq]; rfl
          have hlz : ((L : Int) == 0) = false := by simp only [beq_eq_false_iff_ne, ne_eq]; omega
          obtain ⟨A8, c8, e8, _, f2, f3⟩ := R5.out.form
          rw [HLN.out] at f2 e8
          injection e8 with e81 e82 e83
          subst e83
          have r1 := fun W => run_head_any (some ⟨gb, 0, none⟩) L cb q (by omega) W
          have HTk := hide (show ((N ++ W).take q).length = q by rw [List.length_take, HLN.out]; omega)
          have KD := hide (decode_any (some ⟨gb, 0, none⟩) cb ((N ++ W).take q) w5 (by rw [HTk.out]; omega) (by rw [HTk.out]; omega) f3 (HE.out.below B5.out) (by rw [HTk.out]; exact (Hnd.of_RSl R5.out).head q (by omega)))
          rw [HTk.out, HDS.out q hql] at KD
          clear e81 e82 hq
          go_wp2_with fail
          refine KD.out.mono ?_
          rintro e w6 ⟨v6, rfl, _, hb⟩
          have B6 := hide (B5.out.trans (hb.mono B5.out.size))
          have R6 := hide (R5.out.below hb)
          have N6 : Hid (some (⟨gb, 0, none⟩ : Addr) = none → cb = 0) := hide (fun h => by cases h)
          clear hb KD r1 hcq hlz HTk R5 f2 f3
          have s6 := B6.out.size
          have bz := (Below.refl w6.heap.size w6).alloc (Nat.le_refl _) (.cells #[] 5)
          have C6 := hide (B6.out.alloc s6 (.cells #[] 5))
          have R7 := hide (by have := R6.out.below bz; exact Hnd.of_RSl this)
          have O6 := hide (own_new0 w6 w6.heap.size (Nat.le_refl _))
          have z6 : w6.heap.size ≤ (w6.alloc (.cells #[] 5)).heap.size := bz.size
          clear bz
          generalize hw6 : w6.alloc (.cells #[] 5) = w6' at C6 R7 O6 z6
          have hz6 : ∀ o, o = w6.heap.size → o = w6.heap.size := fun _ h => h
          clear hz6
          go_wp2_with (at_builtin; refine wpList_append_b _ rfl _ _ rfl w6.heap.size _ 0 [] rfl O6.out (some ⟨gb, 0, none⟩) L cb (N ++ W) rfl HLN.out N6.out R7.out (by omega) z6 ?_)
          intro v7 w7 hown7 hg7 _
          have B7 := hide (C6.out.grown hg7 (by omega) (fun k hk => by have := own_row O6.out k hk; omega))
          have O7 : Hid (w7.ownsRow w6.heap.size 5 1 v7 L (bc (N ++ W))) := hide (by simpa using hown7)
          have z7 := hg7.size
          have M7 := hide (HM.out.below B7.out)
          clear hown7 hg7 C6 O6 R7 hw6
          go_wp2_with (at_builtin; refine wpList_append_b _ rfl _ _ rfl w6.heap.size _ L (N ++ W) rfl O7.out a' mo.length cap' mo rfl rfl HA.out M7.out (by omega) (by omega) ?_)
          intro v8 w8 hown8 hg8 _
          have B8 := hide (B7.out.grown hg8 (by omega) (fun k hk => by have := own_row O7.out k hk; omega))
          have HL8 := hide (show (N ++ W ++ mo).length = L + mo.length by rw [List.length_append, HLN.out])
          have O8 : Hid (w8.ownsRow w6.heap.size 5 1 v8 (N ++ W ++ mo).length (bc (N ++ W ++ mo))) := hide (by rw [HL8.out, List.append_assoc]; exact hown8)
          obtain ⟨A8', c8', rfl, _, f2, f3⟩ := (RSl.of_own O8.out).form
          have KD := hide (decode_any A8' c8' (N ++ W ++ mo) w8 (by rw [HL8.out]; omega) f2 f3 (HE.out.below B8.out) (Hnd.of_RSl (RSl.of_own O8.out)))
          rw [HDM.out] at KD
          generalize (N ++ W ++ mo).length = L8 at KD ⊢
          clear hown8 hg8 f2 f3 B7 O7 M7 O8 HL8
          go_wp2_with fail
          refine KD.out.mono ?_
          rintro e w9 ⟨v9, rfl, _, hb⟩
          have B9 := hide (B8.out.trans (hb.mono B8.out.size))
          clear hb KD
          have hnn : ((!tb) == (!tb)) = true := by simp
          go_wp2
          go_ret
          exact ⟨by simp, B9.out⟩
      · have dlt : decide ((i : Int) < 32) = false := by simp; omega
        have hXl : (N ++ turnL W k y i).length = L := by rw [List.length_append, turnL_length, ← HF.out]; exact HFW.out.symm
        have HIs := hide (HDT.out k i hki hi)
        have RC := hide (RSl.of_own (show wr.ownsRow w3.heap.size 5 1 (.slice (some ⟨gc, 0, none⟩) (N ++ turnL W k y i).length cc) (N ++ turnL W k y i).length (bc (N ++ turnL W k y i)) by rw [hXl]; exact OR.out))
        obtain ⟨A9, c9, e9, _, f2, f3⟩ := RC.out.form
        rw [hXl] at RC f2
        injection e9 with e91 e92 e93
        subst e93
        have HXl := hide hXl
        generalize N ++ turnL W k y i = X at RC HIs HXl
        generalize turnB y i = tb at HIs
        clear OR e91 e92 hXl
        have F2 := hide f2
        have F3 := hide f3
        clear f2 f3
        go_wp2_with fail
        have KD := hide (decode_any (some ⟨gc, 0, none⟩) cc X wr (by rw [HXl.out]; omega) (by rw [HXl.out]; exact F2.out) F3.out (HE.out.below BW.out) (by rw [HXl.out]; exact Hnd.of_RSl RC.out))
        rw [HXl.out] at KD
        refine KD.out.mono ?_
        rintro e w5 ⟨v5, rfl, _, hb⟩
        have B5 := hide (BW.out.trans (hb.mono BW.out.size))
        have R5 := hide ((R3.out.below BR.out).below hb)
        have hif : (if (dec? X).isSome = true then (0 : Int) else 3) = (if tb = true then 3 else 0) := by rw [HIs.out]; cases tb <;> rfl
        rw [hif]
        obtain ⟨qf, hqf⟩ : ∃ qf : Int, qf = (if tb = true then 3 else 0) := ⟨_, rfl⟩
        rw [← hqf]
        have hq0 : (qf == 0) = !tb := by rw [hqf]; cases tb <;> rfl
        clear hif hqf hb KD RC BR
        obtain ⟨q, hq⟩ : ∃ q, q = c % L := ⟨_, rfl⟩
        have hql : q < L := by rw [hq]; exact Nat.mod_lt _ (by omega)
        have hcq : (c : Int) % (L : Int) = (q : Int) := by rw [hq]; rfl
        have hlz : ((L : Int) == 0) = false := by simp only [beq_eq_false_iff_ne, ne_eq]; omega
        obtain ⟨A8, c8, e8, _, f2, f3⟩ := R5.out.form
        rw [HLN.out] at f2 e8
        injection e8 with e81 e82 e83
        subst e83
        have r1 := fun W => run_head_any (some ⟨gb, 0, none⟩) L cb q (by omega) W
        have HTk := hide (show ((N ++ W).take q).length = q by rw [List.length_take, HLN.out]; omega)
        have KD := hide (decode_any (some ⟨gb, 0, none⟩) cb ((N ++ W).take q) w5 (by rw [HTk.out]; omega) (by rw [HTk.out]; omega) f3 (HE.out.below B5.out) (by rw [HTk.out]; exact (Hnd.of_RSl R5.out).head q (by omega)))
        rw [HTk.out, HDS.out q hql] at KD
        clear e81 e82 hq
        go_wp2_with fail
        refine KD.out.mono ?_
        rintro e w6 ⟨v6, rfl, _, hb⟩
        have B6 := hide (B5.out.trans (hb.mono B5.out.size))
        have R6 := hide (R5.out.below hb)
        have N6 : Hid (some (⟨gb, 0, none⟩ : Addr) = none → cb = 0) := hide (fun h => by cases h)
        clear hb KD r1 hcq hlz HTk R5 f2 f3
        have s6 := B6.out.size
        have bz := (Below.refl w6.heap.size w6).alloc (Nat.le_refl _) (.cells #[] 5)
        have C6 := hide (B6.out.alloc s6 (.cells #[] 5))
        have R7 := hide (by have := R6.out.below bz; exact Hnd.of_RSl this)
        have O6 := hide (own_new0 w6 w6.heap.size (Nat.le_refl _))
        have z6 : w6.heap.size ≤ (w6.alloc (.cells #[] 5)).heap.size := bz.size
        clear bz
        generalize hw6 : w6.alloc (.cells #[] 5) = w6' at C6 R7 O6 z6
        have hz6 : ∀ o, o = w6.heap.size → o = w6.heap.size := fun _ h => h
        clear hz6
        go_wp2_with (at_builtin; refine wpList_append_b _ rfl _ _ rfl w6.heap.size _ 0 [] rfl O6.out (some ⟨gb, 0, none⟩) L cb (N ++ W) rfl HLN.out N6.out R7.out (by omega) z6 ?_)
        intro v7 w7 hown7 hg7 _
        have B7 := hide (C6.out.grown hg7 (by omega) (fun k hk => by have := own_row O6.out k hk; omega))
        have O7 : Hid (w7.ownsRow w6.heap.size 5 1 v7 L (bc (N ++ W))) := hide (by simpa using hown7)
        have z7 := hg7.size
        have M7 := hide (HM.out.below B7.out)
        clear hown7 hg7 C6 O6 R7 hw6
        go_wp2_with (at_builtin; refine wpList_append_b _ rfl _ _ rfl w6.heap.size _ L (N ++ W) rfl O7.out a' mo.length cap' mo rfl rfl HA.out M7.out (by omega) (by omega) ?_)
        intro v8 w8 hown8 hg8 _
        have B8 := hide (B7.out.grown hg8 (by omega) (fun k hk => by have := own_row O7.out k hk; omega))
        have HL8 := hide (show (N ++ W ++ mo).length = L + mo.length by rw [List.length_append, HLN.out])
        have O8 : Hid (w8.ownsRow w6.heap.size 5 1 v8 (N ++ W ++ mo).length (bc (N ++ W ++ mo))) := hide (by rw [HL8.out, List.append_assoc]; exact hown8)
        obtain ⟨A8', c8', rfl, _, f2, f3⟩ := (RSl.of_own O8.out).form
        have KD := hide (decode_any A8' c8' (N ++ W ++ mo) w8 (by rw [HL8.out]; omega) f2 f3 (HE.out.below B8.out) (Hnd.of_RSl (RSl.of_own O8.out)))
        rw [HDM.out] at KD
        generalize (N ++ W ++ mo).length = L8 at KD ⊢
        clear hown8 hg8 f2 f3 B7 O7 M7 O8 HL8
        go_wp2_with fail
        refine KD.out.mono ?_
        rintro e w9 ⟨v9, rfl, _, hb⟩
        have B9 := hide (B8.out.trans (hb.mono B8.out.size))
        clear hb KD
        have hnn : ((!tb) == (!tb)) = true := by simp
        go_wp2
        go_ret
        exact ⟨by simp, B9.out⟩
set_option maxHeartbeats 1000000 in
theorem wireTurned_out (a : Option Addr) (cap : Nat) (n : Nat) (p y c : Int) (a' : Option Addr) (m cap' : Nat) (w : World) (hE : Env w) (h : 20 < n ∨ 20 < m ∨ m = 0) :
    Calls Tryd.prog 6 #[.slice a n cap, .int .u16 p, .int .u32 y, .int .u16 c, .slice a' m cap'] w (TrueRet w) := by
  have HE := hide hE
  clear hE
  go_enter Tryd.func6, Tryd.ntmps6
  go_wp2_with fail
  refine (wAwake_any w HE.out).mono ?_
  rintro e w1 ⟨rfl, hb⟩
  have B1 := hide hb
  clear hb
  by_cases h1 : 20 < n
  · have d1 : decide ((n : Int) > 20) = true := by simp; omega
    clear h
    go_wp2
    go_ret
    exact ⟨rfl, B1.out⟩
  · have d1 : decide ((n : Int) > 20) = false := by simp; omega
    by_cases h2 : 20 < m
    · have d2 : decide ((m : Int) > 20) = true := by simp; omega
      clear h
      go_wp2
      go_ret
      exact ⟨rfl, B1.out⟩
    · have d2 : decide ((m : Int) > 20) = false := by simp; omega
      obtain rfl : m = 0 := by omega
      clear h
      go_wp2
      go_ret
      exact ⟨rfl, B1.out⟩
theorem IsRow.capn {k : IntKind} {w : World} {a : Option Addr} {len cap : Nat} {zs : List Int} (h : IsRow k w a len cap zs) : a = none → cap = 0 := by
  rcases h with ⟨_, _, rfl, _⟩ | ⟨x, rfl, _⟩
  · intro _; rfl
  · intro h; cases h
theorem wireTurned_walk (a : Option Addr) (len cap : Nat) (t : List T5) (p y c : Int) (a' : Option Addr) (len' cap' : Nat) (zs : List Int) (w : World) (h : IsTns w a len cap t) (hp : (Lit.int .u16 p).wf = true) (hy : (Lit.int .u32 y).wf = true) (hc : (Lit.int .u16 c).wf = true) (h' : IsRow .u8 w a' len' cap' zs) (hE : Env w) :
    Calls Tryd.prog 6 #[.slice a len cap, .int .u16 p, .int .u32 y, .int .u16 c, .slice a' len' cap'] w (TrueRet w) := by
  obtain ⟨rfl, ht, hk⟩ := h
  have hB := ByteArg.of_row h'
  have hcap := IsRow.capn h'
  generalize rowBytes zs len' = mo at hB
  obtain rfl := hB.leq
  by_cases h1 : t.length ≤ 20
  · by_cases h2 : mo.length ≤ 20
    · by_cases h3 : mo = []
      · exact wireTurned_out a cap t.length p y c a' mo.length cap' w hE (.inr (.inr (by rw [h3]; rfl)))
      · have bp := bounds_u16 hp
        have by' := bounds_u32 hy
        have bc' := bounds_u16 hc
        have k := wireTurned_in a cap t p.toNat y.toNat c.toNat a' cap' mo w ht hk (by omega) (by omega) (by omega) hB.hnd hcap hE h1 h2 h3
        rwa [show ((p.toNat : Nat) : Int) = p by omega, show ((y.toNat : Nat) : Int) = y by omega, show ((c.toNat : Nat) : Int) = c by omega] at k
    · exact wireTurned_out a cap t.length p y c a' mo.length cap' w hE (.inr (.inl (by omega)))
  · exact wireTurned_out a cap t.length p y c a' mo.length cap' w hE (.inl (by omega))
end Go.Proofs.YteibkipcblmikaaDoor
