/-
  PmapHigh returns true, if the program keeps the contracts. Condition: these.
-/
import Derived.Test.YtcckamajiebgeaaPMade
import Derived.Test.YtcckamajiebgeaaAppendB
namespace Go.Proofs.Ytcckamajiebgeaa
open Go.RowKit
set_option linter.unusedVariables false
set_option linter.unusedSimpArgs false
set_option maxRecDepth 100000

theorem dgN_ge : ∀ (d n : Nat), 2 ^ d ≤ n → d + 1 ≤ dgN n
  | 0, n, h => by
    rw [dgN_succ n (by simp at h; omega)]
    omega
  | d + 1, n, h => by
    have h2 : 2 ^ d ≤ n / 2 := by
      rw [Nat.pow_succ] at h
      omega
    have := dgN_ge d (n / 2) h2
    have hp : 0 < n := by
      have := Nat.two_pow_pos d
      omega
    rw [dgN_succ n hp]
    omega
theorem high_dg {T : Tr} (h : T.Bal) (hn : T.prs.length ≤ 60) : T.high ≤ 8 ∧ 2 * T.high ≤ 3 * dgN T.prs.length + 4 := by
  have h8 : T.high ≤ 8 := h.high_le (m := 8) (by show _ < mnN 9; have : mnN 9 = 88 := by decide
                                                 omega)
  refine ⟨h8, ?_⟩
  have hm := h.many
  have d0 := dgN_ge 0 T.prs.length
  have d1 := dgN_ge 1 T.prs.length
  have d2 := dgN_ge 2 T.prs.length
  have d3 := dgN_ge 3 T.prs.length
  have m3 := Tr.mnN_le (a := 3) (b := T.high)
  have m6 := Tr.mnN_le (a := 6) (b := T.high)
  have e3 : mnN 3 = 4 := by decide
  have e6 : mnN 6 = 20 := by decide
  by_cases q3 : 3 ≤ T.high
  · have := m3 q3
    by_cases q6 : 6 ≤ T.high
    · have := m6 q6
      omega
    · omega
  · omega
/-- A row of bytes of one's own can be read. -/
theorem Ub.of_own {W w : World} {base : Nat} {A : Option Addr} {n c : Nat} {l : List UInt8} (h : w.ownsRow base 5 1 (.slice A n c) l.length (bc l)) : n = l.length ∧ Ub W w A c l := by
  rcases h.2 with ⟨h1, h0⟩ | ⟨g, cap, cur, h1, h2, h3, h4, h5, h6, h7⟩
  · simp at h1
    obtain ⟨rfl, rfl, rfl⟩ := h1
    exact ⟨h0.symm, ⟨by omega, Nat.zero_le _, by omega⟩⟩
  · simp at h1
    obtain ⟨rfl, rfl, rfl⟩ := h1
    refine ⟨rfl, ⟨h4, h5, fun _ => ⟨g, 0, rfl, .inr ⟨cur, _, h3⟩, fun j hj => ?_⟩⟩⟩
    have := World.ownsRow.cells h (g := g) rfl j (.int .u8 l[j].toNat) (by simp [bc, hj])
    rwa [Addr.add_lit] at this
def KsRel (W : World) (m : Nat) (vk vi : Value) (wr : World) : Prop := ∃ ks : List UInt8, ks.length ≤ m ∧ vi = .int .i64 (ks.length : Int) ∧ wr.ownsRow W.heap.size 5 1 vk ks.length (bc ks) ∧ Below W.heap.size W wr
set_option maxHeartbeats 4000000 in
theorem pmapHigh_walk {P : MapPred} (H : MapOk P) (p : Option Addr) (len cap : Nat) (zs : List Int) (n way : Int) (W : World) (h : IsRow .u8 W p len cap zs) (hn : (Lit.int .u8 n).wf = true) (hw : (Lit.int .u8 way).wf = true) :
    Calls Try.prog 6 #[.slice p len cap, .int .u8 n, .int .u8 way] W (TrueRet W) := by
  have bn := bounds_u8 hn
  have bw := bounds_u8 hw
  obtain ⟨n, rfl⟩ : ∃ k : Nat, n = k := ⟨n.toNat, by omega⟩
  obtain ⟨way, rfl⟩ : ∃ k : Nat, way = k := ⟨way.toNat, by omega⟩
  have hb := ByteArg.of_row h
  generalize rowBytes zs len = l at hb
  obtain rfl := hb.leq
  have HB := hide hb
  have c1 := hb.ceq
  have c2 := hb.most
  unfold maxLen at c2
  clear h hn hw hb
  go_enter Try.func6, Try.ntmps6
  go_wp2_with fail
  refine (awake_any H W).mono ?_
  rintro e w1 ⟨rfl, hb1⟩
  have B1 := hide hb1
  clear hb1
  by_cases hl : l.length ≤ 60
  · obtain ⟨m, hm⟩ : ∃ m, n % 60 = m := ⟨_, rfl⟩
    have r1 : (n : Int) % 60 = (m : Int) := by omega
    have hm60 : m < 60 := by omega
    obtain ⟨q, hq⟩ : ∃ q, way % 3 = q := ⟨_, rfl⟩
    have r2 : (way : Int) % 3 = (q : Int) := by omega
    have hq3 : q < 3 := by omega
    have r3 : ((m : Int) % 256) = (m : Int) := by omega
    go_upto_region 5 with (fail)
    have HQ := hide hq3
    have HM6 := hide hm60
    have HLL := hide hl
    clear hq hm
    go_wp2_with fail
    go_loopw [8, 9] (KsRel W m) (fun _ i _ => m - (intOf i).toNat)
    case atStart => exact ⟨[], Nat.zero_le _, rfl, World.ownsRow_nil w1 W.heap.size _ _, B1.out⟩
    case round =>
      obtain ⟨ks, hk, rfl, ho, hb⟩ := hrel
      have HO := hide ho
      have HBB := hide hb
      have hsz := hb.size
      obtain ⟨ao, co, rfl⟩ := row_form ho
      clear ho hb
      by_cases hgo : ks.length < m ∧ 0 < q
      · obtain ⟨hlt, hq0⟩ := hgo
        by_cases hq1 : q = 1
        · subst hq1
          have hwu : IntKind.u8.wrap (ks.length : Int) = (ks.length : Int) := by rw [IntKind.wrap_u8]; omega
          have D1 := (Below.refl wr.heap.size wr).alloc (Nat.le_refl _) (.cells #[.int .u8 (ks.length : Int)] 5)
          have OA := hide (own_below HO.out D1)
          have NB := hide (Hnd.new wr [b8 ks.length] #[.int .u8 (ks.length : Int)] 1 1 rfl (by simp [bc, b8_toNat _ (show ks.length < 256 by omega)]))
          have B2 := hide (HBB.out.trans (D1.mono hsz))
          have hbs := B2.out.size
          have hm9 : ks.length + 1 ≤ 1000000 := by omega
          clear D1
          go_wp2_with (at_builtin; refine wpList_append_b _ rfl _ _ rfl W.heap.size (.slice ao ks.length co) ks.length ks rfl OA.out (some ⟨wr.heap.size, 0, none⟩) 1 1 [b8 (ks.length)] rfl rfl (by intro h; cases h) NB.out hm9 hbs ?_; intro v7 w7 hown7 hg7 _; have B7 := hide (B2.out.grown hg7 hbs (fun k hk => (World.ownsRow.lt OA.out k hk).1)); have HO7 := hide hown7; clear hown7 hg7)
          go_roundw
          case rel => exact ⟨ks ++ [b8 (ks.length)], by simp; omega, by simp, by rw [List.length_append]; exact HO7.out, B7.out⟩
          case measure => simp [intOf]; omega
        · have q1 : ((q : Int) == 1) = false := by simp; omega
          have hwi : IntKind.i64.wrap (200 - (ks.length : Int)) = 200 - (ks.length : Int) := wrap_in _ (by omega) (by omega)
          have hwu : IntKind.u8.wrap (200 - (ks.length : Int)) = 200 - (ks.length : Int) := by rw [IntKind.wrap_u8]; omega
          have D1 := (Below.refl wr.heap.size wr).alloc (Nat.le_refl _) (.cells #[.int .u8 (200 - (ks.length : Int))] 5)
          have OA := hide (own_below HO.out D1)
          have NB := hide (Hnd.new wr [b8 (200 - ks.length)] #[.int .u8 (200 - (ks.length : Int))] 1 1 rfl (by simp [bc, b8_toNat _ (show 200 - ks.length < 256 by omega)]; omega))
          have B2 := hide (HBB.out.trans (D1.mono hsz))
          have hbs := B2.out.size
          have hm9 : ks.length + 1 ≤ 1000000 := by omega
          clear D1
          go_wp2_with (at_builtin; refine wpList_append_b _ rfl _ _ rfl W.heap.size (.slice ao ks.length co) ks.length ks rfl OA.out (some ⟨wr.heap.size, 0, none⟩) 1 1 [b8 (200 - ks.length)] rfl rfl (by intro h; cases h) NB.out hm9 hbs ?_; intro v7 w7 hown7 hg7 _; have B7 := hide (B2.out.grown hg7 hbs (fun k hk => (World.ownsRow.lt OA.out k hk).1)); have HO7 := hide hown7; clear hown7 hg7)
          go_roundw
          case rel => exact ⟨ks ++ [b8 (200 - ks.length)], by simp; omega, by simp, by rw [List.length_append]; exact HO7.out, B7.out⟩
          case measure => simp [intOf]; omega
      · by_cases hq0 : q = 0
        case' pos =>
          subst hq0
          have HU := hide ((Ub.of_arg HB.out).keep (w' := wr) fun b hb => by
            rcases hb with ⟨h1, _⟩ | ⟨cs, z, h1⟩
            · exact HBB.out.block b h1
            · exact HBB.out.block b (Array.getElem?_eq_some_iff.1 h1).1)
          have hkl := HLL.out
          clear hgo HO hk
          go_upto_region 13 with (fail)
          all_goals
            clear HB HLL hl c1 c2 r1 r2 r3 hq3 HQ hm60 HM6
            generalize p = A2 at HU ⊢
            generalize cap = C2 at HU ⊢
            generalize l = L2 at HU hkl ⊢
        case' neg =>
          obtain rfl : ks.length = m := by omega
          have q0 : decide ((q : Int) > 0) = true := decide_eq_true (by omega)
          have q2 : ((q : Int) == 0) = false := by simp; omega
          have HU := hide (Ub.of_own (W := W) HO.out).2
          have hkl : ks.length ≤ 60 := by omega
          clear hgo HO hk hq0 q0
          go_upto_region 13 with (fail)
          all_goals
            clear HB HLL hl c1 c2 r1 r2 r3 hq3 HQ hm60 HM6
            generalize ao = A2 at HU ⊢
            generalize co = C2 at HU ⊢
            generalize ks = L2 at HU hkl ⊢
        all_goals
          have KN := hide (H.new W wr 4000 (by omega) HBB.out)
          unfold cmpV at KN
          go_wp2_with fail
          refine KN.out.mono ?_
          rintro e w2 ⟨gm, rfl, hp, hb⟩
          have HP := hide hp
          have HU2 := hide (HU.out.below hb)
          clear hp hb KN HU HBB
          have KM := hide (made_any H W w2 gm 4000 0 0 ⟨[], []⟩ A2 C2 L2 hkl (by omega) (by simp [Ar.live]) (by omega) HP.out HU2.out)
          clear HU2
          go_wp2_with fail
          refine KM.out.mono ?_
          rintro e w3 ⟨T, A, U, vw, rfl, hp3, hu3, hst, hprs, -, how, hub⟩
          obtain ⟨aw, cw, rfl⟩ := row_form how
          have HP3 := hide hp3
          have HST := hide hst
          have HPRS := hide hprs
          have HOW := hide how
          have hml := mkP_length L2 L2.length
          have hhd := high_dg hst.bal (by rw [hprs]; omega)
          rw [hprs] at hhd
          obtain ⟨h8, hdg⟩ := hhd
          obtain ⟨⟨t1, t2⟩, hrt⟩ : ∃ x, T.root = x := ⟨_, rfl⟩
          rw [hrt]
          clear hp3 hst hprs how hub KM HP
          go_upto_region 17 with (fail)
          have D := (Below.refl w3.heap.size w3).alloc (Nat.le_refl _) (.cells #[.int .i64 t1, .int .i64 t2] 28)
          have HX := hide (Hb.new w3 t1 t2)
          have HP4 := hide (H.below HP3.out D)
          have HOW4 := hide (HOW.out.below D)
          clear D HP3 HOW
          generalize w3.heap.size = k3 at HX ⊢
          generalize w3.alloc _ = w4 at HX HP4 HOW4 ⊢
          have KW := hide (walk_any gm A.get T HST.out.lies HST.out.bal (by rw [HPRS.out]; omega) 40 (by omega) (by omega) w4 (H.load HP4.out (by omega)))
          rw [hrt] at KW
          obtain ⟨x0, x1⟩ := HX.out.two
          go_wp2_with fail
          refine KW.out.mono ?_
          rintro e w5 ⟨vp, vh, rfl, ho, _, hb⟩
          rw [HPRS.out] at ho
          have HP5 := hide (H.below HP4.out hb)
          have HW5 := hide (HOW4.out.below hb)
          have HO5 := hide ho
          clear HP4 HOW4 hb KW HX x0 x1 ho HST HPRS hrt
          generalize mkP L2 L2.length = M at *
          generalize T.high = hh at *
          obtain ⟨ap, cp, rfl⟩ := row_form HO5.out
          obtain ⟨ah, ch, rfl⟩ : ∃ a c, vh = .slice a T.hds.length c := row_form (by assumption)
          have KD := hide (digits_any M.length (by omega) w5)
          have dl := dgN_le 17 M.length (by omega)
          go_wp2_with fail
          refine KD.out.mono ?_
          rintro e w6 ⟨rfl, hb⟩
          have HP6 := hide (H.below HP5.out hb)
          have HW6 := hide (HW5.out.below hb)
          have HO6 := hide (HO5.out.below hb)
          clear HP5 HW5 HO5 hb KD
          have KS := hide (psame_any ap cp M aw cw M (by omega) (by omega) w6 HO6.out.at HW6.out.at)
          rw [decide_eq_true rfl] at KS
          generalize dgN M.length = d at *
          have w2 : IntKind.i64.wrap (2 * (hh : Int)) = 2 * (hh : Int) := wrap_in _ (by omega) (by omega)
          have w3 : IntKind.i64.wrap (3 * (d : Int)) = 3 * (d : Int) := wrap_in _ (by omega) (by omega)
          have w4 : IntKind.i64.wrap (3 * (d : Int) + 4) = 3 * (d : Int) + 4 := wrap_in _ (by omega) (by omega)
          have d9 : decide (2 * (hh : Int) ≤ 3 * (d : Int) + 4) = true := decide_eq_true (by omega)
          clear hdg dl
          go_wp2_with fail
          refine KS.out.mono ?_
          rintro e w7 ⟨rfl, hb⟩
          have BF := hide ((H.bel HP6.out).trans (hb.mono (H.bel HP6.out).size))
          clear HP6 HW6 HO6 hb KS
          go_wp2_with fail
          go_ret
          exact ⟨by simp, BF.out⟩
  · have d0 : decide ((l.length : Int) > 60) = true := decide_eq_true (by omega)
    go_wp2_with fail
    go_ret
    exact ⟨rfl, B1.out⟩
end Go.Proofs.Ytcckamajiebgeaa
