/-
  PmapPlays returns true, if the program keeps the contracts. Condition: these.
-/
import Derived.Test.YtcckamajiebgeaaPVq
namespace Go.Proofs.Ytcckamajiebgeaa
open Go.RowKit
set_option linter.unusedVariables false
set_option linter.unusedSimpArgs false
set_option maxRecDepth 100000

/-- Behind all acts: all versions are looked at. -/
structure Ve (P : MapPred) (W w : World) (gm : Nat) (vr vw : Value) (vs : List Value) (Ts : List Tr) (A : Ar) (U : Nat) : Prop where
  pm : P W w gm 2000 U A
  uu : U ≤ 30000
  st : ∀ T ∈ Ts, Stands A T ∧ T.prs.length ≤ 30
  roots : OwnH w W.heap.size vr (Ts.map Tr.root)
  wants : Ws w W.heap.size vw vs (Ts.map Tr.prs)
theorem Ve.below {P : MapPred} (H : MapOk P) {W w w' : World} {gm : Nat} {vr vw : Value} {vs : List Value} {Ts : List Tr} {A : Ar} {U : Nat} (h : Ve P W w gm vr vw vs Ts A U) (hb : Below w.heap.size w w') : Ve P W w' gm vr vw vs Ts A U :=
  ⟨H.below h.pm hb, h.uu, h.st, h.roots.below hb, h.wants.below hb⟩
def VeRel (P : MapPred) (W : World) (gm : Nat) (vr vw : Value) (vs : List Value) (Ts : List Tr) (A : Ar) (U : Nat) (vi : Value) (w : World) : Prop := ∃ i, i ≤ Ts.length ∧ vi = .int .i64 (i : Int) ∧ Ve P W w gm vr vw vs Ts A U
theorem OwnH.new1 (w : World) (B : Nat) (hB : B ≤ w.heap.size) (s t : Int) : OwnH (w.alloc (.cells #[.int .i64 s, .int .i64 t] 28)) B (.slice (some ⟨w.heap.size, 0, none⟩) 1 1) [(s, t)] :=
  ⟨rfl, .inr ⟨w.heap.size, 1, _, rfl, hB, heap_alloc_new w _, Nat.le_refl _, by decide, rfl, rfl⟩⟩
theorem Ws.new1 (w : World) (B : Nat) (hB : B ≤ w.heap.size) : Ws (w.alloc (.cells #[.slice none 0 0] 35)) B (.slice (some ⟨w.heap.size, 0, none⟩) 1 1) [.slice none 0 0] [[]] := by
  refine ⟨⟨rfl, .inr ⟨w.heap.size, 1, _, rfl, hB, heap_alloc_new w _, Nat.le_refl _, by decide, rfl, rfl⟩⟩, rfl, fun i v l h1 h2 => ?_⟩
  rcases i with _ | i
  · simp at h1 h2
    subst h1 h2
    exact OwnP.nil _ _
  · simp at h1
theorem Vp.start {P : MapPred} (H : MapOk P) {W w : World} {gm : Nat} (hp : P W w gm 2000 0 ⟨[], []⟩) :
    Vp P W ((w.alloc (.cells #[.int .i64 0, .int .i64 0] 28)).alloc (.cells #[.slice none 0 0] 35)) gm 0 (.slice (some ⟨w.heap.size, 0, none⟩) 1 1) (.slice (some ⟨w.heap.size + 1, 0, none⟩) 1 1) [.slice none 0 0] [.nil] ⟨[], []⟩ 0 := by
  have hs := (H.bel hp).size
  have D1 := (Below.refl w.heap.size w).alloc (Nat.le_refl _) (.cells #[.int .i64 0, .int .i64 0] 28)
  have D2 := (Below.refl _ _).alloc (Nat.le_refl _) (w := w.alloc (.cells #[.int .i64 0, .int .i64 0] 28)) (.cells #[.slice none 0 0] 35)
  have hs1 : (w.alloc (.cells #[.int .i64 0, .int .i64 0] 28)).heap.size = w.heap.size + 1 := by simp
  refine ⟨H.below (H.below hp D1) D2, Nat.le_refl _, fun T hT => ?_, by simp [Ar.live], (OwnH.new1 w W.heap.size hs 0 0).below D2, ?_, by simp, by simp⟩
  · rw [List.mem_singleton.1 hT]
    exact ⟨Stands.nil _, by simp [Tr.prs]⟩
  · rw [← hs1]
    exact Ws.new1 _ _ (by omega)
/-- Where an edit's two calls meet: nothing was done, or a version is at hand. -/
def PlRel (P : MapPred) (W : World) (gm i : Nat) (vr vw : Value) (vs : List Value) (Ts : List Tr) (A : Ar) (U ke : Nat) (T : Tr) (s10 s11 s12 : Value) (wx : World) : Prop :=
  (s10 = .bool false ∧ s12 = .bool false ∧ ∃ am cm ag cg, Eb wx ke (0, 0) (.slice am 0 cm) (.slice ag 0 cg) ∧ Vp P W wx gm (i + 1) vr vw vs Ts A U) ∨
  (s10 = .bool true ∧ s12 = .bool true ∧ ∃ am cm ag cg made gone aq cq ps T1 A1 U1, s11 = .slice aq (List.length ps) cq ∧ Vq P W wx gm i vr vw vs Ts A1 U1 ke T1.root am cm ag cg made gone aq cq ps ∧ Ef A U T ps T1 A1 U1 made gone ∧ ps.length ≤ i + 1)
set_option maxHeartbeats 8000000 in
theorem pmapPlays_walk {P : MapPred} (H : MapOk P) (p : Option Addr) (len cap : Nat) (l : List Ap) (W : World) (h : IsAps W p len cap l) :
    Calls Try.prog 3 #[.slice p len cap] W (TrueRet W) := by
  obtain rfl := h.leq
  have c1 := h.le
  have c2 := h.most
  unfold maxLen at c2
  have HI := hide h
  clear h
  go_enter Try.func3, Try.ntmps3
  go_wp2_with fail
  refine (awake_any H W).mono ?_
  rintro e w1 ⟨rfl, hb1⟩
  have B1 := hide hb1
  clear hb1
  by_cases hl : l.length ≤ 30
  case neg =>
    have d0 : decide ((l.length : Int) > 30) = true := decide_eq_true (by omega)
    go_wp2_with fail
    go_ret
    exact ⟨rfl, B1.out⟩
  have d0 : decide ((l.length : Int) > 30) = false := decide_eq_false (by omega)
  have KN := hide (H.new W w1 2000 (by omega) B1.out)
  unfold cmpV at KN
  go_wp2_with fail
  refine KN.out.mono ?_
  rintro e w2 ⟨gm, rfl, hp, hb⟩
  have HP := hide hp
  clear hp hb KN d0 B1
  go_upto_region 9 with (fail)
  have HV := hide (Vp.start H HP.out)
  generalize (w2.alloc _).alloc _ = w3 at HV ⊢
  generalize w2.heap.size + 1 = g2 at HV ⊢
  generalize w2.heap.size = g1 at HV ⊢
  clear HP
  go_wp2_with fail
  go_loopw [5, 6, 7] (VpRel P W gm l.length) (fun _ _ i _ => l.length - (intOf i).toNat)
  case atStart => exact ⟨0, _, _, _, _, Nat.zero_le _, rfl, HV.out⟩
  case round =>
    clear HV
    obtain ⟨i, vs, Ts, A, U, hi, rfl, F⟩ := hrel
    have HF := hide F
    obtain ⟨ar, cr, rfl⟩ := row_form F.roots
    obtain ⟨aw, cw, rfl⟩ := row_form F.wants.row
    simp only [List.length_map] at HF F ⊢
    by_cases hlt : i < l.length
    case pos =>
      obtain ⟨b, o, rfl, hat⟩ := HI.out.at hlt
      obtain ⟨xk1, xk2, xk3⟩ := HI.out.ok _ (List.getElem_mem hlt)
      generalize l[i] = x at *
      obtain ⟨xd, xk, xv, xo, xq⟩ := x
      unfold ApAt at hat
      simp only at xk1 xk2 xk3 hat
      have i0 : (0 : Int) ≤ (i : Int) := by omega
      have i1 : (i : Int) < (l.length : Int) := by omega
      have hkey : i64B (xk : Int) := by unfold i64B; omega
      have hval : i64B (xv : Int) := by unfold i64B; omega
      generalize (xk : Int) = key at *
      generalize (xv : Int) = val at *
      have HAT := hide hat
      have hwk : IntKind.i64.wrap key = key := wrap_in _ hkey.1 hkey.2
      have hwv : IntKind.i64.wrap val = val := wrap_in _ hval.1 hval.2
      have hpos := F.pos
      have htl := F.len
      have e0 : IntKind.i64.wrap ((Ts.length : Int) - 1) = ((Ts.length - 1 : Nat) : Int) := by rw [wrap_in _ (by omega) (by omega)]; omega
      have e1 : (xo : Int) % (Ts.length : Int) = ((xo % Ts.length : Nat) : Int) := (Int.natCast_emod ..).symm
      have e2 : ((Ts.length : Int) == 0) = false := by simp only [beq_eq_false_iff_ne, ne_eq]; omega
      obtain ⟨z0, z1, z2, z3, z4⟩ := hat wr (H.bel F.pm)
      have HKR := hide (Nat.mod_lt xo hpos)
      have HPO := hide hpos
      have HKV := hide (And.intro hkey hval)
      clear hat hkey hval F
      go_upto_if 50 with (fail)
      go_cut [8] (fun s8 wx => wr = wx ∧ ∃ kk : Nat, kk < Ts.length ∧ s8 = .int .i64 (kk : Int))
      case first =>
        cases xq with
        | false =>
          clear e1 e2
          go_wp2_with fail
          go_meet
          exact ⟨rfl, Ts.length - 1, by have := HPO.out; omega, rfl⟩
        | true =>
          go_wp2_with fail
          go_meet
          exact ⟨rfl, xo % Ts.length, HKR.out, congrArg (Value.int .i64) e1⟩
      case rest =>
        obtain ⟨rfl, kk, hkk, rfl⟩ := hcut
        clear e0 e1 e2
        clear hpos HKR HPO xk1 xk2 xk3 z0 z1 z2 z3 z4
        obtain ⟨gw, a, c', rfl, y0, ho⟩ := HF.out.wants.at (i := kk) (by simpa using hkk)
        simp only [List.getElem_map] at y0 ho
        obtain ⟨hst, hln⟩ := HF.out.st _ (List.getElem_mem hkk)
        have hsb := (H.bel HF.out.pm).size
        have D2 := (Below.refl wr.heap.size wr).alloc (Nat.le_refl _) (.cells #[.int .i64 0, .int .i64 0, .slice none 0 0, .slice none 0 0] 34)
        have BDA := hide D2
        have BD2 := hide D2.drew
        obtain ⟨z0, z1, z2, z3, z4⟩ := HAT.out _ ((H.bel HF.out.pm).trans (D2.mono hsb))
        have y1 := cell_b D2 y0
        have KS := hide (fun (V : World) (hb : Below wr.heap.size wr V) => show V.cell? ⟨gw, kk, none⟩ = some (.slice a Ts[kk].prs.length c') ∧ V.cell? ⟨b, o + i * 5 + 1, none⟩ = some (.int .u8 key) ∧ V.cell? ⟨b, o + i * 5 + 2, none⟩ = some (.int .u8 val) from ⟨cell_b hb y0, (HAT.out V ((H.bel HF.out.pm).trans (hb.mono hsb))).2.1, (HAT.out V ((H.bel HF.out.pm).trans (hb.mono hsb))).2.2.1⟩)
        have HST := hide hst
        have HO := hide ho
        have KW := hide (with_any a c' Ts[kk].prs key val (by omega) _ (ho.below D2.drew).at)
        clear D2 hst ho
        have k0 : (0 : Int) ≤ (kk : Int) := by omega
        have k1 : (kk : Int) < (Ts.length : Int) := by omega
        obtain ⟨T, hT⟩ : ∃ T, Ts[kk] = T := ⟨_, rfl⟩
        have HT := hide hT
        rw [hT] at y0 y1 KS HST HO KW hln
        clear hT
        go_upto_region 17 with (fail)
        go_region_held3 (fun w' => w'.cell? ⟨gw, kk, none⟩ = some (.slice a T.prs.length c') ∧ w'.cell? ⟨b, o + i * 5 + 1, none⟩ = some (.int .u8 key) ∧ w'.cell? ⟨b, o + i * 5 + 2, none⟩ = some (.int .u8 val))
          (first | with_reducible exact hS1 | with_reducible exact ⟨y1, z1, z2⟩ | go_keep)
          (first
            | (with_reducible refine KW.out.mono ?_
               rintro e w4 ⟨vq, rfl, hov, hbv0⟩
               have hbv := BD2.out.trans (hbv0.mono BD2.out.size)
               have hS1 := KS.out w4 hbv
               obtain ⟨aq, cq, rfl⟩ := row_form hov
               have HQ := hide (hov.base (base' := W.heap.size) (Nat.le_trans hsb BD2.out.size))
               have HB4 := hide hbv
               have HZ4 := hide (show w4.heap[wr.heap.size]? = some (.cells #[.int .i64 0, .int .i64 0, .slice none 0 0, .slice none 0 0] 34 (0, 0)) from (hbv0.block wr.heap.size (by simp [World.drew])).trans (heap_alloc_new wr _))
               clear hov hbv0 hbv))
        clear hS1 z0 z1 z2 z3 z4 y0 y1 KW
        have hhT : T.high ≤ 9 := HST.out.bal.high9 (by omega)
        have F4 := hide (HF.out.below H HB4.out)
        have hlive := HF.out.live
        have huu := HF.out.uu
        obtain ⟨br, or', rfl, -⟩ := F4.out.roots.at.lit (by simpa using HF.out.pos)
        have KR := hide (fun (V : World) (h : OwnH V W.heap.size (.slice (some ⟨br, or', none⟩) Ts.length cr) (Ts.map Tr.root)) => show V.cell? ⟨br, or' + kk * 2, none⟩ = some (.int .i64 T.root.1) ∧ V.cell? ⟨br, or' + kk * 2 + 1, none⟩ = some (.int .i64 T.root.2) from by
          have h1 := h.cellsAt kk (by simpa using hkk)
          simp only [List.getElem_map, HT.out] at h1
          exact h1)
        have HZW := hide (show wr.heap.size ≤ w4.heap.size from HB4.out.size)
        have h3 : (xd = true ∧ (fiP key T.prs).isSome = false) ∨ (xd = true ∧ (fiP key T.prs).isSome = true) ∨ xd = false := by
          cases xd
          · exact .inr (.inr rfl)
          · cases hc : (fiP key T.prs).isSome
            · exact .inl ⟨rfl, rfl⟩
            · exact .inr (.inl ⟨rfl, rfl⟩)
        have HHT := hide hhT
        have HLU := hide (And.intro hlive huu)
        have HLN := hide hln
        clear hhT hlive huu
        obtain ⟨z0, z1, z2, -, -⟩ := HAT.out w4 (H.bel F4.out.pm)
        go_upto_if 81 with (fail)
        go_cut [10, 11, 12] (fun s10 s11 s12 wx => PlRel P W gm i (.slice (some ⟨br, or', none⟩) Ts.length cr) (.slice (some ⟨gw, 0, none⟩) Ts.length cw) vs Ts A U wr.heap.size T s10 s11 s12 wx)
        case first =>
          rcases h3 with ⟨rfl, hf⟩ | h3
          · as_aux_lemma =>
              have HFN := hide (show fiP key T.prs = none by simpa using hf)
              have hcan := fi_wo key T.prs
              rw [hf] at hcan
              have KWo := hide (without_any a c' T.prs key (by omega) w4.drew (HO.out.below (HB4.out.drew)).at)
              rw [hcan] at KWo
              have HBD4 := hide (Below.refl w4.heap.size w4).drew
              have y1 := (KS.out w4 HB4.out).1
              clear hcan hf
              go_upto_region 20 with (fail)
              go_region_held3 (fun w' => w'.cell? ⟨gw, kk, none⟩ = some (.slice a T.prs.length c') ∧ w'.cell? ⟨b, o + i * 5 + 1, none⟩ = some (.int .u8 key))
                (first | with_reducible exact hS1 | with_reducible exact ⟨y1, z1⟩ | go_keep)
                (first
                  | (with_reducible refine KWo.out.mono ?_
                     rintro e w5 ⟨vq2, rfl, hov, hbv0⟩
                     have hbv := HBD4.out.trans (hbv0.mono HBD4.out.size)
                     have hKS := KS.out w5 (HB4.out.trans (hbv.mono HB4.out.size))
                     have hS1 := And.intro hKS.1 hKS.2.1
                     obtain ⟨aq2, cq2, rfl⟩ := row_form hov
                     have HB5 := hide hbv
                     clear hov hbv0 hbv hKS))
              clear hS1 y1 KWo
              have HS5 := hide (Below.refl w5.heap.size w5).drew
              have HV5 := hide (HB4.out.trans ((HB5.out.trans (HS5.out.mono HB5.out.size)).mono HB4.out.size))
              have F5 := hide (F4.out.below H (HB5.out.trans (HS5.out.mono HB5.out.size)))
              have KD := hide (H.delNo T key F5.out.pm (by have := HLU.out; omega) (HST.out) (by have := HLN.out; omega) HKV.out.1 HFN.out)
              have KRK := hide (fun (V : World) (hk : Kp wr V) (hb : Below W.heap.size W V) => show (V.cell? ⟨br, or' + kk * 2, none⟩ = some (.int .i64 T.root.1) ∧ V.cell? ⟨br, or' + kk * 2 + 1, none⟩ = some (.int .i64 T.root.2)) ∧ V.cell? ⟨b, o + i * 5 + 1, none⟩ = some (.int .u8 key) from ⟨KR.out V (HF.out.roots.kp hk), (HAT.out V hb).2.1⟩)
              have zr := KRK.out w5.drew (Kp.of_below HV5.out) (H.bel F5.out.pm)
              have HZ5 := hide (((HB5.out.trans (HS5.out.mono HB5.out.size)).block wr.heap.size (Array.getElem?_eq_some_iff.1 HZ4.out).1).trans HZ4.out)
              go_upto_region 21 with (fail)
              go_region_held3 (fun w' => (w'.cell? ⟨br, or' + kk * 2, none⟩ = some (.int .i64 T.root.1) ∧ w'.cell? ⟨br, or' + kk * 2 + 1, none⟩ = some (.int .i64 T.root.2)) ∧ w'.cell? ⟨b, o + i * 5 + 1, none⟩ = some (.int .u8 key))
                (first | with_reducible exact hS2 | with_reducible exact hS1 | with_reducible exact zr | go_keep)
                (first
                  | (with_reducible refine KD.out.mono ?_
                     rintro e w6 ⟨vm, vg, rfl, om, og, pm, kp⟩
                     obtain ⟨am, cm, rfl⟩ := row_form om
                     obtain ⟨ag, cg, rfl⟩ := row_form og
                     have hZ := kp.2 _ _ _ _ HZ5.out (by decide) (by decide) (by decide)
                     obtain ⟨-, c0, c1, c2, c3, g0, g1, g2, g3⟩ := ed_zero hZ
                     have hS1 := KRK.out w6 ((Kp.of_below HV5.out).trans kp) (H.bel pm)
                     have hX := Eds.early H hZ hsb HV5.out pm kp om og (0, 0)
                     simp only [List.length_nil] at hX ⊢
                     have hS2 := KRK.out _ hX.kp (H.bel hX.pm)
                     have HX := hide hX
                     clear om og pm kp hX hZ
                     unfold edv))
              have HN := hide (HF.out.kp HX.out.kp HX.out.pm)
              generalize (World.setCell _ _ _) = w7 at HX HN ⊢
              clear hS1 hS2 c0 c1 c2 c3 g0 g1 g2 g3 z0 z1 z2 zr KRK KD KR HZ5 HV5 F5 HS5 HB5 HQ HB4 HZ4 F4
              go_wp2_with fail
              go_meet
              exact .inl ⟨rfl, rfl, am, cm, ag, cg, HX.out.eb, HN.out⟩
          rcases h3 with ⟨rfl, hf⟩ | rfl
          case inl =>
            as_aux_lemma =>
              have HFN := hide (show (fiP key T.prs).isSome = true from hf)
              have hcan := fi_wo key T.prs
              rw [hf] at hcan
              have KWo := hide (without_any a c' T.prs key (by omega) w4.drew (HO.out.below (HB4.out.drew)).at)
              rw [hcan] at KWo
              have HBD4 := hide (Below.refl w4.heap.size w4).drew
              have y1 := (KS.out w4 HB4.out).1
              clear hcan hf
              go_upto_region 20 with (fail)
              go_region_held3 (fun w' => w'.cell? ⟨gw, kk, none⟩ = some (.slice a T.prs.length c') ∧ w'.cell? ⟨b, o + i * 5 + 1, none⟩ = some (.int .u8 key))
                (first | with_reducible exact hS1 | with_reducible exact ⟨y1, z1⟩ | go_keep)
                (first
                  | (with_reducible refine KWo.out.mono ?_
                     rintro e w5 ⟨vq2, rfl, hov, hbv0⟩
                     have hbv := HBD4.out.trans (hbv0.mono HBD4.out.size)
                     have hKS := KS.out w5 (HB4.out.trans (hbv.mono HB4.out.size))
                     have hS1 := And.intro hKS.1 hKS.2.1
                     obtain ⟨aq2, cq2, rfl⟩ := row_form hov
                     have HQ2 := hide (hov.base (base' := W.heap.size) (Nat.le_trans hsb (Nat.le_trans HB4.out.size HBD4.out.size)))
                     have HB5 := hide hbv
                     clear hov hbv0 hbv hKS))
              clear hS1 y1 KWo
              have HS5 := hide (Below.refl w5.heap.size w5).drew
              have HV5 := hide (HB4.out.trans ((HB5.out.trans (HS5.out.mono HB5.out.size)).mono HB4.out.size))
              have F5 := hide (F4.out.below H (HB5.out.trans (HS5.out.mono HB5.out.size)))
              have KD := hide (H.del T key F5.out.pm (by have := HLU.out; omega) (HST.out) (by have := HLN.out; omega) (by have := HLU.out; have := HHT.out; omega) HKV.out.1 HFN.out)
              have KRK := hide (fun (V : World) (hk : Kp wr V) (hb : Below W.heap.size W V) => show (V.cell? ⟨br, or' + kk * 2, none⟩ = some (.int .i64 T.root.1) ∧ V.cell? ⟨br, or' + kk * 2 + 1, none⟩ = some (.int .i64 T.root.2)) ∧ V.cell? ⟨b, o + i * 5 + 1, none⟩ = some (.int .u8 key) from ⟨KR.out V (HF.out.roots.kp hk), (HAT.out V hb).2.1⟩)
              have zr := KRK.out w5.drew (Kp.of_below HV5.out) (H.bel F5.out.pm)
              have HZ5 := hide (((HB5.out.trans (HS5.out.mono HB5.out.size)).block wr.heap.size (Array.getElem?_eq_some_iff.1 HZ4.out).1).trans HZ4.out)
              go_upto_region 21 with (fail)
              go_region_held3 (fun w' => (w'.cell? ⟨br, or' + kk * 2, none⟩ = some (.int .i64 T.root.1) ∧ w'.cell? ⟨br, or' + kk * 2 + 1, none⟩ = some (.int .i64 T.root.2)) ∧ w'.cell? ⟨b, o + i * 5 + 1, none⟩ = some (.int .u8 key))
                (first | with_reducible exact hS2 | with_reducible exact hS1 | with_reducible exact zr | go_keep)
                (first
                  | (with_reducible refine KD.out.mono ?_
                     rintro e w6 ⟨vm, vg, T1, A1, U1, made, gone, rfl, E⟩
                     obtain ⟨am, cm, rfl⟩ := row_form E.om
                     obtain ⟨ag, cg, rfl⟩ := row_form E.og
                     have hZ := E.kp.2 _ _ _ _ HZ5.out (by decide) (by decide) (by decide)
                     obtain ⟨-, c0, c1, c2, c3, g0, g1, g2, g3⟩ := ed_zero hZ
                     have hS1 := KRK.out w6 ((Kp.of_below HV5.out).trans E.kp) (H.bel E.pm)
                     have hX := Eds.early H hZ hsb HV5.out E.pm E.kp E.om E.og T1.root
                     have hS2 := KRK.out _ hX.kp (H.bel hX.pm)
                     have HX := hide hX
                     have HE := hide (Ef.of E)
                     have HQ7 := hide (((HQ2.out.below HS5.out).kp E.kp).setE hZ (.int .i64 T1.root.1) (.int .i64 T1.root.2) (.slice am made.length cm) (.slice ag gone.length cg))
                     clear E hX hZ
                     unfold edv))
              clear hS1 hS2 c0 c1 c2 c3 g0 g1 g2 g3 z0 z1 z2 zr KRK KD HZ5 HV5 F5 HS5 HB5 HQ HQ2 F4 HFN
              have hps : (woP key T.prs).length ≤ i + 1 := Nat.le_trans (List.length_filter_le _ _) (by have := HLN.out; omega)
              have HV7 := hide (Vq.of H HF.out HHT.out HX.out HE.out HQ7.out)
              clear HX HQ7
              generalize (World.setCell _ _ _) = w7 at HV7 ⊢
              go_wp2_with fail
              go_meet
              exact .inr ⟨rfl, rfl, am, cm, ag, cg, made, gone, aq2, cq2, _, T1, A1, U1, rfl, HV7.out, HE.out, hps⟩
          case inr =>
            as_aux_lemma =>
              have HS4 := hide (Below.refl w4.heap.size w4).drew
              have HV5 := hide (HB4.out.trans (HS4.out.mono HB4.out.size))
              have F5 := hide (F4.out.below H HS4.out)
              have KD := hide (H.put T key val F5.out.pm (by have := HLU.out; omega) (HST.out) (by have := HLN.out; omega) (by have := HLU.out; have := HHT.out; omega) HKV.out.1 HKV.out.2)
              have KRK := hide (fun (V : World) (hk : Kp wr V) (hb : Below W.heap.size W V) => show (V.cell? ⟨br, or' + kk * 2, none⟩ = some (.int .i64 T.root.1) ∧ V.cell? ⟨br, or' + kk * 2 + 1, none⟩ = some (.int .i64 T.root.2)) ∧ V.cell? ⟨b, o + i * 5 + 1, none⟩ = some (.int .u8 key) ∧ V.cell? ⟨b, o + i * 5 + 2, none⟩ = some (.int .u8 val) from ⟨KR.out V (HF.out.roots.kp hk), (HAT.out V hb).2.1, (HAT.out V hb).2.2.1⟩)
              have zr := KRK.out w4 (Kp.of_below HB4.out) (H.bel F4.out.pm)
              have zr2 := KRK.out w4.drew (Kp.of_below HV5.out) (H.bel F5.out.pm)
              have HZ5 := hide ((HS4.out.block wr.heap.size (Array.getElem?_eq_some_iff.1 HZ4.out).1).trans HZ4.out)
              go_upto_region 22 with (fail)
              go_region_held3 (fun w' => (w'.cell? ⟨br, or' + kk * 2, none⟩ = some (.int .i64 T.root.1) ∧ w'.cell? ⟨br, or' + kk * 2 + 1, none⟩ = some (.int .i64 T.root.2)) ∧ w'.cell? ⟨b, o + i * 5 + 1, none⟩ = some (.int .u8 key) ∧ w'.cell? ⟨b, o + i * 5 + 2, none⟩ = some (.int .u8 val))
                (first | with_reducible exact hS2 | with_reducible exact hS1 | with_reducible exact zr | with_reducible exact zr2 | go_keep)
                (first
                  | (with_reducible refine KD.out.mono ?_
                     rintro e w6 ⟨vm, vg, T1, A1, U1, made, gone, rfl, E⟩
                     obtain ⟨am, cm, rfl⟩ := row_form E.om
                     obtain ⟨ag, cg, rfl⟩ := row_form E.og
                     have hZ := E.kp.2 _ _ _ _ HZ5.out (by decide) (by decide) (by decide)
                     obtain ⟨-, c0, c1, c2, c3, g0, g1, g2, g3⟩ := ed_zero hZ
                     have hS1 := KRK.out w6 ((Kp.of_below HV5.out).trans E.kp) (H.bel E.pm)
                     have hX := Eds.early H hZ hsb HV5.out E.pm E.kp E.om E.og T1.root
                     have hS2 := KRK.out _ hX.kp (H.bel hX.pm)
                     have HX := hide hX
                     have HE := hide (Ef.of E)
                     have HQ7 := hide (((HQ.out.below HS4.out).kp E.kp).setE hZ (.int .i64 T1.root.1) (.int .i64 T1.root.2) (.slice am made.length cm) (.slice ag gone.length cg))
                     clear E hX hZ
                     unfold edv))
              clear hS1 hS2 c0 c1 c2 c3 g0 g1 g2 g3 z0 z1 z2 zr zr2 KRK KD HZ5 HV5 F5 HS4 HQ F4
              have hps : (wiP key val T.prs).length ≤ i + 1 := Nat.le_trans (wiP_length _ _ _) (by have := HLN.out; omega)
              have HV7 := hide (Vq.of H HF.out HHT.out HX.out HE.out HQ7.out)
              clear HX HQ7
              generalize (World.setCell _ _ _) = w7 at HV7 ⊢
              go_wp2_with fail
              go_meet
              exact .inr ⟨rfl, rfl, am, cm, ag, cg, made, gone, aq, cq, _, T1, A1, U1, rfl, HV7.out, HE.out, hps⟩
        case rest =>
          clear h3 z0 z1 z2 HB4 HZ4 HQ F4
          rcases hcut with ⟨rfl, rfl, am, cm, ag, cg, hX, hN⟩ | ⟨rfl, rfl, am, cm, ag, cg, made, gone, aq2, cq2, ps, T1, A1, U1, rfl, hV, hE, hps⟩
          · have HX := hide hX
            have HN := hide hN
            clear hX hN KR HF HAT BD2 BDA HZW HO KS HLU
            generalize wr.heap.size = ke at HX ⊢
            obtain ⟨e0, e1, e2, e3⟩ := HX.out.four
            have hq := fun V => handle_ne 0 0 0 0 V
            simp only [decide_true, Bool.not_true] at hq
            go_wp2_with fail
            go_roundw
            case rel => exact ⟨i + 1, vs, Ts, A, U, by omega, by go_num, HN.out⟩
            case measure => simp [intOf]; omega
          as_aux_lemma =>
            have HV7 := hide hV
            have HE := hide hE
            clear hV hE
            generalize wr.heap.size = ke at HV7 ⊢
            have HPS := hide HE.out.prs
            have HES := hide HE.out.st
            have HMG := hide (And.intro HE.out.mad (And.intro HE.out.gn HE.out.few))
            have HTS := hide (HV7.out.st T (by rw [← HT.out]; exact List.getElem_mem hkk))
            have hn30 : ps.length ≤ 31 := by omega
            have hh1 : T1.high ≤ 9 := HES.out.bal.high9 (by rw [HPS.out]; omega)
            have HMU := hide HV7.out.uu
            clear HE HO BD2 BDA HZW HAT KS HLU HKV hwk hwv
            obtain ⟨r0, r1⟩ := KR.out wc HV7.out.roots
            have KW1 := hide (walk_any gm A1.get T HTS.out.1.lies HTS.out.1.bal (by have := HTS.out.2; omega) 40 (by have := HHT.out; omega) (by omega) wc (H.load HV7.out.pm (by have := HMU.out; omega)))
            go_wp2_with fail
            refine KW1.out.mono ?_
            rintro e w8 ⟨vp, vh, rfl, hop, hoh, hb⟩
            obtain ⟨ap, cp, rfl⟩ := row_form hop
            obtain ⟨ah, ch, rfl⟩ := row_form hoh
            have HV8 := hide (HV7.out.below H hb)
            have HOLD := hide (hoh.base (base' := W.heap.size) (H.bel HV7.out.pm).size)
            clear hop hoh hb r0 r1 KW1 HV7
            obtain ⟨e0, e1, e2, e3⟩ := HV8.out.eb.four
            have KW2 := hide (walk_any gm A1.get T1 HES.out.lies HES.out.bal (by rw [HPS.out]; omega) 40 (by omega) (by omega) w8 (H.load HV8.out.pm (by have := HMU.out; omega)))
            generalize T.prs.length = n0 at *
            generalize hno : T.hds.length = n1 at *
            have HNO := hide hno
            clear hno
            go_wp2_with fail
            refine KW2.out.mono ?_
            rintro e w9 ⟨vp2, vh2, rfl, hop2, hoh2, hb2⟩
            rw [HPS.out] at hop2
            obtain ⟨ap2, cp2, rfl⟩ := row_form hop2
            obtain ⟨ah2, ch2, rfl⟩ := row_form hoh2
            have HV9 := hide (HV8.out.below H hb2)
            have HOLD9 := hide (HOLD.out.below hb2)
            have HNOW := hide (hoh2.base (base' := W.heap.size) (H.bel HV8.out.pm).size)
            have KSM := hide (psame_any ap2 cp2 ps aq2 cq2 ps (by omega) (by omega) w9 hop2.at HV9.out.q.at)
            rw [decide_eq_true rfl] at KSM
            clear hop2 hoh2 hb2 e0 e1 e2 e3 KW2 HV8 HOLD
            generalize hnn : T1.hds.length = n2 at *
            have HNN := hide hnn
            clear hnn
            go_wp2_with fail
            refine KSM.out.mono ?_
            rintro e w10 ⟨rfl, hb⟩
            have HV10 := hide (HV9.out.below H hb)
            have HOLD10 := hide (HOLD9.out.below hb)
            have HNOW10 := hide (HNOW.out.below hb)
            clear hb KSM HV9 HOLD9 HNOW
            have hl1 : T1.hds.length ≤ 31 := by rw [T1.hds_prs, HPS.out]; omega
            have hl0 : T.hds.length ≤ 31 := by
              have h1 := T.hds_prs
              have h2 := HF.out.st T (by rw [← HT.out]; exact List.getElem_mem hkk)
              omega
            obtain ⟨m1, hm1⟩ : ∃ m, miH T1.hds T.hds = m := ⟨_, rfl⟩
            obtain ⟨m2, hm2⟩ : ∃ m, miH T.hds T1.hds = m := ⟨_, rfl⟩
            have KM1 := hide (minus_any ah2 ch2 T1.hds ah ch T.hds (by omega) (by omega) w10.drew (HNOW10.out.below (Below.refl w10.heap.size w10).drew).at (HOLD10.out.below (Below.refl w10.heap.size w10).drew).at)
            have KM2 := hide (fun (V : World) (hV : Below w10.heap.size w10 V) => minus_any ah ch T.hds ah2 ch2 T1.hds (by omega) (by omega) V (HOLD10.out.below hV).at (HNOW10.out.below hV).at)
            have hmg := HMG.out
            rw [hm1, hm2] at hmg
            have hml1 : m1.length ≤ 31 := by rw [← hm1]; exact Nat.le_trans (miH_length _ _) hl1
            have hml2 : m2.length ≤ 31 := by rw [← hm2]; exact Nat.le_trans (miH_length _ _) hl0
            have hmd := hmg.1.length_eq
            have hgd := hmg.2.1.length_eq
            have KS1 := hide (fun (V : World) (A : Option Addr) (c : Nat) (hV : Below w10.heap.size w10 V) (h : Hs V A c m1) => sets_any am cm made A c m1 (by omega) (by omega) (perm_sets hmg.1).1 (perm_sets hmg.1).2.1 (perm_sets hmg.1).2.2 V (HV10.out.om.below hV).at h)
            have KS2 := hide (fun (V : World) (A : Option Addr) (c : Nat) (hV : Below w10.heap.size w10 V) (h : Hs V A c m2) => sets_any ag cg gone A c m2 (by omega) (by omega) (perm_sets hmg.2.1).1 (perm_sets hmg.2.1).2.1 (perm_sets hmg.2.1).2.2 V (HV10.out.og.below hV).at h)
            rw [hm1, HNN.out, HNO.out] at KM1
            rw [hm2, HNN.out, HNO.out] at KM2
            have KEB := hide (fun (V : World) (hV : Below w10.heap.size w10 V) => show V.cell? ⟨ke, 2, none⟩ = some (.slice am made.length cm) ∧ V.cell? ⟨ke, 3, none⟩ = some (.slice ag gone.length cg) from ⟨(HV10.out.eb.below hV).four.2.2.1, (HV10.out.eb.below hV).four.2.2.2⟩)
            have hfew := hmg.2.2
            have hh9 := HHT.out
            obtain ⟨hT, hhT⟩ : ∃ q, T.high = q := ⟨_, rfl⟩
            rw [hhT] at hfew hh9 ⊢
            have w3h : IntKind.i64.wrap (3 * (hT : Int)) = 3 * (hT : Int) := wrap_in _ (by omega) (by omega)
            have w3h1 : IntKind.i64.wrap (3 * (hT : Int) + 1) = 3 * (hT : Int) + 1 := wrap_in _ (by omega) (by omega)
            have q5 : decide ((made.length : Int) > 3 * (hT : Int) + 1) = false := decide_eq_false (by omega)
            have q6 : decide (3 * (hT : Int) + 1 < (made.length : Int)) = false := decide_eq_false (by omega)
            have HBM := hide (And.intro hmd (And.intro hgd (And.intro hml1 hml2)))
            clear hmg hm1 hm2 hmd hgd hml1 hml2 hl1 hl0 hfew hh9 hhT hh1 hln
            generalize hmx : made.length = lm at *
            generalize hgx : gone.length = lg at *
            have HLX := hide (And.intro hmx hgx)
            clear hmx hgx
            have ze := KEB.out w10 (Below.refl _ _)
            have BDX := hide (Below.refl w10.heap.size w10).drew
            go_upto_region 32 with (fail)
            go_region_held3 (fun w' => w'.cell? ⟨ke, 2, none⟩ = some (.slice am lm cm) ∧ w'.cell? ⟨ke, 3, none⟩ = some (.slice ag lg cg))
              (first | with_reducible exact hS4 | with_reducible exact hS3 | with_reducible exact hS2 | with_reducible exact hS1 | with_reducible exact ze | go_keep)
              (first
                | (with_reducible refine KM1.out.mono ?_
                   rintro e v1 ⟨x1, rfl, ho1, hb1⟩
                   obtain ⟨a1, d1, rfl⟩ := row_form ho1
                   have HC1 := hide (BDX.out.trans (hb1.mono BDX.out.size))
                   have HH1 := hide ho1.at
                   have hS1 := KEB.out v1 HC1.out
                   clear ho1 hb1)
                | (with_reducible refine (KS1.out v1 a1 d1 HC1.out HH1.out).mono ?_
                   rintro e v2 ⟨rfl, hb2⟩
                   have HC2 := hide (HC1.out.trans (hb2.mono HC1.out.size))
                   have hS2 := KEB.out v2 HC2.out
                   clear hb2)
                | (with_reducible refine (KM2.out v2 HC2.out).mono ?_
                   rintro e v3 ⟨x3, rfl, ho3, hb3⟩
                   obtain ⟨a3, d3, rfl⟩ := row_form ho3
                   have HC3 := hide (HC2.out.trans (hb3.mono HC2.out.size))
                   have HH3 := hide ho3.at
                   have hS3 := KEB.out v3 HC3.out
                   clear ho3 hb3)
                | (with_reducible refine (KS2.out v3 a3 d3 HC3.out HH3.out).mono ?_
                   rintro e v4 ⟨rfl, hb4⟩
                   have HC4 := hide (HC3.out.trans (hb4.mono HC3.out.size))
                   have hS4 := KEB.out v4 HC4.out
                   clear hb4))
            clear hS1 hS2 hS3 hS4 ze KM1 KM2 KS1 KS2 KEB w3h w3h1 q5 q6
            as_aux_lemma =>
              have HVD := hide (HV10.out.below H HC4.out)
              have HTL := hide (HV10.out.len)
              clear HV10 HOLD10 HNOW10 HC1 HC2 HC3 HC4 BDX HH1 HH3
              obtain ⟨e0, e1, -, -⟩ := HVD.out.eb.four
              have hbs34 : W.heap.size ≤ (v4.alloc (.cells #[.int .i64 T1.root.1, .int .i64 T1.root.2] 28)).heap.size := Nat.le_trans (H.bel HVD.out.pm).size (by simp)
              have D34 := hide ((Below.refl v4.heap.size v4).alloc (Nat.le_refl _) (.cells #[.int .i64 T1.root.1, .int .i64 T1.root.2] 28))
              have HR34 := hide (HVD.out.roots.below D34.out)
              have HNW34 := hide (show Hs (v4.alloc (.cells #[.int .i64 T1.root.1, .int .i64 T1.root.2] 28)) (some ⟨v4.heap.size, 0, none⟩) 1 [T1.root] from (Hb.new v4 T1.root.1 T1.root.2).hs)
              have htl31 : Ts.length ≤ 31 := by have := HTL.out; omega
              go_upto_region 35 with (at_builtin
                                      refine wpList_append_hn _ rfl _ _ rfl W.heap.size (.slice (some ⟨br, or', none⟩) Ts.length cr) (Ts.map Tr.root) rfl HR34.out (some ⟨v4.heap.size, 0, none⟩) 1 [T1.root] 1 (Ts.length + 1) rfl (by simp) rfl HNW34.out (by simp; omega) hbs34 ?_
                                      intro ax cx v5 hown5 hg5 hat5
                                      have HOW5 := hide hown5
                                      have HG5 := hide hg5
                                      clear hown5 hg5 hat5)
              have hW5 := (HVD.out.wants.below D34.out).grown HR34.out HG5.out
              have hrw := hW5.row
              rw [List.length_map] at hrw
              have D35 := hide ((Below.refl v5.heap.size v5).alloc (Nat.le_refl _) (.cells #[.slice aq2 ps.length cq2] 35))
              have HRW := hide (row_kept hrw fun b hb => D35.out.block b (row_lt hrw hb))
              have HNWW := hide (World.news_of_block (heap_alloc_new v5 (.cells #[.slice aq2 ps.length cq2] 35)))
              have hbs35 : W.heap.size ≤ (v5.alloc (.cells #[.slice aq2 ps.length cq2] 35)).heap.size := by
                have h1 := HG5.out.size
                have h2 := D35.out.size
                omega
              obtain ⟨i7, hi0, hz0, hz1, hz2⟩ := info_parts winfo
              clear hW5 hrw e0 e1
              go_wp2_with (at_builtin
                           refine wpList_append_own_at _ rfl _ _ _ rfl W.heap.size 35 i7 _ 1 24 Try.underlying30 hi0 hz0 hz1 hz2 rfl (by omega) (.slice (some ⟨gw, 0, none⟩) Ts.length cw) Ts.length vs rfl HRW.out ⟨v5.heap.size, 0, none⟩ 1 1 [.slice aq2 ps.length cq2] rfl rfl HNWW.out (by simp [Value.oneCell']) (by simp only [maxLen]; omega) (by omega) hbs35 ?_
                           intro xw v6 hown6 hg6 _ hat6
                           obtain ⟨gx, dx, rfl, _, _⟩ := hown6.form (by omega)
                           have HDN := hide (Vq.done H HVD.out HES.out HPS.out hps D34.out HOW5.out HG5.out D35.out hown6 hg6)
                           clear hown6 hg6 hat6)
              clear hi0 hz0 hz1 hz2
              go_roundw
              case rel => exact ⟨i + 1, vs ++ [.slice aq2 ps.length cq2], Ts ++ [T1], A1, U1, by omega, by go_num, HDN.out⟩
              case measure => simp [intOf]; omega
    case neg =>
      as_aux_lemma =>
        obtain rfl : i = l.length := by omega
        have HE := hide (show Ve P W wr gm (.slice ar Ts.length cr) (.slice aw Ts.length cw) vs Ts A U from ⟨F.pm, by have := F.uu; omega, fun T hT => ⟨(F.st T hT).1, by have := (F.st T hT).2; omega⟩, F.roots, F.wants⟩)
        have htl := F.len
        clear HF F
        go_wp2_with fail
        go_loopw [21] (VeRel P W gm (.slice ar Ts.length cr) (.slice aw Ts.length cw) vs Ts A U) (fun j _ => Ts.length - (intOf j).toNat)
        case atStart => exact ⟨0, Nat.zero_le _, rfl, HE.out⟩
        case round =>
          clear HE
          obtain ⟨j, hj, rfl, E⟩ := hrel
          have HE := hide E
          by_cases hlj : j < Ts.length
          · obtain ⟨gw, a, c', rfl, y0, ho⟩ := E.wants.at (i := j) (by simpa using hlj)
            obtain ⟨br, or', rfl, hat⟩ := E.roots.at.lit (by simpa using (show 0 < Ts.length by omega))
            obtain ⟨x0, x1⟩ := hat.two j (by simpa using hlj)
            simp only [List.getElem_map] at y0 ho x0 x1
            obtain ⟨hst, hln⟩ := E.st _ (List.getElem_mem hlj)
            have KZ := hide (fun (V : World) (hV : Below wr.heap.size wr V) => show V.cell? ⟨gw, j, none⟩ = some (.slice a Ts[j].prs.length c') from cell_b hV y0)
            have j0 : (0 : Int) ≤ (j : Int) := by omega
            have j1 : (j : Int) < (Ts.length : Int) := by omega
            have hh := hst.bal.high9 (by omega)
            have KW := hide (walk_any gm A.get Ts[j] hst.lies hst.bal (by omega) 40 (by omega) (by omega) wr (H.load E.pm (by have := E.uu; omega)))
            have HO := hide ho
            clear hat E hst hh y0 ho
            generalize Ts[j] = T at *
            go_wp2_with fail
            refine KW.out.mono ?_
            rintro e w5 ⟨vp, vh, rfl, hop, hoh, hb⟩
            obtain ⟨ap, cp, rfl⟩ := row_form hop
            obtain ⟨ah, ch, rfl⟩ := row_form hoh
            have y0 := KZ.out w5 hb
            have KS := hide (psame_any ap cp T.prs a c' T.prs (by omega) (by omega) w5 hop.at (HO.out.below hb).at)
            rw [decide_eq_true rfl] at KS
            have HE5 := hide (HE.out.below H hb)
            clear hop hoh hb KW KZ HO HE x0 x1
            generalize T.prs.length = n1 at *
            generalize T.hds.length = n2 at *
            generalize T.high = n3 at *
            go_wp2_with fail
            refine KS.out.mono ?_
            rintro e w6 ⟨rfl, hb⟩
            have HE6 := hide (HE5.out.below H hb)
            clear hb KS HE5 y0
            go_wp2_with fail
            go_roundw
            case rel => exact ⟨j + 1, by omega, by go_num, HE6.out⟩
            case measure => simp [intOf]; omega
          · obtain rfl : j = Ts.length := by omega
            have BE := hide (H.bel E.pm)
            clear E HE
            go_wp2_with fail
            go_ret
            exact ⟨rfl, BE.out⟩
end Go.Proofs.Ytcckamajiebgeaa
