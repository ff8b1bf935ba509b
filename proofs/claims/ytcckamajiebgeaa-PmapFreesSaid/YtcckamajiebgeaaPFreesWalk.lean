/-
  PmapFrees returns true, if the program keeps the contracts. Condition: these.
-/
import Derived.Test.YtcckamajiebgeaaPFrPure
import Derived.Test.YtcckamajiebgeaaPArg
namespace Go.Proofs.Ytcckamajiebgeaa
open Go.RowKit
set_option linter.unusedVariables false
set_option linter.unusedSimpArgs false
set_option maxRecDepth 100000

/-- What the law has behind so many acts. -/
structure Fs (P : MapPred) (W w : World) (gm i k5 : Nat) (vw : Value) (T : Tr) (A : Ar) (U : Nat) : Prop where
  pm : P W w gm 200 U A
  uu : U ≤ 1000 * i
  st : Stands A T
  len : T.prs.length ≤ i
  live : A.live = T.hds.length
  h5 : Hb w k5 T.root.1 T.root.2
  own : OwnP w W.heap.size vw T.prs
  b5 : W.heap.size ≤ k5
theorem Fs.kp {P : MapPred} {W w w' : World} {gm i k5 : Nat} {vw : Value} {T : Tr} {A : Ar} {U : Nat} (h : Fs P W w gm i k5 vw T A U) (hk : Kp w w') (hp : P W w' gm 200 U A) : Fs P W w' gm (i + 1) k5 vw T A U :=
  ⟨hp, by have := h.uu; omega, h.st, by have := h.len; omega, h.live, h.h5.kp hk, h.own.kp hk, h.b5⟩
def FsRel (P : MapPred) (W : World) (gm n k5 : Nat) (vw vi : Value) (w : World) : Prop := ∃ i T A U, i ≤ n ∧ vi = .int .i64 (i : Int) ∧ Fs P W w gm i k5 vw T A U
/-- While what is gone is freed. -/
structure Fl (P : MapPred) (W w : World) (gm k5 ke U : Nat) (A : Ar) (r5 r : Int × Int) (am : Option Addr) (nm cm : Nat) (ag : Option Addr) (cg : Nat) (gone : List (Int × Int)) (vw : Value) (ps : List Pp) : Prop where
  pm : P W w gm 200 U A
  h5 : Hb w k5 r5.1 r5.2
  eb : Eb w ke r (.slice am nm cm) (.slice ag gone.length cg)
  og : OwnH w W.heap.size (.slice ag gone.length cg) gone
  own : OwnP w W.heap.size vw ps
theorem Fl.kp {P : MapPred} {W w w' : World} {gm k5 ke U : Nat} {A A' : Ar} {r5 r : Int × Int} {am : Option Addr} {nm cm : Nat} {ag : Option Addr} {cg : Nat} {gone : List (Int × Int)} {vw : Value} {ps : List Pp} (h : Fl P W w gm k5 ke U A r5 r am nm cm ag cg gone vw ps) (hk : Kp w w') (hp : P W w' gm 200 U A') : Fl P W w' gm k5 ke U A' r5 r am nm cm ag cg gone vw ps :=
  ⟨hp, h.h5.kp hk, h.eb.kp hk, h.og.kp hk, h.own.kp hk⟩
theorem OwnH.setH {w : World} {base k : Nat} {v : Value} {l : List (Int × Int)} {s t : Int} (h : OwnH w base v l) (hb : Hb w k s t) (hne : v.ownBlock ≠ some k) (u u' : Value) : OwnH ((w.setCell ⟨k, 0, none⟩ u).setCell ⟨k, 1, none⟩ u') base v l := row_kept h fun b hb' => by
  have hne : b ≠ k := by
    rintro rfl
    exact hne hb'
  exact (Below.heap_setCell _ _ _ _ hne).trans (Below.heap_setCell _ _ _ _ hne)
theorem Fl.root {P : MapPred} (H : MapOk P) {W w : World} {gm k5 ke U : Nat} {A : Ar} {r5 r : Int × Int} {am : Option Addr} {nm cm : Nat} {ag : Option Addr} {cg : Nat} {gone : List (Int × Int)} {vw : Value} {ps : List Pp} (h : Fl P W w gm k5 ke U A r5 r am nm cm ag cg gone vw ps) (h5 : W.heap.size ≤ k5) (hne : (Value.slice ag gone.length cg).ownBlock ≠ some k5) :
    Fl P W ((w.setCell ⟨k5, 0, none⟩ (.int .i64 r.1)).setCell ⟨k5, 1, none⟩ (.int .i64 r.2)) gm k5 ke U A r r am nm cm ag cg gone vw ps := by
  have hk : ke ≠ k5 := by
    rintro rfl
    have h1 := h.h5
    have h2 := h.eb
    unfold Hb at h1
    unfold Eb at h2
    rw [h1] at h2
    simp at h2
  exact ⟨mo_setH H h.pm h.h5 h5 _ _, h.h5.set, ((Below.heap_setCell _ _ _ _ hk).trans (Below.heap_setCell _ _ _ _ hk)).trans h.eb, h.og.setH h.h5 hne _ _, h.own.setH h.h5 _ _⟩
theorem Fl.of {P : MapPred} {W w w6 w7 : World} {gm i k5 ke U U1 : Nat} {A A1 : Ar} {T : Tr} {r : Int × Int} {am : Option Addr} {cm : Nat} {ag : Option Addr} {cg : Nat} {made gone : List (Int × Int)} {vw v : Value} {ps : List Pp} (H : MapOk P) (h : Fs P W w gm i k5 vw T A U) (X : Eds P W w w6 gm 200 U1 A1 r am cm ag cg made gone ke) (ho : OwnP w7 w6.heap.size v ps) (hb : Below w6.heap.size w6 w7) :
    Fl P W w7 gm k5 ke U1 A1 T.root r am made.length cm ag cg gone v ps ∧ (Value.slice ag gone.length cg).ownBlock ≠ some k5 := by
  have hs := (H.bel h.pm).size
  refine ⟨⟨H.below X.pm hb, (h.h5.kp X.kp).below hb, X.eb.below hb, (X.og.base hs).below hb, ho.base (H.bel X.pm).size⟩, fun e => ?_⟩
  have h1 := (World.ownsRow.lt X.og k5 e).1
  have h2 := (Array.getElem?_eq_some_iff.1 h.h5).1
  omega
def FlRel (P : MapPred) (W : World) (gm k5 ke U : Nat) (A : Ar) (r : Int × Int) (am : Option Addr) (nm cm : Nat) (ag : Option Addr) (cg : Nat) (gone : List (Int × Int)) (vw : Value) (ps : List Pp) (vj : Value) (w : World) : Prop := ∃ j, j ≤ gone.length ∧ vj = .int .i64 (j : Int) ∧ Fl P W w gm k5 ke U (frs A (gone.take j)) r r am nm cm ag cg gone vw ps
set_option maxHeartbeats 8000000 in
theorem pmapFrees_walk {P : MapPred} (H : MapOk P) (p : Option Addr) (len cap : Nat) (l : List Ap) (W : World) (h : IsAps W p len cap l) :
    Calls Try.prog 5 #[.slice p len cap] W (TrueRet W) := by
  obtain rfl := h.leq
  have c1 := h.le
  have c2 := h.most
  unfold maxLen at c2
  have HI := hide h
  clear h
  go_enter Try.func5, Try.ntmps5
  go_wp2_with fail
  refine (awake_any H W).mono ?_
  rintro e w1 ⟨rfl, hb1⟩
  have B1 := hide hb1
  clear hb1
  by_cases hl : l.length ≤ 30
  case neg =>
    have d0 : decide ((l.length : Int) > 30) = true := decide_eq_true (by omega)
    go_wp2_with fail
    go_ret
    exact ⟨rfl, B1.out⟩
  have d0 : decide ((l.length : Int) > 30) = false := decide_eq_false (by omega)
  have KN := hide (H.new W w1 200 (by omega) B1.out)
  unfold cmpV at KN
  go_wp2_with fail
  refine KN.out.mono ?_
  rintro e w2 ⟨gm, rfl, hp, hb⟩
  have HF := hide (show Fs P W (w2.alloc (.cells #[.int .i64 0, .int .i64 0] 28)) gm 0 w2.heap.size (.slice none 0 0) .nil ⟨[], []⟩ 0 from
    ⟨mo_alloc H hp _, by omega, Stands.nil _, by simp [Tr.prs], rfl, Hb.new w2 0 0, OwnP.nil _ _, (H.bel hp).size⟩)
  clear hp hb KN
  go_upto_region 8 with (fail)
  generalize w2.heap.size = k5 at HF ⊢
  generalize w2.alloc _ = w3 at HF ⊢
  clear d0 B1
  go_wp2_with fail
  go_loopw [6, 7] (FsRel P W gm l.length k5) (fun _ i _ => l.length - (intOf i).toNat)
  case atStart => exact ⟨0, _, _, _, Nat.zero_le _, rfl, HF.out⟩
  case round =>
    clear HF
    obtain ⟨i, T, A, U, hi, rfl, F⟩ := hrel
    have HF := hide F
    obtain ⟨ao, co, rfl⟩ := row_form F.own
    by_cases hlt : i < l.length
    case neg =>
      have BE := hide (H.bel F.pm)
      clear F HF
      go_wp2_with fail
      go_ret
      exact ⟨rfl, BE.out⟩
    have huu := F.uu
    have hlv := F.live
    have hln := F.len
    obtain ⟨b, o, rfl, hat⟩ := HI.out.at hlt
    obtain ⟨xk1, xk2, xk3⟩ := HI.out.ok _ (List.getElem_mem hlt)
    generalize l[i] = x at *
    obtain ⟨xd, xk, xv, xo, xq⟩ := x
    unfold ApAt at hat
    simp only at xk1 xk2 xk3 hat
    have i0 : (0 : Int) ≤ (i : Int) := by omega
    have i1 : (i : Int) < (l.length : Int) := by omega
    have hkey : i64B (xk : Int) := by unfold i64B; omega
    have hval : i64B (xv : Int) := by unfold i64B; omega
    generalize (xk : Int) = key at *
    generalize (xv : Int) = val at *
    have HAT := hide hat
    have hwk : IntKind.i64.wrap key = key := wrap_in _ hkey.1 hkey.2
    have hwv : IntKind.i64.wrap val = val := wrap_in _ hval.1 hval.2
    have hh := F.st.bal.high_le (m := 6) (by show _ < mnN 7; have : mnN 7 = 33 := by decide
                                             omega)
    have h9 := HF.out.st.lies
    have hT := T.hds_prs
    have hsb := (H.bel F.pm).size
    have D2 := (Below.refl wr.heap.size wr).alloc (Nat.le_refl _) (.cells #[.int .i64 0, .int .i64 0, .slice none 0 0, .slice none 0 0] 34)
    obtain ⟨x0, x1⟩ := (F.h5.below D2).two
    have bW := (H.bel F.pm).trans (D2.mono hsb)
    have BD2 := hide D2.drew
    obtain ⟨z0, z1, z2, z3, z4⟩ := hat _ bW
    have KS := hide (fun (V : World) (hk : Kp wr V) (hb : Below W.heap.size W V) => show (V.cell? ⟨k5, 0, none⟩ = some (.int .i64 T.root.1) ∧ V.cell? ⟨k5, 1, none⟩ = some (.int .i64 T.root.2)) ∧ V.cell? ⟨b, o + i * 5 + 1, none⟩ = some (.int .u8 key) ∧ V.cell? ⟨b, o + i * 5 + 2, none⟩ = some (.int .u8 val) from ⟨(HF.out.h5.kp hk).two, (HAT.out V hb).2.1, (HAT.out V hb).2.2.1⟩)
    clear D2 hat
    have h3 : (xd = true ∧ (fiP key T.prs).isSome = false) ∨ (xd = true ∧ (fiP key T.prs).isSome = true) ∨ xd = false := by
      cases xd
      · exact .inr (.inr rfl)
      · cases hc : (fiP key T.prs).isSome
        · exact .inl ⟨rfl, rfl⟩
        · exact .inr (.inl ⟨rfl, rfl⟩)
    rcases h3 with ⟨rfl, hf⟩ | ⟨rfl, hf⟩ | rfl
    · have KP := hide (fun (V : World) (hV : Below wr.heap.size wr V) => H.delNo T key (H.below HF.out.pm hV) (by omega) HF.out.st (by omega) hkey (by simpa using hf))
      clear F hf huu hlv hln hkey hval hh h9 hT bW
      go_upto_region 15 with (fail)
      go_region_held3 (fun w' => (w'.cell? ⟨k5, 0, none⟩ = some (.int .i64 T.root.1) ∧ w'.cell? ⟨k5, 1, none⟩ = some (.int .i64 T.root.2)) ∧ w'.cell? ⟨b, o + i * 5 + 1, none⟩ = some (.int .u8 key) ∧ w'.cell? ⟨b, o + i * 5 + 2, none⟩ = some (.int .u8 val))
        (first | with_reducible exact hS2 | with_reducible exact hS1 | with_reducible exact ⟨⟨x0, x1⟩, z1, z2⟩ | go_keep)
        (first
          | (with_reducible refine (KP.out _ BD2.out).mono ?_
             rintro e w5 ⟨vm, vg, rfl, om, og, pm, kp⟩
             obtain ⟨am, cm, rfl⟩ := row_form om
             obtain ⟨ag, cg, rfl⟩ := row_form og
             obtain ⟨hZ, c0, c1, c2, c3, g0, g1, g2, g3⟩ := ed_zero (kp_zero kp)
             have hS1 := KS.out _ ((Kp.of_below BD2.out).trans kp) (H.bel pm)
             have hX := Eds.early H hZ hsb BD2.out pm kp om og (0, 0)
             simp only [List.length_nil] at hX ⊢
             have hS2 := KS.out _ hX.kp (H.bel hX.pm)
             have HX := hide hX
             clear om og pm kp hX hZ
             unfold edv))
      have HN := hide (HF.out.kp HX.out.kp HX.out.pm)
      generalize (World.setCell _ _ _) = w6 at HX HN ⊢
      clear hS1 hS2 c0 c1 c2 c3 g0 g1 g2 g3 x0 x1 z0 z1 z2 z3 z4 KP KS BD2 HX
      go_wp2_with fail
      go_roundw
      case rel => exact ⟨i + 1, T, A, U, by omega, by go_num, HN.out⟩
      case measure => simp [intOf]; omega
    case' inr.inl =>
      have KP := hide (fun (V : World) (hV : Below wr.heap.size wr V) => H.del T key (H.below HF.out.pm hV) (by omega) HF.out.st (by omega) (by omega) hkey hf)
      have hps : (woP key T.prs).length ≤ i + 1 := Nat.le_trans (List.length_filter_le _ _) (by omega)
      have KW := hide (fun (V : World) (hV : OwnP V W.heap.size (.slice ao T.prs.length co) T.prs) => without_any ao co T.prs key (by omega) V hV.at)
      clear F hf huu hln hkey hval hh h9 hT bW hwv
      go_upto_region 15 with (fail)
      generalize hpe : woP key T.prs = ps at *
      go_region_held3 (fun w' => (w'.cell? ⟨k5, 0, none⟩ = some (.int .i64 T.root.1) ∧ w'.cell? ⟨k5, 1, none⟩ = some (.int .i64 T.root.2)) ∧ w'.cell? ⟨b, o + i * 5 + 1, none⟩ = some (.int .u8 key) ∧ w'.cell? ⟨b, o + i * 5 + 2, none⟩ = some (.int .u8 val))
        (first | with_reducible exact hS2 | with_reducible exact hS1 | with_reducible exact ⟨⟨x0, x1⟩, z1, z2⟩ | go_keep)
        (first
          | (with_reducible refine (KP.out _ BD2.out).mono ?_
             rintro e w5 ⟨vm, vg, T1, A1, U1, made, gone, rfl, E⟩
             obtain ⟨am, cm, rfl⟩ := row_form E.om
             obtain ⟨ag, cg, rfl⟩ := row_form E.og
             obtain ⟨hZ, c0, c1, c2, c3, g0, g1, g2, g3⟩ := ed_zero (kp_zero E.kp)
             have hS1 := KS.out _ ((Kp.of_below BD2.out).trans E.kp) (H.bel E.pm)
             have hX := Eds.early H hZ hsb BD2.out E.pm E.kp E.om E.og T1.root
             have hS2 := KS.out _ hX.kp (H.bel hX.pm)
             have HX := hide hX
             have HY := hide (⟨E.uu, E.prs, Frd.of E HF.out.st⟩ : U1 ≤ U + 1000 ∧ T1.prs = ps ∧ Frd A A1 T T1 made gone)
             clear E hX hZ
             unfold edv))
      generalize (World.setCell _ _ _) = w6 at HX ⊢
      generalize hke : wr.heap.size = ke at HX ⊢
      have HKE := hide hke
      clear hke
      clear hS1 hS2 c0 c1 c2 c3 g0 g1 g2 g3 x0 x1 z0 z1 z2 z3 z4 KP BD2
      obtain ⟨z0, z1, -, -, -⟩ := HAT.out w6 (H.bel HX.out.pm)
      have KW := hide (KW.out w6 (HF.out.own.kp HX.out.kp))
      clear HKE
      go_wp2_with fail
      refine KW.out.mono ?_
      rintro e w7 ⟨vq, rfl, hov, hbv⟩
      obtain ⟨aq, cq, rfl⟩ := row_form hov
      obtain ⟨hFl, hgk⟩ := Fl.of H HF.out HX.out hov hbv
      have HL := hide hFl
      clear hov hbv KW KS HX hFl
      go_upto_region 22 with (fail)
    case' inr.inr =>
      have KP := hide (fun (V : World) (hV : Below wr.heap.size wr V) => H.put T key val (H.below HF.out.pm hV) (by omega) HF.out.st (by omega) (by omega) hkey hval)
      have hps : (wiP key val T.prs).length ≤ i + 1 := Nat.le_trans (wiP_length _ _ _) (by omega)
      have KW := hide (fun (V : World) (hV : OwnP V W.heap.size (.slice ao T.prs.length co) T.prs) => with_any ao co T.prs key val (by omega) V hV.at)
      clear F huu hln hkey hval hh h9 hT bW
      go_upto_region 18 with (fail)
      generalize hpe : wiP key val T.prs = ps at *
      go_region_held3 (fun w' => (w'.cell? ⟨k5, 0, none⟩ = some (.int .i64 T.root.1) ∧ w'.cell? ⟨k5, 1, none⟩ = some (.int .i64 T.root.2)) ∧ w'.cell? ⟨b, o + i * 5 + 1, none⟩ = some (.int .u8 key) ∧ w'.cell? ⟨b, o + i * 5 + 2, none⟩ = some (.int .u8 val))
        (first | with_reducible exact hS2 | with_reducible exact hS1 | with_reducible exact ⟨⟨x0, x1⟩, z1, z2⟩ | go_keep)
        (first
          | (with_reducible refine (KP.out _ BD2.out).mono ?_
             rintro e w5 ⟨vm, vg, T1, A1, U1, made, gone, rfl, E⟩
             obtain ⟨am, cm, rfl⟩ := row_form E.om
             obtain ⟨ag, cg, rfl⟩ := row_form E.og
             obtain ⟨hZ, c0, c1, c2, c3, g0, g1, g2, g3⟩ := ed_zero (kp_zero E.kp)
             have hS1 := KS.out _ ((Kp.of_below BD2.out).trans E.kp) (H.bel E.pm)
             have hX := Eds.early H hZ hsb BD2.out E.pm E.kp E.om E.og T1.root
             have hS2 := KS.out _ hX.kp (H.bel hX.pm)
             have HX := hide hX
             have HY := hide (⟨E.uu, E.prs, Frd.of E HF.out.st⟩ : U1 ≤ U + 1000 ∧ T1.prs = ps ∧ Frd A A1 T T1 made gone)
             clear E hX hZ
             unfold edv))
      generalize (World.setCell _ _ _) = w6 at HX ⊢
      generalize hke : wr.heap.size = ke at HX ⊢
      clear hke
      clear hS1 hS2 c0 c1 c2 c3 g0 g1 g2 g3 x0 x1 z0 z1 z2 z3 z4 KP BD2
      obtain ⟨z0, z1, z2, -, -⟩ := HAT.out w6 (H.bel HX.out.pm)
      have KV := hide (fun (V : World) (hV : Below w6.heap.size w6 V) => show V.cell? ⟨b, o + i * 5 + 1, none⟩ = some (.int .u8 key) ∧ V.cell? ⟨b, o + i * 5 + 2, none⟩ = some (.int .u8 val) from ⟨(HAT.out V ((H.bel HX.out.pm).trans (hV.mono (H.bel HX.out.pm).size))).2.1, (HAT.out V ((H.bel HX.out.pm).trans (hV.mono (H.bel HX.out.pm).size))).2.2.1⟩)
      have KW := hide (KW.out w6.drew ((HF.out.own.kp HX.out.kp).below (Below.refl w6.heap.size w6).drew))
      go_upto_region 19 with (fail)
      go_region_held3 (fun w' => w'.cell? ⟨b, o + i * 5 + 1, none⟩ = some (.int .u8 key) ∧ w'.cell? ⟨b, o + i * 5 + 2, none⟩ = some (.int .u8 val))
        (first | with_reducible exact hS1 | with_reducible exact ⟨z1, z2⟩ | go_keep)
        (first
          | (with_reducible refine KW.out.mono ?_
             rintro e w7 ⟨vq, rfl, hov, hbv0⟩
             have hbv : Below w6.heap.size w6 w7 := ⟨hbv0.os, hbv0.tape, hbv0.output, hbv0.size, hbv0.block⟩
             have hS1 := KV.out w7 hbv
             obtain ⟨aq, cq, rfl⟩ := row_form hov
             obtain ⟨hFl, hgk⟩ := Fl.of H HF.out HX.out hov hbv
             have HL := hide hFl
             clear hov hbv hbv0 hFl))
      clear hS1 z0 z1 z2 KV KW KS HX
      go_upto_region 22 with (fail)
    all_goals
      obtain ⟨e0, e1, e2, e3⟩ := HL.out.eb.four
      obtain ⟨y0, y1⟩ := HL.out.h5.two
      have f0 := Joins.unfrozen_of_block HL.out.h5 0
      have f1 := Joins.unfrozen_of_block HL.out.h5 1
      have HM := hide (HL.out.root H HF.out.b5 hgk)
      try clear z0 z1
      clear KW HAT xk1 xk2 xk3 hsb
      go_upto_region 24 with (fail)
      generalize World.setCell _ _ _ = w8 at HM ⊢
      clear HL e0 e1 e2 e3 y0 y1 f0 f1
      have huf := HF.out.uu
      have hu1 : U1 ≤ 31000 := by have := HY.out.1; omega
      have HDN := hide (HY.out.2.2.done hlv)
      have hcl := HF.out.len
      have hgl : gone.length ≤ 30 := by have h1 := HY.out.2.2.gl; have h2 := T.hds_prs; omega
      have H5 := hide (show ∀ V vw, OwnP V W.heap.size vw ps → P W V gm 200 U1 (frs A1 gone) → Hb V k5 T1.root.1 T1.root.2 → Fs P W V gm (i + 1) k5 vw T1 (frs A1 gone) U1 from fun V vw ho hp h5 =>
        ⟨hp, by have := HY.out.1; omega, HDN.out.1, by rw [HY.out.2.1]; exact hps, by rw [HDN.out.2, T1.hds_prs], h5, by rw [HY.out.2.1]; exact ho, HF.out.b5⟩)
      clear HF hlv huf hcl
      go_wp2_with fail
      go_loopw [10] (FlRel P W gm k5 ke U1 A1 T1.root am made.length cm ag cg gone (.slice aq ps.length cq) ps) (fun j _ => gone.length - (intOf j).toNat)
      case atStart => exact ⟨0, Nat.zero_le _, rfl, HM.out⟩
      case round =>
        clear HM
        obtain ⟨j, hj, rfl, F⟩ := hrel
        have HL := hide F
        obtain ⟨e0, e1, e2, e3⟩ := F.eb.four
        by_cases hlt2 : j < gone.length
        · obtain ⟨y, hy⟩ := HY.out.2.2.next hlt2
          obtain ⟨-, k1, k2⟩ := HY.out.2.2.all _ (List.getElem_mem hlt2)
          have hgs := F.og.at
          obtain ⟨bg, og, rfl, hat2⟩ := hgs.lit (by omega)
          obtain ⟨t0, t1⟩ := hat2.two j hlt2
          have HT := hide (frs_take (A := A1) j hlt2)
          have j0 : (0 : Int) ≤ (j : Int) := by omega
          have j1 : (j : Int) < (gone.length : Int) := by omega
          generalize gone[j] = gg at *
          obtain ⟨gs, gt⟩ := gg
          simp only at hy k1 k2 t0 t1 HT
          have KF := hide (H.free gs gt y F.pm (by omega) hy k1 k2)
          rw [← HT.out] at KF
          clear F hat2 hgs hy k1 k2 HDN
          go_wp2_with fail
          refine KF.out.mono ?_
          rintro e w9 ⟨rfl, hp9, hk9⟩
          have HL2 := hide (HL.out.kp hk9 hp9)
          clear hp9 hk9 KF HL e0 e1 e2 e3 t0 t1 HT
          go_wp2_with fail
          go_roundw
          case rel => exact ⟨j + 1, by omega, by go_num, HL2.out⟩
          case measure => simp [intOf]; omega
        · obtain rfl : j = gone.length := by omega
          rw [List.take_length] at HL F
          have hh := HDN.out.1.bal.high9 (by rw [HY.out.2.1]; omega)
          obtain ⟨y0, y1⟩ := F.h5.two
          have KW := hide (walk_any gm (frs A1 gone).get T1 HDN.out.1.lies HDN.out.1.bal (by rw [HY.out.2.1]; omega) 40 (by omega) (by omega) wr (H.load F.pm (by omega)))
          have HPS := hide HY.out.2.1
          have HHD := hide (show T1.hds.length = ps.length by rw [T1.hds_prs, HPS.out])
          have hps2 : ps.length ≤ 30 := by omega
          have HLV := hide (show (frs A1 gone).live = ps.length by rw [HDN.out.2, HPS.out])
          clear F hj hlt2 HDN HY hh
          go_wp2_with fail
          refine KW.out.mono ?_
          rintro e w9 ⟨vp, vh, rfl, ho, hoh, hb⟩
          rw [HPS.out] at ho
          obtain ⟨ap, cp, rfl⟩ := row_form ho
          obtain ⟨ah, ch, rfl⟩ := row_form hoh
          rw [HHD.out]
          have HO := hide ho
          have HL9 := hide (HL.out.kp (Kp.of_below hb) (H.below HL.out.pm hb))
          clear ho hoh hb KW HL y0 y1 e0 e1 e2 e3
          have KS := hide (psame_any ap cp ps aq cq ps (by omega) (by omega) w9 HO.out.at HL9.out.own.at)
          rw [decide_eq_true rfl] at KS
          have KV := hide (fun (V : World) (hV : Below w9.heap.size w9 V) => H.live (H.below HL9.out.pm hV) (by omega))
          have KR := hide (fun (V : World) (hV : Below w9.heap.size w9 V) => H.room (H.below HL9.out.pm hV) (by omega))
          rw [HLV.out] at KV KR
          have hne : ((ps.length : Int) != (ps.length : Int)) = false := by simp
          have hr1 : IntKind.i64.wrap (200 - (ps.length : Int)) = 200 - (ps.length : Int) := wrap_in _ (by omega) (by omega)
          have hr2 : (((200 - ps.length : Nat) : Int) != 200 - (ps.length : Int)) = false := by simp; omega
          have hr3 : ((200 - ps.length : Nat) : Int) = 200 - (ps.length : Int) := by omega
          clear HO
          go_wp2_with fail
          refine KS.out.mono ?_
          rintro e w10 ⟨rfl, hb⟩
          have B10 := hide hb
          clear hb KS
          go_wp2_with fail
          refine (KV.out w10 B10.out).mono ?_
          rintro e w11 ⟨rfl, hb⟩
          have B11 := hide (B10.out.trans (hb.mono B10.out.size))
          clear hb KV B10
          go_wp2_with fail
          refine (KR.out w11 B11.out).mono ?_
          rintro e w12 ⟨rfl, hb⟩
          have B12 := hide (B11.out.trans (hb.mono B11.out.size))
          clear hb KR B11
          have HN := hide (H5.out w12 _ (HL9.out.own.below B12.out) (H.below HL9.out.pm B12.out) (HL9.out.h5.below B12.out))
          clear HL9 B12 H5
          go_wp2_with fail
          go_roundw
          case rel => exact ⟨i + 1, T1, _, U1, by omega, by go_num, HN.out⟩
          case measure => simp [intOf]; omega
end Go.Proofs.Ytcckamajiebgeaa
