/-
  PmapNew returns true, if the program keeps the contracts. Condition: these.
-/
import Derived.Test.YtcckamajiebgeaaPAwake
import Derived.Test.YtcckamajiebgeaaEHand
import Derived.IntWalk
namespace Go.Proofs.Ytcckamajiebgeaa
open Go.RowKit
set_option linter.unusedVariables false
set_option linter.unusedSimpArgs false
set_option maxRecDepth 100000

theorem made_one {T : Tr} {k v : Int} {made gone : List (Int × Int)} (hp : T.prs = [(k, v)]) (hm : made.Perm (miH T.hds (Tr.nil).hds)) (hg : gone.Perm (miH (Tr.nil).hds T.hds)) : made = [T.root] ∧ gone = [] := by
  obtain ⟨g, rfl⟩ := Tr.one_of hp
  have e1 : miH (Tr.node g k v .nil .nil).hds (Tr.nil).hds = [g] := by simp [miH, Tr.hds]
  have e2 : miH (Tr.nil).hds (Tr.node g k v .nil .nil).hds = [] := by simp [miH, Tr.hds]
  rw [e1] at hm
  rw [e2] at hg
  exact ⟨List.perm_singleton.1 hm, List.perm_nil.1 hg⟩
theorem handles_same {w : World} {A B : Option Addr} {c d : Nat} {l : List (Int × Int)} (hn : l.length ≤ 1000000) (h : Hs w A c l) (h' : Hs w B d l) : Calls Try.prog 28 #[.slice A l.length c, .slice B l.length d] w (BoolRet true w) := by
  have := handles_any A c l B d l hn hn w h h'
  rwa [show decide (l = l) = true from decide_eq_true rfl] at this
set_option maxHeartbeats 2000000 in
theorem pmapNew_walk {P : MapPred} (H : MapOk P) (n k v : Int) (W : World) (hn : (Lit.int .i64 n).wf = true) (hk : (Lit.int .i64 k).wf = true) (hv : (Lit.int .i64 v).wf = true) :
    Calls Try.prog 7 #[.int .i64 n, .int .i64 k, .int .i64 v] W (TrueRet W) := by
  have bn : i64B n := by have := bounds_i64 hn; unfold i64B; omega
  have bk : i64B k := by have := bounds_i64 hk; unfold i64B; omega
  have bv : i64B v := by have := bounds_i64 hv; unfold i64B; omega
  clear hn hk hv
  go_enter Try.func7, Try.ntmps7
  go_wp2_with fail
  refine (awake_any H W).mono ?_
  rintro e w1 ⟨rfl, hb1⟩
  have B1 := hide hb1
  clear hb1
  by_cases hr : n < 0 ∨ 1048576 < n
  · have K1 := hide (H.newNo w1 n hr bn)
    unfold cmpV at K1
    go_wp2_with fail
    refine K1.out.mono ?_
    rintro e w2 ⟨rfl, hb2⟩
    have B2 := hide (B1.out.trans (hb2.mono B1.out.size))
    have K2 := hide (H.newNil w2 n bn)
    clear hb2 K1 B1
    go_wp2_with fail
    refine K2.out.mono ?_
    rintro e w3 ⟨rfl, hb3⟩
    have B3 := hide (B2.out.trans (hb3.mono B2.out.size))
    clear hb3 K2 B2
    rcases hr with h | h
    · have d0 : decide (n < 0) = true := decide_eq_true h
      clear h
      go_wp2_with fail
      go_ret
      exact ⟨rfl, B3.out⟩
    · have d0 : decide (n < 0) = false := decide_eq_false (by omega)
      have d1 : decide (n > 1048576) = true := decide_eq_true (by omega)
      clear h
      go_wp2_with fail
      go_ret
      exact ⟨rfl, B3.out⟩
  · obtain ⟨n, rfl⟩ : ∃ m : Nat, n = m := ⟨n.toNat, by omega⟩
    have hn2 : n ≤ 1048576 := by omega
    clear hr
    have d0 : decide ((n : Int) < 0) = false := decide_eq_false (by omega)
    have d1 : decide ((n : Int) > 1048576) = false := decide_eq_false (by omega)
    have K1 := hide (H.new W w1 n hn2 B1.out)
    unfold cmpV at K1
    go_wp2_with fail
    refine K1.out.mono ?_
    rintro e w2 ⟨gm, rfl, hp, hb2⟩
    have HP2 := hide hp
    have K2 := hide (H.newNil w2 n bn)
    clear hb2 hp K1 B1
    go_wp2_with fail
    refine K2.out.mono ?_
    rintro e w3 ⟨rfl, hb3⟩
    have HP3 := hide (H.below HP2.out hb3)
    clear hb3 K2 HP2
    by_cases h0 : n = 0
    · subst h0
      have K3 := hide (H.putNo k v HP3.out (by omega) bk bv)
      go_wp2_with fail
      refine K3.out.mono ?_
      rintro e w4 ⟨vm, vg, rfl, hm, hg, hp, hkp⟩
      obtain ⟨am, cm, rfl⟩ := row_form hm
      obtain ⟨ag, cg, rfl⟩ := row_form hg
      have HP4 := hide hp
      have K4 := hide (fun (V : World) (hV : Below w4.heap.size w4 V) => H.live (H.below hp hV) (by omega))
      have BE := hide (fun (V : World) (hV : Below w4.heap.size w4 V) => H.bel (H.below hp hV))
      rw [show (⟨[], []⟩ : Ar).live = 0 from rfl] at K4
      clear hp hm hg hkp K3 HP3
      unfold edv
      go_upto_region 9 with (fail)
      have D := hide ((Below.refl w4.heap.size w4).alloc (Nat.le_refl _) (.cells #[.int .i64 0, .int .i64 0, .slice am ([] : List (Int × Int)).length cm, .slice ag ([] : List (Int × Int)).length cg] 34))
      simp only [List.length_nil] at D
      generalize w4.alloc _ = w5 at D ⊢
      have K5 := hide (K4.out w5 D.out)
      go_wp2_with fail
      refine K5.out.mono ?_
      rintro e w6 ⟨rfl, hb6⟩
      have BF := hide (BE.out w6 (D.out.trans (hb6.mono D.out.size)))
      clear hb6 K5 K4 BE D HP4
      go_wp2_with fail
      go_ret
      exact ⟨rfl, BF.out⟩
    · have dn : ((n : Int) == 0) = false := by simp; omega
      have K3 := hide (H.put .nil k v HP3.out (by omega) (Stands.nil _) (by simp [Tr.prs]) (by simp [Tr.high, Ar.live]; omega) bk bv)
      simp only [Tr.root] at K3
      have hn1 : 1 ≤ n := by omega
      clear h0
      go_wp2_with fail
      refine K3.out.mono ?_
      rintro e w4 ⟨vm, vg, T1, A1, U1, made, gone, rfl, E⟩
      have hp1 : T1.prs = [(k, v)] := E.prs
      obtain ⟨hmade, hgone⟩ := made_one hp1 E.mad E.gn
      have hl1 : A1.live = 1 := by have h1 := E.live; rw [hmade] at h1; simpa [Ar.live] using h1
      have hu1 : U1 ≤ 1000 := by have := E.uu; omega
      have HP4 := hide E.pm
      have HM := hide E.om
      have HG := hide E.og
      obtain ⟨⟨s1, t1⟩, hT1⟩ := Tr.one_of hp1
      have hlies := E.st.lies
      rw [hT1] at hlies
      obtain ⟨f1, f2, f3, f4, f5, f6⟩ := hlies
      simp only at f1 f2 f3 f4
      rw [show Tr.nd (s1, t1) k v .nil .nil = ⟨k, v, (0, 0), (0, 0), 1⟩ from rfl] at f1
      rw [show T1.root = (s1, t1) by rw [hT1]; rfl] at hmade ⊢
      subst hmade hgone
      obtain ⟨am, cm, rfl⟩ := row_form E.om
      obtain ⟨ag, cg, rfl⟩ := row_form E.og
      have HF := hide f1
      clear E K3 hp1 f1 f2 f5 f6 hT1
      unfold edv
      go_upto_region 9 with (fail)
      have D := (Below.refl w4.heap.size w4).alloc (Nat.le_refl _) (.cells #[.int .i64 s1, .int .i64 t1, .slice am ([(s1, t1)] : List (Int × Int)).length cm, .slice ag ([] : List (Int × Int)).length cg] 34)
      have X := hide (Eb.new w4 (s1, t1) (.slice am ([(s1, t1)] : List (Int × Int)).length cm) (.slice ag ([] : List (Int × Int)).length cg))
      have HP5 := hide (H.below HP4.out D)
      have HMs := hide ((HM.out.at).below D)
      simp only [List.length_nil, List.length_cons, Nat.zero_add] at X HP5 HMs ⊢
      clear HP4 D HM HG
      generalize w4.heap.size = k4 at X HMs ⊢
      generalize w4.alloc _ = w5 at X HP5 HMs ⊢
      have KL := hide (H.load HP5.out (by omega) w5 s1 t1 (Below.refl _ _) f3 f4)
      rw [HF.out] at KL
      obtain ⟨x0, x1, -, -⟩ := X.out.four
      simp only at x0 x1
      go_wp2_with fail
      refine KL.out.mono ?_
      unfold GetRet
      simp only [Option.getD_some, Option.isSome_some, ndv]
      rintro e w6 ⟨rfl, hb6⟩
      have HP6 := hide (H.below HP5.out hb6)
      have X6 := hide (X.out.below hb6)
      have HM6 := hide (HMs.out.below hb6)
      clear hb6 KL HP5 X x0 x1 HMs
      go_upto_region 12 with (fail)
      have D := (Below.refl w6.heap.size w6).alloc (Nat.le_refl _) (.cells #[.int .i64 k, .int .i64 v, .int .i64 0, .int .i64 0, .int .i64 0, .int .i64 0, .int .i64 1] 60)
      have HZ := hide (heap_alloc_new w6 (.cells #[.int .i64 k, .int .i64 v, .int .i64 0, .int .i64 0, .int .i64 0, .int .i64 0, .int .i64 1] 60))
      have HP7 := hide (H.below HP6.out D)
      have X7 := hide (X6.out.below D)
      have HM7 := hide (HM6.out.below D)
      clear D X6 HP6 HM6
      generalize w6.heap.size = k6 at *
      generalize w6.alloc (.cells #[.int .i64 k, .int .i64 v, .int .i64 0, .int .i64 0, .int .i64 0, .int .i64 0, .int .i64 1] 60) = w7 at *
      have D := (Below.refl w7.heap.size w7).alloc (Nat.le_refl _) (.cells #[.int .i64 s1, .int .i64 t1] 28)
      have hs1 := (Hb.new w7 s1 t1).hs
      have KH := hide (handles_same (by simp) (HM7.out.below D) hs1)
      have HP8 := hide (H.below HP7.out D)
      have K9 := hide (fun (V : World) (hV : Below (w7.alloc (.cells #[.int .i64 s1, .int .i64 t1] 28)).heap.size (w7.alloc (.cells #[.int .i64 s1, .int .i64 t1] 28)) V) => H.room (H.below HP8.out hV) (by omega))
      rw [hl1] at K9
      have BE := hide (fun (V : World) (hV : Below (w7.alloc (.cells #[.int .i64 s1, .int .i64 t1] 28)).heap.size (w7.alloc (.cells #[.int .i64 s1, .int .i64 t1] 28)) V) => H.bel (H.below HP8.out hV))
      have hx := X7.out
      have X8 := hide (X7.out.below D)
      have ws : IntKind.i64.wrap ((n : Int) - 1) = (n : Int) - 1 := wrap_in _ (by omega) (by omega)
      have e0 : ((n : Int) - ((1 : Nat) : Int)) = (n : Int) - 1 := rfl
      obtain ⟨x0, x1, x2, x3⟩ := hx.four
      obtain ⟨z0, z1, z2, z3, z4, z5, z6, -⟩ := nd_cells HZ.out
      simp only [List.length_cons, List.length_nil, Nat.zero_add] at KH x0 x1 x2 x3
      clear D hs1 HM7 X7 HZ HP7 hx
      go_wp2_with fail
      refine KH.out.mono ?_
      rintro e w8 ⟨rfl, hb8⟩
      have K9 := hide (K9.out w8 hb8)
      have BE := hide (fun (V : World) (hV : Below w8.heap.size w8 V) => BE.out V (hb8.trans (hV.mono hb8.size)))
      obtain ⟨x0, x1, x2, x3⟩ := (X8.out.below hb8).four
      clear hb8 KH X8
      go_wp2_with fail
      refine K9.out.mono ?_
      rintro e w9 ⟨rfl, hb9⟩
      have BF := hide (BE.out w9 hb9)
      clear hb9 K9 BE
      go_wp2_with fail
      go_ret
      exact ⟨by simp; omega, BF.out⟩
end Go.Proofs.Ytcckamajiebgeaa
