/-
  The walk of TreeAsked. Conditions: those of the statement.
-/
import Derived.Test.YtlcmkikjgelfaaaDoorTRef6
namespace Go.Proofs.YtlcmkikjgelfaaaDoor
open Go.RowKit Go.Maps
set_option linter.unusedVariables false
set_option linter.unusedSimpArgs false
set_option maxRecDepth 100000

theorem ofT_name' (ts : List T5) : ∀ o ∈ ts.map ofT, o.l.length ≤ 1000 := by
  intro o ho
  obtain ⟨t, _, rfl⟩ := List.mem_map.1 ho
  show ([b8 (97 + t.f % 8)] : List UInt8).length ≤ 1000
  simp
set_option maxHeartbeats 4000000 in
theorem treeAsked_in (a : Option Addr) (cap : Nat) (ts : List T5) (x y : Int) (l : List UInt8) (W : World) (hts : Tns W a cap ts) (hok : ∀ t ∈ ts, t.ok)
    (hx : i64B x) (hy : i64B y) (hl : (bs l).size ≤ maxLen) (hE : Env W) :
    Calls Tryd.prog 4 #[.slice a ts.length cap, .int .i64 x, .int .i64 y, .string (bs l)] W (TrueRet W) := by
  have HT := hide hts
  have HK := hide hok
  have HE := hide hE
  have hsz := bs_size l
  clear hts hok hE hl
  go_enter Tryd.func4, Tryd.ntmps4
  go_wp2_with fail
  refine (awake_any _ HE.out).mono ?_
  rintro e w1 ⟨rfl, hb⟩
  have B1 := hide hb
  clear hb
  by_cases h1 : ts.length ≤ 30
  · have d1 : decide ((ts.length : Int) > 30) = false := by simp; omega
    by_cases h2 : l.length ≤ 500
    · have d2 : decide (((bs l).size : Int) > 500) = false := by rw [hsz]; simp; omega
      have d3 : decide ((l.length : Int) > 500) = false := by simp; omega
      go_wp2_with fail
      clear d1 d2 d3 hsz
      refine (all_any a cap ts w1 (by omega) HK.out (HT.out.below B1.out)).mono ?_
      rintro e w2 ⟨v2, rfl, hown, hb⟩
      have B2 := hide (B1.out.trans (hb.mono B1.out.size))
      obtain ⟨A2, c2, rfl, p2⟩ := hown.ops
      have P2 := hide p2
      have KG := hide (grown_any A2 c2 (ts.map ofT) w2 (by simp; omega) (ofT_name ts) (HE.out.below B2.out) p2)
      have KO := hide (fun W hW => rof_any A2 c2 (ts.map ofT) W (by simp; omega) (ofT_name' ts) hW)
      have hrl := runS_len (ts.map ofT)
      have hhl := (runS_hst (ts.map ofT)).len
      have hml : (ts.map ofT).length ≤ 30 := by simpa using h1
      generalize ts.map ofT = os at KG P2 hrl hml KO hhl
      clear hown hb p2 B1
      go_wp2_with fail
      refine KG.out.mono ?_
      rintro e w3 ⟨g, fs, rfl, hL⟩
      have L3 := hide hL
      have P3 := hide (P2.out.below hL.bel)
      clear hL KG P2
      go_wp2_with fail
      refine (KO.out _ P3.out).mono ?_
      rintro e w4 ⟨g2, rfl, hR⟩
      have L4 := hide (L3.out.below hR.bel)
      obtain ⟨vL, vW, vs, hRm, _, _⟩ := hR
      have R4 := hide hRm
      generalize runS os = s at L4 R4 hrl hhl
      obtain ⟨L, r⟩ := s
      simp only at hrl hhl R4
      have hLn : L.length ≤ 30 := by omega
      clear hRm KO P3 L3 hrl hhl hml
      have KF := hide (tfind_any g L r fs l (by omega) w4 ((HE.out.below B2.out).below L4.out.bel) L4.out.tr)
      go_wp2_with fail
      refine KF.out.mono ?_
      rintro e w5 ⟨rfl, hb⟩
      have L5 := hide (L4.out.below hb)
      have R5 := hide (R4.out.below hb)
      clear hb KF L4 R4
      have KF := hide (rfind_any g2 vL vW L l (by omega) (by omega) w5 R5.out.rl)
      generalize findN L l = fn at KF ⊢
      generalize findE L l = fe at KF ⊢
      go_wp2_with fail
      refine KF.out.mono ?_
      rintro e w6 ⟨rfl, hb⟩
      have L6 := hide (L5.out.below hb)
      have R6 := hide (R5.out.below hb)
      clear hb KF L5 R5
      have KA := hide (tabove_any g L r fs x y hx hy w6 L6.out.tr)
      go_wp2_with fail
      refine KA.out.mono ?_
      rintro e w7 ⟨rfl, hb⟩
      have L7 := hide (L6.out.below hb)
      have R7 := hide (R6.out.below hb)
      clear hb KA L6 R6
      have KA := hide (rabove_any g2 vL vW L x y (by omega) w7 R7.out.rl)
      generalize abv L x y = ab at KA ⊢
      go_wp2_with fail
      refine KA.out.mono ?_
      rintro e w8 ⟨rfl, hw⟩
      subst hw
      clear KA
      have KN := hide (tknown_any g L r fs x hx w8 L7.out.tr)
      have KM := hide (rknown_any g2 vL vW L x (by omega) w8 R7.out.rl)
      generalize isKn L x = kn at KN KM
      go_wp2_with fail
      refine KN.out.mono ?_
      rintro e w9 ⟨rfl, hw⟩
      subst hw
      go_wp2_with fail
      refine KM.out.mono ?_
      rintro e wa ⟨rfl, hw⟩
      subst hw
      clear KN KM
      have KS := hide (tspot_any g L r fs y hy wa L7.out.tr)
      go_wp2_with fail
      refine KS.out.mono ?_
      rintro e wb ⟨rfl, hb⟩
      have L8 := hide (L7.out.below hb)
      have R8 := hide (R7.out.below hb)
      clear hb KS L7 R7
      have KS := hide (rspot_any g2 vL vW L y (by omega) wb R8.out.rl)
      go_wp2_with fail
      refine KS.out.mono ?_
      rintro e wd ⟨rfl, hb⟩
      have L9 := hide (L8.out.below hb)
      clear hb KS L8 R8
      unfold spv
      generalize spI (fnd L y) = sI
      generalize spT (fnd L y) = sT
      generalize spN (fnd L y) = sN
      have hq := spot_eql sI sI sT sT sN sN
      simp only [and_self, decide_true] at hq
      go_wp2
      go_ret
      exact ⟨rfl, B2.out.trans (L9.out.bel.mono B2.out.size)⟩
    · have d2 : decide (((bs l).size : Int) > 500) = true := by rw [hsz]; simp; omega
      have d3 : decide ((l.length : Int) > 500) = true := by simp; omega
      go_wp2
      go_ret
      exact ⟨rfl, B1.out⟩
  · have d1 : decide ((ts.length : Int) > 30) = true := by simp; omega
    go_wp2
    go_ret
    exact ⟨rfl, B1.out⟩
theorem treeAsked_walk (a : Option Addr) (len cap : Nat) (ts : List T5) (x y : Int) (p : ByteArray) (W : World) (h : IsTns W a len cap ts)
    (hx : (Lit.int .i64 x).wf = true) (hy : (Lit.int .i64 y).wf = true) (hp : p.size ≤ maxLen) (hE : Env W) :
    Calls Tryd.prog 4 #[.slice a len cap, .int .i64 x, .int .i64 y, .string p] W (TrueRet W) := by
  obtain ⟨rfl, hts, hok⟩ := h
  have hx := bounds_i64 hx
  have hy := bounds_i64 hy
  have e := bs_of p
  rw [← e] at hp ⊢
  exact treeAsked_in a cap ts x y p.data.toList W hts hok (by unfold i64B; omega) (by unfold i64B; omega) hp hE
end Go.Proofs.YtlcmkikjgelfaaaDoor
