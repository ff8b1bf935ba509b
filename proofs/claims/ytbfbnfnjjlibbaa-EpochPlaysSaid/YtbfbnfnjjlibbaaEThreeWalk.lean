/-
  EpochThree returns true. No conditions.
-/
import Derived.Test.YtbfbnfnjjlibbaaEAwake
import Derived.Test.YtbfbnfnjjlibbaaEArg
namespace Go.Proofs.Ytbfbnfnjjlibbaa
open Go.RowKit
set_option linter.unusedVariables false
set_option linter.unusedSimpArgs false
set_option maxRecDepth 100000

def ETRel (W : World) (g n : Nat) (vo vi : Value) (wr : World) : Prop := ∃ i : Nat, i ≤ n ∧ vi = .int .i64 (i : Int) ∧ ∃ now q out, now ≤ i ∧ q.length ≤ i * 10 ∧ Pst q now ∧ Ez W wr g now q ∧ q.map Prod.fst = out ∧ OwnH wr W.heap.size vo out
theorem fst_reti (q : List Wp) (l : List (Int × Int)) (now : Nat) : (q ++ l.map fun x => (x, now)).map Prod.fst = q.map Prod.fst ++ l := by
  rw [List.map_append, List.map_map]
  congr 1
  exact List.map_id l
theorem handles_same {w : World} {A B : Option Addr} {c d : Nat} {l : List (Int × Int)} (hn : l.length ≤ 1000000) (h : Hs w A c l) (h' : Hs w B d l) : Calls Try.prog 15 #[.slice A l.length c, .slice B l.length d] w (BoolRet true w) := by
  have := handles_any A c l B d l hn hn w h h'
  rwa [show decide (l = l) = true from decide_eq_true rfl] at this
set_option maxHeartbeats 4000000 in
theorem epochThree_walk (p : Option Addr) (len cap : Nat) (l : List Ec) (W : World) (h : IsEcs W p len cap l) :
    Calls Try.prog 5 #[.slice p len cap] W (TrueRet W) := by
  obtain rfl := h.leq
  have c1 := h.le
  have c2 := h.most
  unfold maxLen at c2
  have HI := hide h
  clear h
  go_enter Try.func5, Try.ntmps5
  go_wp2_with fail
  refine (awake_any W).mono ?_
  rintro e w1 ⟨rfl, hb1⟩
  have B1 := hide hb1
  clear hb1
  by_cases h2 : 40 < l.length
  · have e2 : decide ((l.length : Int) > 40) = true := by simp; omega
    go_wp2
    go_ret
    exact ⟨rfl, B1.out⟩
  have e2 : decide ((l.length : Int) > 40) = false := by simp; omega
  go_wp2_with fail
  refine (znew_any (w0 := W) B1.out).mono ?_
  rintro e w2 ⟨rfl, hz, hb2⟩
  have HZ := hide hz
  clear hz hb2 e2
  generalize w1.heap.size = g at *
  go_wp2_with fail
  go_loopw [5, 6] (ETRel W g l.length) (fun _ i _ => l.length - (intOf i).toNat)
  case atStart => exact ⟨0, Nat.zero_le _, rfl, 0, [], [], Nat.le_refl _, Nat.le_refl _, Pst.nil 0, HZ.out, rfl, OwnH.nil _ _⟩
  case round =>
    obtain ⟨i, hi, rfl, now, q, out, hnow, hql, hq, hz, heq, ho⟩ := hrel
    have HEQ := hide heq
    have hol : out.length ≤ i * 10 := by rw [← heq, List.length_map]; exact hql
    clear heq
    have HZ := hide hz
    have HO := hide ho
    have HP := hide hq
    have BW := hide hz.bel
    obtain ⟨ao, co, rfl⟩ := row_form ho
    by_cases hlt : i < l.length
    · obtain ⟨b, o, rfl, hc⟩ := HI.out.lit (by omega)
      obtain ⟨x0, x1, x2⟩ := hc i hlt
      obtain ⟨o1, o2, o3, o4⟩ := HI.out.ok l[i] (List.getElem_mem hlt)
      have KX := hide (fun (V : World) (hb : Below W.heap.size W V) => show V.cell? ⟨b, o + i * 3, none⟩ = some (.int .i64 l[i].k) ∧ V.cell? ⟨b, o + i * 3 + 2, none⟩ = some (.slice l[i].a l[i].l.length l[i].c) ∧ Hs V l[i].a l[i].c l[i].l from ⟨cell_b hb x0, cell_b hb x2, o3.below hb⟩)
      have KA := hide (fun (V : World) (hp : 0 < l[i].l.length) => o3.apart (w := V) hp)
      have i0 : (0 : Int) ≤ (i : Int) := by omega
      have i1 : (i : Int) < (l.length : Int) := by omega
      clear hz ho hc x0 x1 x2 o1 o2 o3 o4 hq
      generalize l[i] = ac at *
      obtain ⟨kd, n, ha, hc, hs⟩ := ac
      simp only at KX KA
      obtain ⟨x0, x2, -⟩ := KX.out wr BW.out
      by_cases h10 : 10 < hs.length
      · have e2 : decide ((hs.length : Int) > 10) = true := by simp; omega
        go_wp2_with fail
        go_ret
        exact ⟨rfl, BW.out⟩
      · have e2 : decide ((hs.length : Int) > 10) = false := by simp; omega
        have hs10 : hs.length ≤ 10 := by omega
        clear h10
        by_cases hk : kd = 0
        · have d0 : (kd == 0) = true := by simpa using hk
          have K := hide (zadv_any (by omega) HZ.out)
          clear hk
          go_wp2_with fail
          refine K.out.mono ?_
          rintro e w3 ⟨rfl, hz, hk3⟩
          have HZ := hide hz
          have HO := hide (HO.out.kq hk3)
          clear hz hk3 K x0 x2
          go_wp2_with fail
          go_roundw
          case rel => exact ⟨i + 1, by omega, by go_num, now + 1, q, out, by omega, by omega, HP.out.later (by omega), HZ.out, HEQ.out, HO.out⟩
          case measure => simp [intOf]; omega
        · have d0 : (kd == 0) = false := by simpa using hk
          have K := hide (zret_any (by omega) (KX.out wr BW.out).2.2 (KA.out wr) HZ.out)
          clear hk
          go_wp2_with fail
          refine K.out.mono ?_
          rintro e w3 ⟨rfl, hz, hk3⟩
          have HZ := hide hz
          have HO := hide (HO.out.kq hk3)
          obtain ⟨x0, x2, hHs⟩ := KX.out w3 hz.bel
          have HHs := hide hHs
          have hbs := hz.bel.size
          have HF := hide (show (q ++ hs.map fun x => (x, now)).map Prod.fst = out ++ hs by rw [fst_reti, HEQ.out])
          have HPR := hide (HP.out.retire hs)
          have HLN := hide (show (q ++ hs.map fun x => (x, now)).length ≤ (i + 1) * 10 by rw [List.length_append, List.length_map]; omega)
          clear hz hk3 K hHs
          go_wp2_with (at_builtin; refine wpList_append_h _ rfl _ _ rfl W.heap.size (.slice ao out.length co) out rfl HO.out ha hc hs rfl HHs.out (by omega) hbs ?_; intro A5 c5 w5 hown5 hg5 _; have HZ5 := hide (HZ.out.grownH HO.out hg5); have HO5 := hide hown5; clear hown5 hg5)
          go_roundw
          case rel => exact ⟨i + 1, by omega, by go_num, now, _, _, by omega, HLN.out, HPR.out, HZ5.out, HF.out, by simpa using HO5.out⟩
          case measure => simp [intOf]; omega
    · obtain rfl : i = l.length := by omega
      have K := hide (zwait_any (by omega) HZ.out)
      rw [HEQ.out] at K
      have H3 := hide (HP.out.three (least := 4611686018427387904) (by omega))
      have K1 := hide (fun (V : World) (h : Ez W V g now q) => zadv_any (by omega) h)
      have K2 := hide (fun (V : World) (h : Ez W V g (now + 1) q) => zadv_any (by omega) h)
      have K3 := hide (fun (V : World) (h : Ez W V g (now + 1 + 1) q) => zadv_any (by omega) h)
      have K4 := hide (fun (V : World) (h : Ez W V g (now + 3) q) => show Calls Try.prog 13 #[.pointer (some ⟨g, 0, none⟩), .int .i64 4611686018427387904] V (EzOut out W g (now + 3) [] V) from by
        have := zfree_any 4611686018427387904 (by omega) (by omega) (HP.out.later (by omega)) h
        rw [H3.out.1, H3.out.2, HEQ.out] at this
        exact this)
      have K5 := hide (fun (V : World) (h : Ez W V g (now + 3) []) => show Calls Try.prog 13 #[.pointer (some ⟨g, 0, none⟩), .int .i64 4611686018427387904] V (EzOut [] W g (now + 3) [] V) from zfree_any 4611686018427387904 (by simp) (by omega) (Pst.nil _) h)
      have K6 := hide (fun (V : World) (h : Ez W V g (now + 3) []) => show Calls Try.prog 17 #[.pointer (some ⟨g, 0, none⟩)] V (HsRet [] V) from zwait_any (by simp) h)
      have ho6 : out.length ≤ 1000000 := by omega
      clear hz ho hq H3
      go_wp2_with fail
      refine K.out.mono ?_
      rintro e w3 ⟨v3, rfl, ho3, hb3⟩
      obtain ⟨a3, c3, rfl, hs3⟩ := ho3.hs
      have HZ := hide (HZ.out.below hb3)
      have HO := hide (HO.out.below hb3)
      have KH := hide (show Calls Try.prog 15 #[.slice a3 out.length c3, .slice ao out.length co] w3 (BoolRet true w3) from by
        obtain ⟨A', c', e', hs'⟩ := HO.out.hs
        injection e' with e1 e2 e3
        subst e1 e3
        exact handles_same ho6 hs3 hs')
      clear ho3 hb3 hs3 K
      go_wp2_with fail
      refine KH.out.mono ?_
      rintro e w4 ⟨rfl, hb4⟩
      have HZ := hide (HZ.out.below hb4)
      have HO := hide (HO.out.below hb4)
      clear hb4 KH
      go_wp2_with fail
      refine (K1.out w4 HZ.out).mono ?_
      rintro e w5 ⟨rfl, hz, hk5⟩
      have HZ := hide hz
      have HO := hide (HO.out.kq hk5)
      clear hz hk5 K1
      go_wp2_with fail
      refine (K2.out w5 HZ.out).mono ?_
      rintro e w6 ⟨rfl, hz, hk6⟩
      have HZ := hide hz
      have HO := hide (HO.out.kq hk6)
      clear hz hk6 K2
      go_wp2_with fail
      refine (K3.out w6 HZ.out).mono ?_
      rintro e w7 ⟨rfl, hz, hk7⟩
      have HZ := hide (show Ez W w7 g (now + 3) q from hz)
      have HO := hide (HO.out.kq hk7)
      clear hz hk7 K3
      go_wp2_with fail
      refine (K4.out w7 HZ.out).mono ?_
      rintro e w8 ⟨v8, rfl, ho8, hz, hk8⟩
      have HZ := hide hz
      have HO := hide (HO.out.kq hk8)
      have HO8 := hide ho8
      obtain ⟨a8, c8, rfl⟩ := row_form ho8
      clear hz hk8 K4 ho8
      go_wp2_with fail
      refine (K5.out w8 HZ.out).mono ?_
      rintro e w9 ⟨v9, rfl, ho9, hz, hk9⟩
      have HZ := hide hz
      have HO := hide (HO.out.kq hk9)
      have HO8 := hide (HO8.out.kq hk9)
      obtain ⟨a9, c9, rfl⟩ := row_form ho9
      clear hz hk9 K5 ho9
      have KH := hide (show Calls Try.prog 15 #[.slice a8 out.length c8, .slice ao out.length co] w9 (BoolRet true w9) from by
        obtain ⟨A', c', e', hs'⟩ := HO.out.hs
        injection e' with e1 e2 e3
        subst e1 e3
        obtain ⟨A', c', e', hs8⟩ := HO8.out.hs
        injection e' with e1 e2 e3
        subst e1 e3
        exact handles_same ho6 hs8 hs')
      go_wp2_with fail
      refine KH.out.mono ?_
      rintro e w10 ⟨rfl, hb10⟩
      have HZ := hide (HZ.out.below hb10)
      clear hb10 KH HO HO8
      go_wp2_with fail
      refine (K6.out w10 HZ.out).mono ?_
      rintro e w11 ⟨v11, rfl, ho11, hb11⟩
      have BE := hide (HZ.out.below hb11).bel
      obtain ⟨a11, c11, rfl⟩ := row_form ho11
      clear hb11 ho11 K6
      go_wp2_with fail
      go_ret
      exact ⟨rfl, BE.out⟩
end Go.Proofs.Ytbfbnfnjjlibbaa
