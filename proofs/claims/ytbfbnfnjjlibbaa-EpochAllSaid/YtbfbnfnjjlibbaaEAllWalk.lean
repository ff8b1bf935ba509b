/-
  EpochAll returns true. No conditions.
-/
import Derived.Test.YtbfbnfnjjlibbaaEThreeWalk
import Derived.Deep.DeepCutAuto
namespace Go.Proofs.Ytbfbnfnjjlibbaa
open Go.RowKit
set_option linter.unusedVariables false
set_option linter.unusedSimpArgs false
set_option maxRecDepth 100000

/-- What waits is numbered on. -/
def Na (W wr : World) (g i n gone : Nat) : Prop := ∃ now q, now ≤ i ∧ gone ≤ n ∧ n ≤ i * 10 ∧ q.map Prod.fst = nums gone (n - gone) ∧ Pst q now ∧ Ez W wr g now q
def NaRel (W : World) (g N : Nat) (vn vg vi : Value) (wr : World) : Prop := ∃ i n gone : Nat, i ≤ N ∧ vi = .int .i64 (i : Int) ∧ vn = .int .i64 (n : Int) ∧ vg = .int .i64 (gone : Int) ∧ Na W wr g i n gone
/-- While numbered handles are made. -/
def NbRel (W : World) (g now n0 m : Nat) (q : List Wp) (vn vh vk : Value) (wr : World) : Prop := ∃ k n : Nat, k ≤ m ∧ n = n0 + k ∧ vk = .int .i64 (k : Int) ∧ vn = .int .i64 (n : Int) ∧ ∃ l, l = nums n0 k ∧ OwnH wr W.heap.size vh l ∧ Ez W wr g now q
/-- While what went is looked at. -/
def NcRel (W1 : World) (g0 m : Nat) (vg vk : Value) (wr : World) : Prop := ∃ k n : Nat, k ≤ m ∧ n = g0 + k ∧ vk = .int .i64 (k : Int) ∧ vg = .int .i64 (n : Int) ∧ wr = W1
def NdRel (W1 : World) (m : Nat) (vk : Value) (wr : World) : Prop := ∃ k : Nat, k ≤ m ∧ vk = .int .i64 (k : Int) ∧ wr = W1
theorem handle_nq (a b : Int) (w : World) : (binOp .neq 43 (.agg #[.int .i64 a, .int .i64 b]) (.agg #[.int .i64 a, .int .i64 b])).run Try.prog w = .ok (.bool false) w := by
  rw [handle_ne]
  simp
theorem na_retire {q : List Wp} {gone n m now : Nat} (h : q.map Prod.fst = nums gone (n - gone)) (hg : gone ≤ n) : (q ++ (nums n m).map fun x => (x, now)).map Prod.fst = nums gone (n + m - gone) := by
  rw [fst_reti, h]
  obtain ⟨d, rfl⟩ := Nat.exists_eq_add_of_le hg
  rw [show gone + d - gone = d by omega, show gone + d + m - gone = d + m by omega, nums_append]
set_option maxHeartbeats 8000000 in
theorem epochAll_walk (p : Option Addr) (len cap : Nat) (l : List Ec) (W : World) (h : IsEcs W p len cap l) :
    Calls Try.prog 7 #[.slice p len cap] W (TrueRet W) := by
  obtain rfl := h.leq
  have c1 := h.le
  have c2 := h.most
  unfold maxLen at c2
  have HI := hide h
  clear h
  go_enter Try.func7, Try.ntmps7
  go_wp2_with fail
  refine (awake_any W).mono ?_
  rintro e w1 ⟨rfl, hb1⟩
  have B1 := hide hb1
  clear hb1
  by_cases h2 : 40 < l.length
  · have e2 : decide ((l.length : Int) > 40) = true := by simp; omega
    go_wp2
    go_ret
    exact ⟨rfl, B1.out⟩
  have e2 : decide ((l.length : Int) > 40) = false := by simp; omega
  go_wp2_with fail
  refine (znew_any (w0 := W) B1.out).mono ?_
  rintro e w2 ⟨rfl, hz, hb2⟩
  have HZ := hide hz
  clear hz hb2 e2
  generalize w1.heap.size = g at *
  go_wp2_with fail
  go_loopw [5, 6, 7] (NaRel W g l.length) (fun _ _ i _ => l.length - (intOf i).toNat)
  case atStart => exact ⟨0, 0, 0, Nat.zero_le _, rfl, rfl, rfl, 0, [], Nat.le_refl _, Nat.le_refl _, Nat.le_refl _, rfl, Pst.nil 0, HZ.out⟩
  case round =>
    obtain ⟨i, n, gone, hi, rfl, rfl, rfl, now, q, hnow, hgn, hn, hqn, hq, hz⟩ := hrel
    have HZ := hide hz
    have HP := hide hq
    have HQ := hide hqn
    have BW := hide hz.bel
    have hql : q.length ≤ n := by
      have := congrArg List.length hqn
      rw [List.length_map, nums_length] at this
      omega
    by_cases hlt : i < l.length
    · obtain ⟨b, o, rfl, hc⟩ := HI.out.lit (by omega)
      obtain ⟨x0, x1, x2⟩ := hc i hlt
      have KX := hide (fun (V : World) (hb : Below W.heap.size W V) => show V.cell? ⟨b, o + i * 3, none⟩ = some (.int .i64 l[i].k) ∧ V.cell? ⟨b, o + i * 3 + 1, none⟩ = some (.int .i64 l[i].n) ∧ V.cell? ⟨b, o + i * 3 + 2, none⟩ = some (.slice l[i].a l[i].l.length l[i].c) from ⟨cell_b hb x0, cell_b hb x1, cell_b hb x2⟩)
      have i0 : (0 : Int) ≤ (i : Int) := by omega
      have i1 : (i : Int) < (l.length : Int) := by omega
      clear hz hc x0 x1 x2 hq hqn
      generalize l[i] = ac at *
      obtain ⟨kd, ls, ha, hc, hs⟩ := ac
      simp only at KX
      obtain ⟨x0, x1, x2⟩ := KX.out wr BW.out
      by_cases h10 : 10 < hs.length
      · have e2 : decide ((hs.length : Int) > 10) = true := by simp; omega
        go_wp2_with fail
        go_ret
        exact ⟨rfl, BW.out⟩
      · have e2 : decide ((hs.length : Int) > 10) = false := by simp; omega
        have hs10 : hs.length ≤ 10 := by omega
        clear h10
        go_upto_region 14 with (fail)
        clear e2
        go_cut [40] (fun s40 wx => s40 = .int .i64 kd ∧ wx = wr)
        case first =>
          go_wp2_with fail
          go_meet
          exact ⟨rfl, rfl⟩
        case rest =>
          obtain ⟨rfl, rfl⟩ := hcut
          apply_assumption
          go_cut [5, 6, 7] (fun s5 s6 s7 wx => ∃ n' gone' : Nat, s5 = .int .i64 (n' : Int) ∧ s6 = .int .i64 (gone' : Int) ∧ s7 = .int .i64 (i : Int) ∧ Na W wx g (i + 1) n' gone')
          case first =>
            by_cases q0 : kd = 0
            · subst q0
              have K := hide (zadv_any (by omega) HZ.out)
              go_wp2_with fail
              refine K.out.mono ?_
              rintro e w3 ⟨rfl, hz, hk3⟩
              have HN := hide (show Na W w3 g (i + 1) n gone from ⟨now + 1, q, by omega, hgn, by omega, HQ.out, HP.out.later (by omega), hz⟩)
              clear hz hk3 K x0 x1 x2
              go_wp2_with fail
              go_meet
              exact ⟨n, gone, rfl, rfl, rfl, HN.out⟩
            · have d0 : (kd == 0) = false := by simpa using q0
              clear q0
              by_cases q1 : kd = 1
              · subst q1
                clear x0 x1 x2
                go_wp2_with fail
                go_loopw [5, 8, 9] (NbRel W g now n hs.length q) (fun _ _ k _ => hs.length - (intOf k).toNat)
                case atStart => exact ⟨0, n, Nat.zero_le _, rfl, rfl, rfl, [], rfl, OwnH.nil _ _, HZ.out⟩
                case round =>
                  obtain ⟨k, nk, hk, hnk, rfl, rfl, ln, hln, ho, hz⟩ := hrel
                  have HLN := hide hln
                  have HNK := hide hnk
                  have HO := hide ho
                  have HZ := hide hz
                  obtain ⟨-, -, x2⟩ := KX.out wr hz.bel
                  obtain ⟨ao, co, rfl⟩ := row_form ho
                  have hlen : ln.length ≤ 10 := by rw [hln, nums_length]; omega
                  have hnb : nk ≤ 410 := by omega
                  have hWs := hz.bel.size
                  clear hln hnk ho hz
                  by_cases hlt2 : k < hs.length
                  · have k0 : (0 : Int) ≤ (k : Int) := by omega
                    have k1 : (k : Int) < (hs.length : Int) := by omega
                    have D1 := (Below.refl wr.heap.size wr).alloc (Nat.le_refl _) (.cells #[.int .i64 ((nk : Int) + 1), .int .i64 1] 43)
                    have OA := hide (HO.out.below D1)
                    have NB := hide (Hb.new wr ((nk : Int) + 1) 1).hs
                    have HZa := hide (HZ.out.below D1)
                    have hbs := Nat.le_trans hWs D1.size
                    have HSN := hide (show ln ++ [((nk : Int) + 1, 1)] = nums n (k + 1) by rw [HLN.out, nums_snoc, HNK.out]; simp)
                    clear D1
                    go_wp2_with (at_builtin; refine wpList_append_h _ rfl _ _ rfl W.heap.size (.slice ao ln.length co) ln rfl OA.out (some ⟨wr.heap.size, 0, none⟩) 1 [((nk : Int) + 1, 1)] rfl NB.out (by simp only [List.length_singleton]; omega) hbs ?_; intro A5 c5 w5 hown5 hg5 _; have HZ5 := hide (HZa.out.grownH OA.out hg5); have HO5 := hide hown5; clear hown5 hg5)
                    go_roundw
                    case rel => exact ⟨k + 1, nk + 1, by omega, by have := HNK.out; omega, by go_num, by go_num, ln ++ [((nk : Int) + 1, 1)], HSN.out, by simpa using HO5.out, HZ5.out⟩
                    case measure => simp [intOf]; omega
                  · obtain rfl : k = hs.length := by omega
                    obtain ⟨A', c', e', hs'⟩ := HO.out.hs
                    injection e' with e1 e2 e3
                    subst e1 e3
                    have K := hide (zret_any (by omega) hs' (fun _ => HO.out.apart) HZ.out)
                    clear hs' e2
                    go_wp2_with fail
                    refine K.out.mono ?_
                    rintro e w3 ⟨rfl, hz, hk3⟩
                    have HN := hide (show Na W w3 g (i + 1) nk gone from ⟨now, _, by omega, by have := HNK.out; omega, by have := HNK.out; omega, by rw [HLN.out, HNK.out]; exact na_retire HQ.out hgn, HP.out.retire ln, hz⟩)
                    clear hz hk3 K x2
                    go_wp2_with fail
                    go_meet
                    exact ⟨nk, gone, rfl, rfl, rfl, HN.out⟩
              · have d1 : (kd == 1) = false := by simpa using q1
                clear q1
                obtain ⟨k, hk, f1, f2⟩ := nums_free HQ.out HP.out.1 ls now
                have K := hide (zfree_any ls (by omega) (by omega) HP.out HZ.out)
                rw [f1] at K
                have HF := hide f2
                clear f1 f2
                go_wp2_with fail
                refine K.out.mono ?_
                rintro e w3 ⟨v3, rfl, ho, hz, hk3⟩
                have hv : ∃ a3 c3, v3 = .slice a3 k c3 ∧ Hs w3 a3 c3 (nums gone k) := by
                  obtain ⟨a3, c3, rfl, h3⟩ := ho.hs
                  exact ⟨a3, c3, by rw [nums_length], h3⟩
                obtain ⟨a3, c3, rfl, h3⟩ := hv
                have H3 := hide h3
                have m3 := h3.le
                have m4 := h3.most
                rw [nums_length] at m3
                unfold maxLen at m4
                have HN := hide (show Na W w3 g (i + 1) n (gone + k) from ⟨now, _, by omega, by omega, by omega, HF.out, HP.out.free ls now, hz⟩)
                clear hz hk3 ho h3 K x0 x1 x2
                go_wp2_with fail
                go_loopw [6, 11] (NcRel w3 gone k) (fun _ j _ => k - (intOf j).toNat)
                case atStart => exact ⟨0, gone, Nat.zero_le _, rfl, rfl, rfl, rfl⟩
                case round =>
                  obtain ⟨j, gj, hj, hgj, rfl, rfl, rfl⟩ := hrel
                  have HGJ := hide hgj
                  have hgb : gj ≤ 400 := by omega
                  by_cases hlt2 : j < k
                  · obtain ⟨b3, o3, rfl, hat⟩ := H3.out.lit (by rw [nums_length]; omega)
                    obtain ⟨z0, z1⟩ := hat.two j (by rw [nums_length]; exact hlt2)
                    rw [nums_at gone k j hlt2] at z0 z1
                    simp only [← hgj] at z0 z1
                    rw [show (((gj + 1 : Nat) : Int)) = (gj : Int) + 1 by omega] at z0
                    have hne := fun V => handle_nq ((gj : Int) + 1) 1 V
                    have k0 : (0 : Int) ≤ (j : Int) := by omega
                    have k1 : (j : Int) < (k : Int) := by omega
                    clear hat hgj
                    go_wp2_with fail
                    go_roundw
                    case rel => exact ⟨j + 1, gj + 1, by omega, by have := HGJ.out; omega, by go_num, by go_num, rfl⟩
                    case measure => simp [intOf]; omega
                  · obtain rfl : k = j := by omega
                    clear hgj
                    go_wp2_with fail
                    go_meet
                    exact ⟨n, gj, rfl, rfl, rfl, by rw [HGJ.out]; exact HN.out⟩
          case rest =>
            obtain ⟨n', gone', rfl, rfl, rfl, now', q', hnow', hgn', hn', hqn', hq', hz'⟩ := hcut
            have HZ := hide hz'
            have HP := hide hq'
            have HQ := hide hqn'
            have hql' : q'.length ≤ n' := by
              have := congrArg List.length hqn'
              rw [List.length_map, nums_length] at this
              omega
            obtain ⟨m, hm⟩ : ∃ m, n' - gone' = m := ⟨_, rfl⟩
            have K := hide (zwait_any (by omega) hz')
            rw [hqn', hm] at K
            have we : IntKind.i64.wrap ((n' : Int) - (gone' : Int)) = (m : Int) := by rw [wrap_in _ (by omega) (by omega)]; omega
            have hmb : m ≤ 410 := by omega
            have HM := hide hm
            clear hqn' hq' hz' hm
            apply_assumption
            go_wp2_with fail
            refine K.out.mono ?_
            rintro e w3 ⟨v3, rfl, ho, hb3⟩
            have hv : ∃ a3 c3, v3 = .slice a3 m c3 ∧ Hs w3 a3 c3 (nums gone' m) := by
              obtain ⟨a3, c3, rfl, h3⟩ := ho.hs
              exact ⟨a3, c3, by rw [nums_length], h3⟩
            obtain ⟨a3, c3, rfl, h3⟩ := hv
            have H3 := hide h3
            have m3 := h3.le
            have m4 := h3.most
            rw [nums_length] at m3
            unfold maxLen at m4
            have HN := hide (show NaRel W g l.length (.int .i64 (n' : Int)) (.int .i64 (gone' : Int)) (.int .i64 ((i + 1 : Nat) : Int)) w3 from ⟨i + 1, n', gone', by omega, rfl, rfl, rfl, now', q', hnow', hgn', hn', HQ.out, HP.out, HZ.out.below hb3⟩)
            have hgb : gone' ≤ 410 := by omega
            clear ho hb3 h3 K x0 x1 x2
            go_wp2_with fail
            go_loopw [13] (NdRel w3 m) (fun j _ => m - (intOf j).toNat)
            case atStart => exact ⟨0, Nat.zero_le _, rfl, rfl⟩
            case round =>
              obtain ⟨j, hj, rfl, rfl⟩ := hrel
              by_cases hlt2 : j < m
              · obtain ⟨b3, o3, rfl, hat⟩ := H3.out.lit (by rw [nums_length]; omega)
                obtain ⟨z0, z1⟩ := hat.two j (by rw [nums_length]; exact hlt2)
                rw [nums_at gone' m j hlt2] at z0 z1
                simp only at z0 z1
                rw [show (((gone' + j + 1 : Nat) : Int)) = (gone' : Int) + (j : Int) + 1 by omega] at z0
                have hne := fun V => handle_nq ((gone' : Int) + (j : Int) + 1) 1 V
                have k0 : (0 : Int) ≤ (j : Int) := by omega
                have k1 : (j : Int) < (m : Int) := by omega
                clear hat
                go_wp2_with fail
                go_roundw
                case rel => exact ⟨j + 1, by omega, by go_num, rfl⟩
                case measure => simp [intOf]; omega
              · obtain rfl : m = j := by omega
                go_wp2_with fail
                go_roundw
                case rel => simpa using HN.out
                case measure => simp [intOf]; omega
    · obtain rfl : i = l.length := by omega
      go_wp2_with fail
      go_ret
      exact ⟨rfl, BW.out⟩
end Go.Proofs.Ytbfbnfnjjlibbaa
