/-
  Contracts of the document's With, Without, Find, Same over pairs. Conditions: the lists can be read, and are not longer than a hundred thousand.
-/
import Derived.Test.YtcckamajiebgeaaPRow
import Derived.Test.YtcckamajiebgeaaPPure
import Derived.Laws.StructEq
namespace Go.Proofs.Ytcckamajiebgeaa
open Go.RowKit Go.Maps
set_option linter.unusedVariables false
set_option linter.unusedSimpArgs false
set_option maxRecDepth 100000

def WoRel (w : World) (k : Int) (l : List Pp) (vo vi : Value) (wr : World) : Prop := ∃ i : Nat, i ≤ l.length ∧ vi = .int .i64 (i : Int) ∧ (∃ out, out = woP k (l.take i) ∧ OwnP wr w.heap.size vo out) ∧ Below w.heap.size w wr
set_option maxHeartbeats 1000000 in
theorem without_any (A : Option Addr) (c : Nat) (l : List Pp) (k : Int) (hn : l.length ≤ 100000) (w : World) (h : Hs w A c l) :
    Calls Try.prog 13 #[.slice A l.length c, .int .i64 k] w (fun e w' => ∃ v, e = .returned (.tuple #[v, .bool (decide ((woP k l).length < l.length))]) ∧ OwnP w' w.heap.size v (woP k l) ∧ Below w.heap.size w w') := by
  have H := hide h
  clear h
  go_enter Try.func13, Try.ntmps13
  go_wp2_with fail
  go_loopw [6, 7] (WoRel w k l) (fun _ i _ => l.length - (intOf i).toNat)
  case atStart => exact ⟨0, Nat.zero_le _, rfl, ⟨[], rfl, OwnP.nil _ _⟩, Below.refl _ _⟩
  case round =>
    obtain ⟨i, hi, rfl, ⟨out, hout, ho⟩, hb⟩ := hrel
    have HB := hide hb
    have HO := hide ho
    have HE := hide hout
    obtain ⟨ao, co, rfl⟩ := row_form ho
    by_cases hlt : i < l.length
    · obtain ⟨b, o, rfl, hat⟩ := (H.out.below hb).lit (by omega)
      obtain ⟨z0, z1⟩ := hat.two i hlt
      have i0 : (0 : Int) ≤ (i : Int) := by omega
      have i1 : (i : Int) < (l.length : Int) := by omega
      have hol : out.length ≤ i := by rw [hout]; exact Nat.le_trans (woP_length _ _) (by rw [List.length_take]; omega)
      have HW := hide (show woP k (l.take (i + 1)) = if l[i].1 = k then out else out ++ [l[i]] by rw [List.take_succ_eq_append_getElem hlt, woP_snoc, ← hout])
      obtain ⟨⟨p, q⟩, hpq⟩ : ∃ pq, l[i] = pq := ⟨_, rfl⟩
      rw [hpq] at z0 z1 HW
      simp only at z0 z1 HW
      clear hb ho hat hpq hout
      by_cases e : p = k
      · have d0 : (p != k) = false := by simpa using e
        have HY := hide (show woP k (l.take (i + 1)) = out by rw [HW.out, if_pos e])
        clear e
        go_wp2_with fail
        go_roundw
        case rel => exact ⟨i + 1, by omega, by go_num, ⟨out, HY.out.symm, HO.out⟩, HB.out⟩
        case measure => simp [intOf]; omega
      · have d0 : (p != k) = true := by simpa using e
        have HY := hide (show woP k (l.take (i + 1)) = out ++ [(p, q)] by rw [HW.out, if_neg e])
        clear e
        have D1 := (Below.refl wr.heap.size wr).alloc (Nat.le_refl _) (.cells #[.int .i64 p, .int .i64 q] 65)
        have OA := hide (HO.out.below D1)
        have NB := hide (Pb.new wr p q).hs
        have B1 := hide (HB.out.trans (D1.mono HB.out.size))
        have hbs := B1.out.size
        clear D1
        go_wp2_with (at_builtin; refine wpList_append_p _ rfl _ _ rfl w.heap.size (.slice ao out.length co) out rfl OA.out (some ⟨wr.heap.size, 0, none⟩) 1 [(p, q)] rfl NB.out (by simp only [List.length_singleton]; omega) hbs ?_; intro A5 c5 w5 hown5 hg5 _; have B5 := hide (B1.out.grown hg5 hbs (fun k hk => (World.ownsRow.lt OA.out k hk).1)); have HO5 := hide hown5; clear hown5 hg5)
        go_roundw
        case rel => exact ⟨i + 1, by omega, by go_num, ⟨_, HY.out.symm, by simpa using HO5.out⟩, B5.out⟩
        case measure => simp [intOf]; omega
    · obtain rfl : i = l.length := by omega
      rw [List.take_length] at hout
      have HE2 := hide hout
      clear hb ho HE hout
      go_wp2_with fail
      go_ret2
      exact ⟨.slice ao out.length co, by rw [← HE2.out]; simp, by rw [← HE2.out]; exact HO.out, HB.out⟩
def WiRel (w : World) (k v : Int) (l : List Pp) (vo vp vi : Value) (wr : World) : Prop := ∃ i : Nat, i ≤ l.length ∧ vi = .int .i64 (i : Int) ∧ vp = .bool (seenP k (l.take i)) ∧ (∃ out, out = wiO k v (l.take i) ∧ OwnP wr w.heap.size vo out) ∧ Below w.heap.size w wr
set_option maxHeartbeats 2000000 in
theorem with_any (A : Option Addr) (c : Nat) (l : List Pp) (k v : Int) (hn : l.length ≤ 100000) (w : World) (h : Hs w A c l) :
    Calls Try.prog 12 #[.slice A l.length c, .int .i64 k, .int .i64 v] w (PsRet (wiP k v l) w) := by
  have H := hide h
  clear h
  go_enter Try.func12, Try.ntmps12
  go_wp2_with fail
  go_loopw [7, 8, 9] (WiRel w k v l) (fun _ _ i _ => l.length - (intOf i).toNat)
  case atStart => exact ⟨0, Nat.zero_le _, rfl, rfl, ⟨[], rfl, OwnP.nil _ _⟩, Below.refl _ _⟩
  case round =>
    obtain ⟨i, hi, rfl, rfl, ⟨out, hout, ho⟩, hb⟩ := hrel
    have HB := hide hb
    have HO := hide ho
    have HE := hide hout
    obtain ⟨ao, co, rfl⟩ := row_form ho
    by_cases hlt : i < l.length
    · obtain ⟨b, o, rfl, hat⟩ := H.out.lit (by omega)
      have i0 : (0 : Int) ≤ (i : Int) := by omega
      have i1 : (i : Int) < (l.length : Int) := by omega
      have hol : out.length ≤ i + 1 := by rw [hout]; exact Nat.le_trans (wiO_length _ _ _) (by rw [List.length_take]; omega)
      have HW := hide (show wiO k v (l.take (i + 1)) = (if seenP k (l.take i) = false ∧ k ≤ l[i].1 then out ++ [(k, v)] else out) ++ (if l[i].1 = k then [] else [l[i]]) by rw [List.take_succ_eq_append_getElem hlt, wiO_snoc, ← hout])
      have HS0 := hide (show seenP k (l.take (i + 1)) = (seenP k (l.take i) || decide (k ≤ l[i].1)) by rw [List.take_succ_eq_append_getElem hlt, seenP_snoc])
      have KX := hide (fun (V : World) (hV : Below w.heap.size w V) => (hat.below hV).two i hlt)
      obtain ⟨z0, z1⟩ := KX.out wr hb
      clear hb ho hat hout
      generalize seenP k (l.take i) = sn at *
      generalize l[i] = x at *
      obtain ⟨p, q⟩ := x
      simp only at z0 z1 HW HS0 KX
      by_cases hc : sn = false ∧ k ≤ p
      · obtain ⟨rfl, hkp⟩ := hc
        have d0 : decide (p ≥ k) = true := decide_eq_true hkp
        have HS := hide (show seenP k (l.take (i + 1)) = true by rw [HS0.out]; simp [hkp])
        have HW2 := hide (show wiO k v (l.take (i + 1)) = (out ++ [(k, v)]) ++ (if p = k then [] else [(p, q)]) by rw [HW.out, if_pos ⟨rfl, hkp⟩])
        have D1 := (Below.refl wr.heap.size wr).alloc (Nat.le_refl _) (.cells #[.int .i64 k, .int .i64 v] 65)
        have OA := hide (HO.out.below D1)
        have NB := hide (Pb.new wr k v).hs
        have B1 := hide (HB.out.trans (D1.mono HB.out.size))
        have hbs := B1.out.size
        clear D1 HW HS0
        go_upto_region 9 with (at_builtin; refine wpList_append_p _ rfl _ _ rfl w.heap.size (.slice ao out.length co) out rfl OA.out (some ⟨wr.heap.size, 0, none⟩) 1 [(k, v)] rfl NB.out (by simp only [List.length_singleton]; omega) hbs ?_; intro A5 c5 w5 hown5 hg5 _; have B5 := hide (B1.out.grown hg5 hbs (fun k hk => (World.ownsRow.lt OA.out k hk).1)); have HO5 := hide hown5; clear hown5 hg5)
        obtain ⟨y0, y1⟩ := KX.out w5 B5.out
        have hol2 : (out ++ [(k, v)]).length ≤ i + 2 := by simp; omega
        rw [show (out ++ [(k, v)]).length = out.length + 1 by simp] at HO5
        generalize out ++ [(k, v)] = ou2 at *
        generalize out.length + 1 = n2 at *
        clear z0 z1 OA NB B1 hbs HB HO hkp d0
        by_cases e : p = k
        · have d1 : (p != k) = false := by simpa using e
          have HY := hide (show wiO k v (l.take (i + 1)) = ou2 by rw [HW2.out, if_pos e, List.append_nil])
          clear e
          go_wp2_with fail
          go_roundw
          case rel => exact ⟨i + 1, by omega, by go_num, by rw [HS.out], ⟨_, HY.out.symm, HO5.out⟩, B5.out⟩
          case measure => simp [intOf]; omega
        · have d1 : (p != k) = true := by simpa using e
          have HY := hide (show wiO k v (l.take (i + 1)) = ou2 ++ [(p, q)] by rw [HW2.out, if_neg e])
          have D1 := (Below.refl w5.heap.size w5).alloc (Nat.le_refl _) (.cells #[.int .i64 p, .int .i64 q] 65)
          have OA := hide (HO5.out.below D1)
          have NB := hide (Pb.new w5 p q).hs
          have B1 := hide (B5.out.trans (D1.mono B5.out.size))
          have hbs := B1.out.size
          clear D1 e
          go_wp2_with (at_builtin; refine wpList_append_p _ rfl _ _ rfl w.heap.size (.slice A5 n2 c5) ou2 rfl OA.out (some ⟨w5.heap.size, 0, none⟩) 1 [(p, q)] rfl NB.out (by simp only [List.length_singleton]; omega) hbs ?_; intro A7 c7 w7 hown7 hg7 _; have B7 := hide (B1.out.grown hg7 hbs (fun k hk => (World.ownsRow.lt OA.out k hk).1)); have HO7 := hide hown7; clear hown7 hg7)
          go_roundw
          case rel => exact ⟨i + 1, by omega, by go_num, by rw [HS.out], ⟨_, HY.out.symm, by simpa using HO7.out⟩, B7.out⟩
          case measure => simp [intOf]; omega
      · have HW2 := hide (show wiO k v (l.take (i + 1)) = out ++ (if p = k then [] else [(p, q)]) by rw [HW.out, if_neg hc])
        have HS := hide (show seenP k (l.take (i + 1)) = sn by
          rw [HS0.out]
          cases sn
          · have : ¬ k ≤ p := fun h => hc ⟨rfl, h⟩
            simp [this]
          · rfl)
        clear HW HS0
        have hsk : (sn = true) ∨ (sn = false ∧ decide (p ≥ k) = false ∧ p < k) := by
          cases sn
          · have : ¬ k ≤ p := fun h => hc ⟨rfl, h⟩
            exact .inr ⟨rfl, decide_eq_false (by omega), by omega⟩
          · exact .inl rfl
        obtain ⟨b0, hb0⟩ : ∃ b0, decide (p ≥ k) = b0 := ⟨_, rfl⟩
        have hb1 : (b0 && !sn) = false := by
          rcases hsk with rfl | ⟨rfl, h2, _⟩
          · simp
          · rw [← hb0, h2]; rfl
        go_upto_region 9 with (fail)
        all_goals (try (exfalso; rcases hsk with rfl | ⟨rfl, h2, h3⟩ <;> simp_all <;> omega))
        all_goals
          by_cases e : p = k
          · have d1 : (p != k) = false := by simpa using e
            have HY := hide (show wiO k v (l.take (i + 1)) = out by rw [HW2.out, if_pos e, List.append_nil])
            clear e hsk hb0 hc
            go_wp2_with fail
            go_roundw
            case rel => exact ⟨i + 1, by omega, by go_num, by rw [HS.out], ⟨_, HY.out.symm, HO.out⟩, HB.out⟩
            case measure => simp [intOf]; omega
          · have d1 : (p != k) = true := by simpa using e
            have HY := hide (show wiO k v (l.take (i + 1)) = out ++ [(p, q)] by rw [HW2.out, if_neg e])
            have D1 := (Below.refl wr.heap.size wr).alloc (Nat.le_refl _) (.cells #[.int .i64 p, .int .i64 q] 65)
            have OA := hide (HO.out.below D1)
            have NB := hide (Pb.new wr p q).hs
            have B1 := hide (HB.out.trans (D1.mono HB.out.size))
            have hbs := B1.out.size
            clear D1 e hsk hb0 hc
            go_wp2_with (at_builtin; refine wpList_append_p _ rfl _ _ rfl w.heap.size (.slice ao out.length co) out rfl OA.out (some ⟨wr.heap.size, 0, none⟩) 1 [(p, q)] rfl NB.out (by simp only [List.length_singleton]; omega) hbs ?_; intro A7 c7 w7 hown7 hg7 _; have B7 := hide (B1.out.grown hg7 hbs (fun k hk => (World.ownsRow.lt OA.out k hk).1)); have HO7 := hide hown7; clear hown7 hg7)
            go_roundw
            case rel => exact ⟨i + 1, by omega, by go_num, by rw [HS.out], ⟨_, HY.out.symm, by simpa using HO7.out⟩, B7.out⟩
            case measure => simp [intOf]; omega
    · obtain rfl : i = l.length := by omega
      rw [List.take_length] at hout
      have hE := wiO_end k v l
      rw [← hout] at hE
      have hol : out.length ≤ l.length + 1 := by rw [hout]; exact wiO_length _ _ _
      rw [List.take_length]
      cases hsn : seenP k l with
      | true =>
        have HE2 := hide (show wiP k v l = out by rw [hE, if_pos hsn])
        clear hb ho HE hout hE hsn
        go_wp2_with fail
        go_ret
        exact ⟨_, rfl, by rw [HE2.out]; exact HO.out, HB.out⟩
      | false =>
        have HE2 := hide (show wiP k v l = out ++ [(k, v)] by rw [hE, hsn]; rfl)
        clear hb ho HE hout hE hsn
        have D1 := (Below.refl wr.heap.size wr).alloc (Nat.le_refl _) (.cells #[.int .i64 k, .int .i64 v] 65)
        have OA := hide (HO.out.below D1)
        have NB := hide (Pb.new wr k v).hs
        have B1 := hide (HB.out.trans (D1.mono HB.out.size))
        have hbs := B1.out.size
        clear D1
        go_wp2_with (at_builtin; refine wpList_append_p _ rfl _ _ rfl w.heap.size (.slice ao out.length co) out rfl OA.out (some ⟨wr.heap.size, 0, none⟩) 1 [(k, v)] rfl NB.out (by simp only [List.length_singleton]; omega) hbs ?_; intro A7 c7 w7 hown7 hg7 _; have B7 := hide (B1.out.grown hg7 hbs (fun k hk => (World.ownsRow.lt OA.out k hk).1)); have HO7 := hide hown7; clear hown7 hg7)
        go_ret
        exact ⟨_, rfl, by rw [HE2.out]; simpa using HO7.out, B7.out⟩
end Go.Proofs.Ytcckamajiebgeaa
