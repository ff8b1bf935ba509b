/-
  The document's limbo in memory: the contract of Free. Conditions: the limbo is one, in memory, of not more than a hundred thousand handles, of epochs up to a million.
-/
import Derived.Test.YtbfbnfnjjlibbaaEPure
import Derived.RegionTactic
namespace Go.Proofs.Ytbfbnfnjjlibbaa
open Go.RowKit
set_option linter.unusedVariables false
set_option linter.unusedSimpArgs false
set_option maxRecDepth 100000

theorem frK_no {least : Int} {now : Nat} {D : List Rt} {k : Nat} (h : k < D.length) (hm : mayR least now D[k] = false) : frK least now D (k + 1) = frK least now D k := by
  rw [frK_succ _ _ _ _ h]
  have e : goR least now D[k] = (frK least now D k)[k]'(by rw [frK_length]; exact h) := by
    rw [frK_at _ _ _ _ h]
    unfold goR
    rw [hm]
    rfl
  rw [e, List.set_getElem_self]
theorem frK_yes {least : Int} {now : Nat} {D : List Rt} {k : Nat} (h : k < D.length) (hm : mayR least now D[k] = true) : frK least now D (k + 1) = (frK least now D k).set k ⟨D[k].h, D[k].ep, true⟩ := by
  rw [frK_succ _ _ _ _ h]
  unfold goR
  rw [if_pos hm]
/-- One more went. -/
theorem Lm.goes {w : World} {g now n bG c k : Nat} {vH vB : Value} {D : List Rt} (h : Lm w g now vH vB (.slice (some ⟨bG, 0, none⟩) n c) D) (hn : D.length = n) (hk : k < D.length) {r : Rt} (hr : D[k] = r) : w.frozen? ⟨bG, k, none⟩ = false ∧ Lm (w.setCell ⟨bG, k, none⟩ (.bool true)) g now vH vB (.slice (some ⟨bG, 0, none⟩) n c) (D.set k ⟨r.h, r.ep, true⟩) := by
  subst hr hn
  have n1 : g ≠ bG := by
    rintro rfl
    exact row_ne h.rG h.blk (by decide) rfl
  refine ⟨h.rG.frozenAt k, (Below.heap_setCell _ _ _ _ n1).trans h.blk, ?_, ?_, ?_⟩
  · rw [List.length_set, rtH_set _ _ hk]
    refine row_kept h.rH fun b hb => Below.heap_setCell _ _ _ _ ?_
    rintro rfl
    obtain ⟨cur, hc⟩ := row_block h.rH hb
    exact row_ne h.rG hc (by decide) rfl
  · rw [List.length_set, rtB_set _ _ hk]
    refine row_kept h.rB fun b hb => Below.heap_setCell _ _ _ _ ?_
    rintro rfl
    obtain ⟨cur, hc⟩ := row_block h.rB hb
    exact row_ne h.rG hc (by decide) rfl
  · rw [List.length_set, rtG_set _ _ hk]
    exact (h.rG.stored k (.bool true)).1
theorem Lm.hat {w : World} {g now n bH c k : Nat} {vB vG : Value} {D : List Rt} (h : Lm w g now (.slice (some ⟨bH, 0, none⟩) n c) vB vG D) (hk : k < D.length) {r : Rt} (hr : D[k].h = r.h) : w.cell? ⟨bH, k * 2, none⟩ = some (.int .i64 r.h.1) ∧ w.cell? ⟨bH, k * 2 + 1, none⟩ = some (.int .i64 r.h.2) := by
  obtain ⟨b1, c1, b2, c2, b3, c3, e1, e2, e3, hat⟩ := h.at (by omega)
  injection e1 with e11 e12 e13
  injection e11 with e11
  injection e11 with e11
  subst e11
  obtain ⟨z0, z1, -, -⟩ := hat k hk
  rw [hr] at z0 z1
  exact ⟨z0, z1⟩
/-- Behind the append of what went. -/
theorem fr_end {w w2 w5 : World} {g now : Nat} {vH vB vG : Value} {D : List Rt} {o : Obj} {v : Value} (hM : Lm w2 g now vH vB vG D) (hm : Mod vG.ownBlock.toList w w2) (hl : ∀ b, b = g ∨ vH.ownBlock = some b ∨ vB.ownBlock = some b ∨ vG.ownBlock = some b → b < w.heap.size)
    (hg : (w2.alloc o).grownBy w5 v.ownBlock) (hv : ∀ k, v.ownBlock = some k → w.heap.size ≤ k) : Lm w5 g now vH vB vG D ∧ Mod vG.ownBlock.toList w w5 := by
  have D1 := (Below.refl w2.heap.size w2).alloc (Nat.le_refl _) o
  refine ⟨(hM.below D1).kept fun b hb => hg.block b ((hM.below D1).lts hb) fun e => ?_, (hm.trans (fs' := []) (Mod.of_below D1) (by simp)).trans (fs' := v.ownBlock.toList) (Mod.of_grown hg fun k hk => by simp [hk]) fun k hk => .inr (hv k (by simpa using hk))⟩
  have h1 := hl b hb
  have h2 := hv b e.symm
  omega
/-- A Free answers a new row of handles, and changes what went. -/
def FrRet (least : Int) (g now : Nat) (vH vB vG : Value) (D : List Rt) (w : World) (e : Ending) (w' : World) : Prop :=
  ∃ v, e = .returned v ∧ OwnH w' w.heap.size v (otD least now D) ∧ Lm w' g now vH vB vG (frD least now D) ∧ Mod vG.ownBlock.toList w w'
def FrR (w : World) (g now : Nat) (vH vB vG : Value) (D : List Rt) (least : Int) (vo vi : Value) (wr : World) : Prop :=
  ∃ k : Nat, k ≤ D.length ∧ vi = .int .i64 (k : Int) ∧ OwnH wr w.heap.size vo (otD least now (D.take k)) ∧ Lm wr g now vH vB vG (frK least now D k) ∧ Mod vG.ownBlock.toList w wr
set_option maxHeartbeats 4000000 in
theorem rfreeL_any (g now : Nat) (vH vB vG : Value) (D : List Rt) (least : Int) (hn : D.length ≤ 100000) (hnow : now ≤ 1000000) (hep : ∀ r ∈ D, r.ep ≤ 1000000) (w : World) (h : Lm w g now vH vB vG D) : Calls Try.prog 14 #[.pointer (some ⟨g, 0, none⟩), .int .i64 least] w (FrRet least g now vH vB vG D w) := by
  have H := hide h
  obtain ⟨aH, cH, rfl⟩ := row_form h.rH
  obtain ⟨aB, cB, rfl⟩ := row_form h.rB
  obtain ⟨aG, cG, rfl⟩ := row_form h.rG
  have HL := hide (fun (b : Nat) hb => h.lts (b := b) hb)
  clear h
  go_enter Try.func14, Try.ntmps14
  go_wp2_with fail
  go_loopw [5, 6] (FrR w g now (.slice aH D.length cH) (.slice aB D.length cB) (.slice aG D.length cG) D least) (fun _ i _ => D.length - (intOf i).toNat)
  case atStart => exact ⟨0, Nat.zero_le _, rfl, OwnH.nil _ _, by rw [frK_zero]; exact H.out, Mod.refl _ _⟩
  case round =>
    obtain ⟨k, hk, rfl, ho, hM, hmod⟩ := hrel
    have HO := hide ho
    have HM := hide hM
    have HMod := hide hmod
    have hlen := frK_length least now D k
    obtain ⟨y0, y1, y2, y3⟩ := hM.cells
    have hwl := otD_le least now (D.take k)
    have hkl : (D.take k).length ≤ k := by rw [List.length_take]; omega
    obtain ⟨ao, co, rfl⟩ := row_form ho
    by_cases hlt : k < D.length
    · obtain ⟨bH, cH', bB, cB', bG, cG', e1, e2, e3, hat⟩ := hM.at (by omega)
      injection e1 with e11 e12 e13
      injection e2 with e21 e22 e23
      injection e3 with e31 e32 e33
      subst e11 e13 e21 e23 e31 e33
      obtain ⟨z0, z1, z2, z3⟩ := hat k (by omega)
      have HA := hide (frK_at least now D k hlt)
      rw [HA.out] at z0 z1 z2 z3
      have i0 : (0 : Int) ≤ (k : Int) := by omega
      have i1 : (k : Int) < (D.length : Int) := by omega
      have HT := hide (otD_take least now D k hlt)
      have HN := hide (frK_no (least := least) (now := now) hlt)
      have HY := hide (frK_yes (least := least) (now := now) hlt)
      have he := hep _ (List.getElem_mem hlt)
      have hsz := hmod.size
      have hbG : bG < w.heap.size := HL.out _ (.inr (.inr (.inr rfl)))
      clear ho hM hat e12 e22 e32 hmod
      generalize D[k] = r at *
      obtain ⟨⟨p, q⟩, ep, gg⟩ := r
      simp only at z0 z1 z2 z3 he
      have we : IntKind.i64.wrap ((ep : Int) + 2) = (ep : Int) + 2 := wrap_in _ (by omega) (by omega)
      have HF := hide (fun (bG c n : Nat) (vH vB : Value) (W : World) (hW : Lm W g now vH vB (.slice (some ⟨bG, 0, none⟩) n c) (frK least now D k)) (hn : (frK least now D k).length = n) => hW.goes hn (show k < (frK least now D k).length by rw [hlen]; exact hlt) HA.out)
      cases gg with
      | true =>
        have MR := hide (show mayR least now ⟨(p, q), ep, true⟩ = false from rfl)
        go_wp2_with fail
        go_quiet (fail)
        have DQ := hide (below_q (Below.refl wr.heap.size wr) nq)
        go_wp2
        go_roundw
        case rel => exact ⟨k + 1, by omega, by go_num, by rw [HT.out, MR.out]; exact HO.out.below DQ.out, by rw [HN.out MR.out]; exact HM.out.below DQ.out, HMod.out.trans (fs' := []) (Mod.of_below DQ.out) (by simp)⟩
        case measure => simp [intOf]; omega
      | false =>
        by_cases h1 : (ep : Int) < least
        · have d1 : decide ((ep : Int) < least) = true := decide_eq_true h1
          by_cases h2 : (ep : Int) + 2 ≤ now
          · have d2 : decide ((ep : Int) + 2 ≤ (now : Int)) = true := decide_eq_true h2
            have MR := hide (show mayR least now ⟨(p, q), ep, false⟩ = true by simp [mayR, may, h1]; omega)
            go_wp2_with fail
            go_quiet (fail)
            have DQ := below_q (Below.refl wr.heap.size wr) nq
            have HO1 := hide (HO.out.below DQ)
            have HM1 := hide (HM.out.below DQ)
            have HMod1 := hide (HMod.out.trans (fs' := []) (Mod.of_below DQ) (by simp))
            have hs1 := DQ.size
            have y1 := cell_b DQ y1
            have y3 := cell_b DQ y3
            have z3 := cell_b DQ z3
            clear DQ HO HM HMod z0 z1 z2 y0 y2
            generalize wr.drewN nq = w1 at *
            obtain ⟨f3, hm2⟩ := HF.out _ _ _ _ _ w1 HM1.out hlen
            have HM2 := hide hm2
            clear hm2
            go_upto_region 7 with (fail)
            have HO2 := hide (show OwnH (w1.setCell ⟨bG, k, none⟩ (.bool true)) w.heap.size _ _ from row_kept HO1.out fun b hb => Below.heap_setCell _ _ _ _ (by have := (World.ownsRow.lt HO1.out b hb).1; rintro rfl; omega))
            have HMod2 := hide (HMod1.out.setCell (p := ⟨bG, k, none⟩) (.inl (by simp [Value.ownBlock])) (.bool true))
            have hs2 : w.heap.size ≤ (w1.setCell ⟨bG, k, none⟩ (.bool true)).heap.size := HMod2.out.size
            clear HO1 HMod1 HM1 y1 y3 z3 f3 hs1
            generalize w1.setCell ⟨bG, k, none⟩ (.bool true) = w2 at *
            obtain ⟨-, y1, -, -⟩ := HM2.out.cells
            obtain ⟨z0, z1⟩ := HM2.out.hat (k := k) (by rw [List.length_set, hlen]; exact hlt) (r := ⟨(p, q), ep, true⟩) (by rw [List.getElem_set_self])
            simp only at z0 z1
            have D1 := (Below.refl w2.heap.size w2).alloc (Nat.le_refl _) (.cells #[.int .i64 p, .int .i64 q] 43)
            have OA := hide (HO2.out.below D1)
            have NB := hide (Hb.new w2 p q).hs
            have hbs := D1.size
            clear D1
            have HT2 := hide (show otD least now (D.take (k + 1)) = otD least now (D.take k) ++ [(p, q)] by rw [HT.out, MR.out]; rfl)
            have HY2 := hide (HY.out MR.out)
            have KE := hide (fun (w5 : World) hg5 => fr_end (w5 := w5) HM2.out HMod2.out HL.out (v := .slice ao (otD least now (D.take k)).length co) (o := .cells #[.int .i64 p, .int .i64 q] 43) hg5 (fun k hk => (World.ownsRow.lt OA.out k hk).1))
            clear HT HY HN HF HA
            generalize otD least now (D.take k) = out at *
            go_wp2_with (at_builtin; refine wpList_append_h _ rfl _ _ rfl w.heap.size (.slice ao out.length co) out rfl OA.out (some ⟨w2.heap.size, 0, none⟩) 1 [(p, q)] rfl NB.out (by simp only [List.length_singleton]; omega) (by omega) ?_; intro A5 c5 w5 hown5 hg5 _; have K5 := hide (KE.out w5 hg5); have HO5 := hide hown5; clear hown5 hg5)
            go_roundw
            case rel => exact ⟨k + 1, by omega, by go_num, by rw [HT2.out]; simpa using HO5.out, by rw [HY2.out]; exact K5.out.1, K5.out.2⟩
            case measure => simp [intOf]; omega
          · have d2 : decide ((ep : Int) + 2 ≤ (now : Int)) = false := decide_eq_false h2
            have MR := hide (show mayR least now ⟨(p, q), ep, false⟩ = false by simp [mayR, may]; omega)
            go_wp2_with fail
            go_quiet (fail)
            have DQ := hide (below_q (Below.refl wr.heap.size wr) nq)
            go_wp2
            go_roundw
            case rel => exact ⟨k + 1, by omega, by go_num, by rw [HT.out, MR.out]; exact HO.out.below DQ.out, by rw [HN.out MR.out]; exact HM.out.below DQ.out, HMod.out.trans (fs' := []) (Mod.of_below DQ.out) (by simp)⟩
            case measure => simp [intOf]; omega
        · have d1 : decide ((ep : Int) < least) = false := decide_eq_false h1
          have MR := hide (show mayR least now ⟨(p, q), ep, false⟩ = false by simp [mayR, may]; omega)
          go_wp2_with fail
          go_quiet (fail)
          have DQ := hide (below_q (Below.refl wr.heap.size wr) nq)
          go_wp2
          go_roundw
          case rel => exact ⟨k + 1, by omega, by go_num, by rw [HT.out, MR.out]; exact HO.out.below DQ.out, by rw [HN.out MR.out]; exact HM.out.below DQ.out, HMod.out.trans (fs' := []) (Mod.of_below DQ.out) (by simp)⟩
          case measure => simp [intOf]; omega
    · obtain rfl : k = D.length := by omega
      have E := hide (show otD least now (D.take D.length) = otD least now D by rw [List.take_length])
      have E2 := hide (frK_all least now D)
      clear ho hM hmod
      generalize otD least now (D.take D.length) = out at *
      go_wp2_with fail
      go_ret
      exact ⟨_, rfl, by rw [← E.out]; exact HO.out, by rw [← E2.out]; exact HM.out, HMod.out⟩
end Go.Proofs.Ytbfbnfnjjlibbaa
