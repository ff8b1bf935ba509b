/-
  The contract of package epoch's Free. Conditions: the limbo is one, in memory, of not more than a hundred thousand handles, by rising epochs up to now, that is up to a million.
-/
import Derived.Test.YtbfbnfnjjlibbaaECut
import Derived.Deep.RegionWith
namespace Go.Proofs.Ytbfbnfnjjlibbaa
open Go.RowKit Go.Maps
set_option linter.unusedVariables false
set_option linter.unusedSimpArgs false
set_option maxRecDepth 100000

theorem OwnW.base {w : World} {base : Nat} {v : Value} {l : List Wp} (h : OwnW w base v l) : OwnW w 0 v l :=
  ⟨h.1, h.2.imp_right fun ⟨g, cap, cur, e, hb, h⟩ => ⟨g, cap, cur, e, Nat.zero_le _, h⟩⟩
/-- What a Free tells, and leaves. -/
def EfRet (out : List (Int × Int)) (g now : Nat) (q : List Wp) (fs : List Nat) (w : World) (e : Ending) (w' : World) : Prop := ∃ v, e = .returned v ∧ OwnH w' w.heap.size v out ∧ ∃ fs', En w' g now q fs' ∧ Mod fs w w' ∧ ∀ k ∈ fs', k ∈ fs ∨ w.heap.size ≤ k
theorem ef_end {w w3 w4 w5 : World} {g now : Nat} {v v5 vo : Value} {q qd : List Wp} {out : List (Int × Int)} (hg : g < w.heap.size) (hb : Below w.heap.size w w3) (hb4 : Below w.heap.size w w4) (hM4 : Em w4 g now v q) (hb5 : Below w4.heap.size w4 w5) (ho5 : OwnW w5 w4.heap.size v5 qd) (ho : OwnH w4 w3.heap.size vo out) (hE : Em (w5.setCell ⟨g, 1, none⟩ v5) g now v5 qd) :
    EfRet out g now qd (g :: v.ownBlock.toList) w (.returned vo) (w5.setCell ⟨g, 1, none⟩ v5) := by
  have h5 := hb4.trans (hb5.mono hb4.size)
  refine ⟨vo, rfl, ?_, _, ⟨v5, hE, rfl⟩, (Mod.of_below (fs := g :: v.ownBlock.toList) h5).setCell (p := ⟨g, 1, none⟩) (.inl (by simp)) _, fun b hk => ?_⟩
  · have h1 := ho.below hb5
    refine row_kept ⟨h1.1, h1.2.imp_right fun ⟨k, cap, cur, e, hb', h⟩ => ⟨k, cap, cur, e, Nat.le_trans hb.size hb', h⟩⟩ fun k hk => Below.heap_setCell _ _ _ _ ?_
    intro e
    dsimp only at e
    have := (World.ownsRow.lt h1 k hk).1
    have := hb.size
    omega
  · rcases mem_efs.1 hk with rfl | hk
    · exact .inl (by simp)
    · exact .inr (Nat.le_trans hb4.size (World.ownsRow.lt ho5 b hk).1)
theorem cut_lo {least : Int} {now k : Nat} {q : List Wp} (h : q.filter (fun a => may least now a.2) = q.take k) : ∀ i (h : i < q.length), i < k → may least now q[i].2 = true := by
  intro i hi hk
  have : q[i] ∈ q.take k := List.mem_take_iff_getElem.2 ⟨i, by omega, rfl⟩
  rw [← h] at this
  exact (List.mem_filter.1 this).2
theorem cut_hi {least : Int} {now k : Nat} {q : List Wp} (h : q.filter (fun a => !may least now a.2) = q.drop k) : ∀ h : k < q.length, may least now q[k].2 = false := by
  intro hk
  have : q[k] ∈ q.drop k := by rw [List.drop_eq_getElem_cons hk]; exact List.mem_cons_self ..
  rw [← h] at this
  simpa using (List.mem_filter.1 this).2
set_option maxHeartbeats 2000000 in
theorem efree_cut (g now : Nat) (v : Value) (q : List Wp) (least : Int) (k : Nat) (hk : k ≤ q.length) (hlo : ∀ i (h : i < q.length), i < k → may least now q[i].2 = true) (hhi : ∀ h : k < q.length, may least now q[k].2 = false) (hn : q.length ≤ 100000) (hnow : now ≤ 1000000) (hep : ∀ x ∈ q, x.2 ≤ 1000000) (w : World) (h : Em w g now v q) :
    Calls Try.prog 13 #[.pointer (some ⟨g, 0, none⟩), .int .i64 least] w (EfRet ((q.take k).map Prod.fst) g now (q.drop k) (g :: v.ownBlock.toList) w) := by
  obtain ⟨A, c, rfl, hW⟩ := h.2.ws
  have hmf : ∀ (fn : Fn) (first cap : Array Value) (w : World), (Instr.makeFunc fn first cap).run Try.prog w = .ok (.func fn first cap) w := fun _ _ _ _ => rfl
  have m1 := hW.le
  have m2 := hW.most
  unfold maxLen at m2
  have B1 := (Below.refl w.heap.size w).alloc (Nat.le_refl _) (.cells #[.pointer (some ⟨g, 0, none⟩)] 24)
  have B2 := B1.alloc (by simp) (.cells #[.int .i64 least] 3)
  have hM2 := h.below B2
  have hW2 := hW.below B2
  have c0 : ((w.alloc (.cells #[.pointer (some ⟨g, 0, none⟩)] 24)).alloc (.cells #[.int .i64 least] 3)).cell? ⟨w.heap.size + 1, 0, none⟩ = some (.int .i64 least) := by simp
  have c1 : ((w.alloc (.cells #[.pointer (some ⟨g, 0, none⟩)] 24)).alloc (.cells #[.int .i64 least] 3)).cell? ⟨w.heap.size, 0, none⟩ = some (.pointer (some ⟨g, 0, none⟩)) := by simp
  obtain ⟨y0, y1⟩ := hM2.cells
  have KI := hide (eidx_any g now (w.heap.size + 1) w.heap.size least hnow A c q hn hep k hk hlo hhi _ hW2 c0 c1 y0)
  have HM := hide hM2
  have HW := hide hW2
  have HB := hide B2
  have HG := hide h.lt
  clear h hW hM2 hW2 B1 B2 hlo hhi hep
  go_enter Try.func13, Try.ntmps13
  go_upto_region 2 with (fail)
  generalize (w.alloc (.cells #[.pointer (some ⟨g, 0, none⟩)] 24)).alloc (.cells #[.int .i64 least] 3) = w2 at *
  go_wp2_with fail
  refine KI.out.mono ?_
  rintro e w3 ⟨rfl, hb⟩
  have c1 := cell_b hb c1
  have HM := hide (HM.out.below hb)
  have HW := hide (HW.out.below hb)
  have HB := hide (HB.out.trans (hb.mono HB.out.size))
  obtain ⟨y0, y1⟩ := HM.out.cells
  clear hb c0 KI hmf
  have HL1 := hide (show (q.take k).length = k by rw [List.length_take]; omega)
  have HL2 := hide (show q.length = k + (q.drop k).length by rw [List.length_drop]; omega)
  have KH := hide (fun (W : World) (hb : Below w3.heap.size w3 W) => ehand_any A c (q.take k) (by rw [List.length_take]; omega) W ((HW.out.below hb).head k))
  have KT := hide (fun (W : World) (hb : Below w3.heap.size w3 W) => ws_tail (HW.out.below hb) k hk)
  have HZ := hide (fun h0 : k = 0 => show q.take k = [] ∧ q.drop k = q from ⟨by rw [h0]; rfl, by rw [h0]; rfl⟩)
  generalize q.take k = qt at *
  generalize q.drop k = qd at *
  generalize q.length = n at *
  have hcase : k < n ∨ k = n := by omega
  rw [HL1.out] at KH
  rcases hcase with hkn | rfl
  case' inl =>
    have hv : idxV k n = (k : Int) := by unfold idxV; rw [if_pos hkn]
    rw [hv]
    clear hv
    have d0 : ¬ ((k : Int) < 0) := by omega
    go_upto_region 5 with (fail)
    clear d0
  case' inr =>
    have hv : idxV k k = -1 := by unfold idxV; rw [if_neg (Nat.lt_irrefl _)]
    rw [hv]
    clear hv
    go_upto_region 5 with (fail)
  all_goals
    by_cases hk0 : k = 0
    · have d0 : ((k : Int) == 0) = true := by simp; omega
      obtain ⟨e1, e2⟩ := HZ.out hk0
      clear hk0
      go_wp2_with fail
      go_ret
      subst e1 e2
      exact ⟨_, rfl, OwnH.nil _ _, _, ⟨_, HM.out, rfl⟩, Mod.of_below HB.out, fun b hb => .inl hb⟩
    · have d0 : ((k : Int) == 0) = false := by simp; omega
      have K7 := hide (KH.out w3 (Below.refl _ _))
      have hs1 := fun (N : Nat) W => run_ws_head A N c k (by omega) W
      have HK0 := hide hk0
      clear hk0
      go_wp2_with fail
      refine K7.out.mono ?_
      rintro e w4 ⟨v4, rfl, ho, hb⟩
      have HO := hide ho
      have HB4 := hide (HB.out.trans (hb.mono HB.out.size))
      have hM4 := HM.out.below hb
      have HM4 := hide hM4
      obtain ⟨A', hs2, hW4⟩ := KT.out w4 hb
      have c1 := cell_b hb c1
      obtain ⟨-, y1⟩ := hM4.cells
      obtain ⟨ao, co, rfl⟩ := row_form ho
      have KC := hide (fun (W : World) (h : Below w4.heap.size w4 W) => eclone_any A' (c - k) qd (by have := HL2.out; omega) W (hW4.below h))
      have HS4 := hide (show w.heap.size ≤ w4.heap.size from HB4.out.size)
      clear ho hb hM4 hW4 K7 hs1 y0 KH KT HW
      generalize qt.map Prod.fst = out at *
      generalize out.length = no at *
      go_upto_region 8 with (fail)
      go_region_with (go_at_call 23
                      (with_reducible refine (KC.out _ (Below.refl _ w4).drew).mono ?_)
                      rintro e w5 ⟨v5, rfl, ho5, hb5⟩
                      have hb5' : Below w4.heap.size w4 w5 := ⟨hb5.os, hb5.tape, hb5.output, hb5.size, hb5.block⟩
                      obtain ⟨A5, c5, rfl, _⟩ := ho5.ws
                      have c1' := cell_b hb5' c1
                      obtain ⟨z1, f1, hE5⟩ := HM4.out.stored (hb5'.block g HM4.out.lt) (OwnW.base ho5)
                      have HE5 := hide hE5
                      have HB5 := hide hb5'
                      have HO5 := hide ho5
                      clear hb5 hb5' ho5 hE5)
      all_goals
        go_wp2
        go_ret
        exact ef_end HG.out HB.out HB4.out HM4.out HB5.out HO5.out HO.out HE5.out
theorem efree_any (g now : Nat) (q : List Wp) (fs : List Nat) (least : Int) (hn : q.length ≤ 100000) (hnow : now ≤ 1000000) (hu : Pst q now) (w : World) (h : En w g now q fs) :
    Calls Try.prog 13 #[.pointer (some ⟨g, 0, none⟩), .int .i64 least] w (EfRet ((q.filter fun a => may least now a.2).map Prod.fst) g now (q.filter fun a => !may least now a.2) fs w) := by
  obtain ⟨v, h, rfl⟩ := h
  obtain ⟨k, hk, e1, e2⟩ := hu.1.cut least now
  have h1 := cut_lo e1
  have h2 := cut_hi e2
  rw [e1, e2]
  exact efree_cut g now v q least k hk h1 h2 hn hnow (fun x hx => Nat.le_trans (hu.2 x hx) hnow) w h
end Go.Proofs.Ytbfbnfnjjlibbaa
