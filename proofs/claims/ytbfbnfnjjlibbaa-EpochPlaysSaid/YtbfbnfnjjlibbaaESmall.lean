/-
  Contracts of package epoch: New, Now, Advance, handles, Waiting. Conditions: the limbo is one, in memory, of not more than a hundred thousand handles, of epochs up to a million.
-/
import Derived.Test.YtbfbnfnjjlibbaaEMem
namespace Go.Proofs.Ytbfbnfnjjlibbaa
open Go.RowKit Go.Maps
set_option linter.unusedVariables false
set_option linter.unusedSimpArgs false
set_option maxRecDepth 100000

theorem enew_any (w : World) : Calls Try.prog 9 #[] w (fun e w' => e = .returned (.pointer (some ⟨w.heap.size, 0, none⟩)) ∧ En w' w.heap.size 0 [] [w.heap.size] ∧ Below w.heap.size w w') := by
  have B := hide ((Below.refl w.heap.size w).alloc (Nat.le_refl _) (.cells #[.int .i64 0, .slice none 0 0] 47))
  have E := hide (En.new w)
  go_enter Try.func9, Try.ntmps9
  go_wp2
  go_ret
  exact ⟨rfl, E.out, B.out⟩
theorem enow_any (g now : Nat) (q : List Wp) (fs : List Nat) (w : World) (h : En w g now q fs) : Calls Try.prog 16 #[.pointer (some ⟨g, 0, none⟩)] w (IntRet .i64 now w) := by
  obtain ⟨v, h, rfl⟩ := h
  have c0 := h.cells.1
  have B := hide (Below.refl w.heap.size w)
  clear h
  go_enter Try.func16, Try.ntmps16
  go_wp2
  go_ret
  exact ⟨rfl, B.out⟩
theorem eadv_any (g now : Nat) (q : List Wp) (fs : List Nat) (hnow : now ≤ 1000000) (w : World) (h : En w g now q fs) : Calls Try.prog 10 #[.pointer (some ⟨g, 0, none⟩)] w (EnRet (.tuple #[]) g (now + 1) q fs w) := by
  obtain ⟨c0, f0, hE, hM⟩ := h.tick (now + 1)
  have HE := hide hE
  have HM := hide hM
  have we : IntKind.i64.wrap ((now : Int) + 1) = ((now + 1 : Nat) : Int) := by rw [wrap_in _ (by omega) (by omega)]; rfl
  clear h hE hM
  go_enter Try.func10, Try.ntmps10
  go_wp2
  go_end0
  exact ⟨rfl, fs, HE.out, HM.out, fun k hk => .inl hk⟩
def EhRel (w : World) (l : List Wp) (vo vi : Value) (wr : World) : Prop := ∃ k : Nat, k ≤ l.length ∧ vi = .int .i64 (k : Int) ∧ OwnH wr w.heap.size vo ((l.take k).map Prod.fst) ∧ Below w.heap.size w wr
set_option maxHeartbeats 1000000 in
theorem ehand_any (A : Option Addr) (c : Nat) (l : List Wp) (hn : l.length ≤ 100000) (w : World) (h : Ws w A c l) : Calls Try.prog 22 #[.slice A l.length c] w (HsRet (l.map Prod.fst) w) := by
  have H := hide h
  have c1 := h.le
  have c2 := h.most
  unfold maxLen at c2
  clear h
  go_enter Try.func22, Try.ntmps22
  go_wp2_with fail
  go_loopw [3, 8] (EhRel w l) (fun _ i _ => l.length - (intOf i).toNat)
  case atStart => exact ⟨0, Nat.zero_le _, rfl, OwnH.nil _ _, Below.refl _ _⟩
  case round =>
    obtain ⟨k, hk, rfl, ho, hb⟩ := hrel
    have HB := hide hb
    have HO := hide ho
    obtain ⟨ao, co, rfl⟩ := row_form ho
    by_cases hlt : k < l.length
    · obtain ⟨b, o, rfl, hat⟩ := (H.out.below hb).lit (by omega)
      obtain ⟨z0, z1, z2⟩ := hat.three k hlt
      have i0 : (0 : Int) ≤ (k : Int) := by omega
      have i1 : (k : Int) < (l.length : Int) := by omega
      have hwl : ((l.take k).map Prod.fst).length ≤ k := by rw [List.length_map, List.length_take]; omega
      have HW := hide (show (l.take (k + 1)).map Prod.fst = (l.take k).map Prod.fst ++ [l[k].1] by rw [List.take_succ_eq_append_getElem hlt, List.map_append]; rfl)
      obtain ⟨⟨⟨p, q⟩, ep⟩, hpq⟩ : ∃ pq, l[k] = pq := ⟨_, rfl⟩
      rw [hpq] at z0 z1 z2 HW
      simp only at z0 z1 z2
      clear hb ho hat hpq
      generalize (l.take k).map Prod.fst = out at *
      go_upto_region 5 with (fail)
      have D0 := (Below.refl wr.heap.size wr).alloc (Nat.le_refl _) (.cells #[.int .i64 p, .int .i64 q, .int .i64 (ep : Int)] 49)
      have y0 := cell_of_row _ _ 0 _ _ (0, 0) (heap_alloc_new wr (.cells #[.int .i64 p, .int .i64 q, .int .i64 (ep : Int)] 49))
      have y1 := cell_of_row _ _ 1 _ _ (0, 0) (heap_alloc_new wr (.cells #[.int .i64 p, .int .i64 q, .int .i64 (ep : Int)] 49))
      have HO := hide (HO.out.below D0)
      have HB := hide (HB.out.trans (D0.mono HB.out.size))
      clear D0 z0 z1 z2
      generalize wr.alloc (.cells #[.int .i64 p, .int .i64 q, .int .i64 (ep : Int)] 49) = w1 at *
      generalize wr.heap.size = gw at *
      have D1 := (Below.refl w1.heap.size w1).alloc (Nat.le_refl _) (.cells #[.int .i64 p, .int .i64 q] 43)
      have OA := hide (HO.out.below D1)
      have NB := hide (Hb.new w1 p q).hs
      have B1 := hide (HB.out.trans (D1.mono HB.out.size))
      have hbs := B1.out.size
      clear D1
      go_wp2_with (at_builtin; refine wpList_append_h _ rfl _ _ rfl w.heap.size (.slice ao out.length co) out rfl OA.out (some ⟨w1.heap.size, 0, none⟩) 1 [(p, q)] rfl NB.out (by simp only [List.length_singleton]; omega) hbs ?_; intro A5 c5 w5 hown5 hg5 _; have B5 := hide (B1.out.grown hg5 hbs (fun k hk => (World.ownsRow.lt OA.out k hk).1)); have HO5 := hide hown5; clear hown5 hg5)
      go_roundw
      case rel => exact ⟨k + 1, by omega, by go_num, by rw [HW.out]; simpa using HO5.out, B5.out⟩
      case measure => simp [intOf]; omega
    · obtain rfl : k = l.length := by omega
      have E := hide (show (l.take l.length).map Prod.fst = l.map Prod.fst by rw [List.take_length])
      clear hb ho
      generalize (l.take l.length).map Prod.fst = out at *
      go_wp2_with fail
      go_ret
      exact ⟨_, rfl, by rw [← E.out]; exact HO.out, HB.out⟩
theorem ewait_any (g now : Nat) (q : List Wp) (fs : List Nat) (hn : q.length ≤ 100000) (w : World) (h : En w g now q fs) : Calls Try.prog 17 #[.pointer (some ⟨g, 0, none⟩)] w (HsRet (q.map Prod.fst) w) := by
  obtain ⟨v, h, rfl⟩ := h
  obtain ⟨A, c, rfl, hW⟩ := h.2.ws
  have c1 := h.cells.2
  have K := hide (ehand_any A c q hn w hW)
  clear h hW hn
  generalize q.length = n at *
  generalize q.map Prod.fst = out at *
  go_enter Try.func17, Try.ntmps17
  go_wp2_with fail
  refine K.out.mono ?_
  rintro e w1 ⟨v, rfl, ho, hb⟩
  have HO := hide ho
  have HB := hide hb
  obtain ⟨ao, co, rfl⟩ := row_form ho
  clear ho hb c1
  go_wp2
  go_ret
  exact ⟨_, rfl, HO.out, HB.out⟩
end Go.Proofs.Ytbfbnfnjjlibbaa
